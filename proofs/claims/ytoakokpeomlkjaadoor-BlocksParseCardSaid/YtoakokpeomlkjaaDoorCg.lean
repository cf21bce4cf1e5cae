/- Layer 7 (blocks): a call of the program and the document's call behind it. -/
import Derived.Test.YtoakokpeomlkjaaDoorCf
namespace Go.Proofs.YtoakokpeomlkjaaDoor
open Go.RowKit Go.Maps
namespace Bk
set_option maxHeartbeats 1600000 in
set_option maxRecDepth 8000 in
theorem Take_out {w : World} {P : Lay} {f : Pool} (h : PoolM w P f) {d : Int} (hd : ¬ InDie P d) : Calls Tryd.prog 10 #[ptr P.p 0, num d] w fun e w' => e = .returned (.tuple #[num 0, num 1]) ∧ w' = w := by
  have HD := hide (die_out h hd)
  have hny := nil_yes
  clear h hd
  go_enter Tryd.func10, Tryd.ntmps10
  go_wp2_with fail
  refine HD.out.mono ?_
  rintro e w' ⟨rfl, rfl⟩
  go_wp2
  go_ret2
  exact ⟨rfl, rfl⟩
/-- The two pools lie apart. -/
structure Apart (P : Lay) (R : Ref) : Prop where
  p : ¬ R.K P.p
  d : ¬ R.K P.d
  b : ∀ i, i < P.n → ¬ R.K (P.b i)
  r : ¬ P.K R.r
  s : ¬ P.K R.sb
  e : ¬ P.K R.eb
/-- Both pools, of the same blocks. -/
structure Two (w : World) (P : Lay) (R : Ref) (f : Pool) : Prop where
  p : PoolM w P f
  r : RefM w R f
def KK (P : Lay) (R : Ref) : Nat → Prop := fun g => P.K g ∨ R.K g
def Nxt (w : World) (P : Lay) (R : Ref) (w' : World) : Prop := (∃ f', Two w' P R f') ∧ Stp (KK P R) w w'
/-- The program's call, and the document's behind it: they answer the same. -/
def Step (na : Nat) (aa : Array Value) (nb : Nat) (ab : Array Value) (w : World) (P : Lay) (R : Ref) : Prop :=
  Calls Tryd.prog na aa w fun e w1 => ∃ x : Int, e = .returned (num x) ∧ Calls Tryd.prog nb ab w1 fun e w2 => e = .returned (num x) ∧ Nxt w P R w2
def StepT (na : Nat) (aa : Array Value) (nb : Nat) (ab : Array Value) (w : World) (P : Lay) (R : Ref) : Prop :=
  Calls Tryd.prog na aa w fun e w1 => ∃ x y : Int, e = .returned (.tuple #[num x, num y]) ∧ Calls Tryd.prog nb ab w1 fun e w2 => e = .returned (.tuple #[num x, num y]) ∧ Nxt w P R w2
theorem Two.grown {w w' : World} {P : Lay} {R : Ref} {f : Pool} (h : Two w P R f) (g : w.grownBy w' none) : Two w' P R f := ⟨h.p.grown g, h.r.grown g⟩
theorem stp_l {P : Lay} {R : Ref} {w w' : World} (s : Stp P.K w w') : Stp (KK P R) w w' := s.more fun _ => .inl
theorem stp_r {P : Lay} {R : Ref} {w w' : World} (s : Stp R.K w w') : Stp (KK P R) w w' := s.more fun _ => .inr
theorem Apart.pool {P : Lay} {R : Ref} (a : Apart P R) {w w' : World} {f : Pool} (h : PoolM w P f) (s : Stp R.K w w') : PoolM w' P f := h.stp s a.p a.d a.b
theorem Apart.ref {P : Lay} {R : Ref} (a : Apart P R) {w w' : World} {f : Pool} (h : RefM w R f) (s : Stp P.K w w') : RefM w' R f := h.stp s a.r a.s a.e
theorem step_turn {w : World} {P : Lay} {R : Ref} {f : Pool} (a : Apart P R) (h : Two w P R f) {i k : Nat} {na nb : Nat} {aa ab : Array Value} {L : List Int} {Lp : Int → Prop} {to : Int}
    (hA : Calls Tryd.prog na aa w (MovePost w P f i k L to)) (hB : ∀ V, RefM V R f → Calls Tryd.prog nb ab V (RTurn V R f i k Lp to)) (hL : (f i k).st ∈ L ↔ Lp (f i k).st) : Step na aa nb ab w P R := by
  refine hA.mono ?_
  rintro e w1 ⟨hp, s1⟩
  have hr := a.ref h.r s1
  rcases hp with ⟨hm, rfl, hP⟩ | ⟨hm, rfl, hP⟩
  · refine ⟨_, rfl, (hB w1 hr).mono ?_⟩
    rintro e w2 hq
    rcases hq with ⟨_, rfl, hR, s2⟩ | ⟨hn, _, _⟩
    · exact ⟨rfl, ⟨_, a.pool hP s2, hR⟩, (stp_l s1).trans (stp_r s2)⟩
    · exact absurd (hL.1 hm) hn
  · refine ⟨_, rfl, (hB w1 hr).mono ?_⟩
    rintro e w2 hq
    rcases hq with ⟨hn, _, _, _⟩ | ⟨_, rfl, rfl⟩
    · exact absurd (hL.2 hn) hm
    · exact ⟨rfl, ⟨_, hP, hr⟩, stp_l s1⟩
theorem step_out {w : World} {P : Lay} {R : Ref} {f : Pool} (h : Two w P R f) {na nb : Nat} {aa ab : Array Value} {x : Int}
    (hA : Calls Tryd.prog na aa w fun e w' => e = .returned (num x) ∧ w.grownBy w' none) (hB : ∀ V, RefM V R f → Calls Tryd.prog nb ab V fun e w' => e = .returned (num x) ∧ w' = V) : Step na aa nb ab w P R := by
  refine hA.mono ?_
  rintro e w1 ⟨rfl, g⟩
  refine ⟨_, rfl, (hB w1 (h.r.grown g)).mono ?_⟩
  rintro e w2 ⟨rfl, rfl⟩
  exact ⟨rfl, ⟨_, h.grown g⟩, .of_grown g⟩
theorem upd_id (f : Pool) (i k : Nat) : upd f i k ⟨(f i k).st, (f i k).er⟩ = f := by
  funext a b
  by_cases h : a = i ∧ b = k
  · obtain ⟨rfl, rfl⟩ := h; rw [upd_same]
  · rw [upd_other _ h]
theorem step_erased {w : World} {P : Lay} {R : Ref} {f : Pool} (a : Apart P R) (h : Two w P R f) {i k : Nat} {na nb : Nat} {aa ab : Array Value}
    (hA : Calls Tryd.prog na aa w (ErasedPost w P f i k)) (hB : ∀ V, RefM V R f → Calls Tryd.prog nb ab V (RErased V R f i k)) : Step na aa nb ab w P R := by
  refine hA.mono ?_
  rintro e w1 ⟨hp, s1⟩
  have hr := a.ref h.r s1
  rcases hp with ⟨hm, rfl, hP⟩ | ⟨hm, rfl, hP⟩
  · refine ⟨_, rfl, (hB w1 hr).mono ?_⟩
    rintro e w2 hq
    rcases hq with ⟨_, rfl, rfl⟩ | ⟨hn, _⟩ | ⟨hn, _⟩
    · exact ⟨rfl, ⟨_, hP, hr⟩, stp_l s1⟩
    · exact absurd hm hn
    · exact absurd hm hn
  · refine ⟨_, rfl, (hB w1 hr).mono ?_⟩
    rintro e w2 hq
    rcases hq with ⟨hn, _⟩ | ⟨_, hc, rfl, hR, s2⟩ | ⟨_, hc, rfl, rfl⟩
    · exact absurd hn hm
    · rw [oneMore, if_pos hc] at hP
      exact ⟨rfl, ⟨_, a.pool hP s2, hR⟩, (stp_l s1).trans (stp_r s2)⟩
    · rw [oneMore, if_neg hc, upd_id] at hP
      exact ⟨rfl, ⟨_, hP, hr⟩, stp_l s1⟩
theorem step_take {w : World} {P : Lay} {R : Ref} {f : Pool} (a : Apart P R) (h : Two w P R f) (hn : R.n = P.n) (hm : R.m = P.m) (d : Int) : StepT 10 #[ptr P.p 0, num d] 11 #[ptr R.r 0, num d] w P R := by
  by_cases hd : 0 ≤ d ∧ d < R.n
  · obtain ⟨i, rfl⟩ : ∃ i : Nat, d = (i : Int) := ⟨d.toNat, by omega⟩
    refine (Take_in h.p (by omega)).mono ?_
    rintro e w1 ⟨hp, s1⟩
    have hr := a.ref h.r s1
    have hB := kTake_in hr (i := i) (by omega) (by have := h.p.m1; omega)
    rcases hp with ⟨hk, rfl, hP⟩ | ⟨x, hk, rfl, hP⟩
    · refine ⟨_, _, rfl, hB.mono ?_⟩
      rintro e w2 ⟨hq, s2⟩
      rcases hq with ⟨_, rfl, hR⟩ | ⟨y, hy, _, _⟩
      · exact ⟨rfl, ⟨_, a.pool hP s2, hR⟩, (stp_l s1).trans (stp_r s2)⟩
      · rw [hm, pickN, hk] at hy; simp at hy
    · refine ⟨_, _, rfl, hB.mono ?_⟩
      rintro e w2 ⟨hq, s2⟩
      rcases hq with ⟨hy, _, _⟩ | ⟨y, hy, rfl, hR⟩
      · rw [hm, pickN, hk] at hy; simp at hy
      · rw [hm, pickN, hk] at hy
        have hy : x.1 = y := by simpa using hy
        subst hy
        exact ⟨rfl, ⟨_, a.pool hP s2, hR⟩, (stp_l s1).trans (stp_r s2)⟩
  · refine (Take_out h.p (by unfold InDie; omega)).mono ?_
    rintro e w1 ⟨rfl, rfl⟩
    refine ⟨_, _, rfl, (kTake_out h.r hd).mono ?_⟩
    rintro e w2 ⟨rfl, rfl⟩
    exact ⟨rfl, ⟨_, h⟩, Stp.refl _ _⟩
theorem ref_cases {R : Ref} (d b : Int) : (∃ i k : Nat, d = i ∧ b = k ∧ i < R.n ∧ k < R.m) ∨ ¬ InRef R d b := by
  by_cases hd : InRef R d b
  · unfold InRef at hd
    exact .inl ⟨d.toNat, b.toNat, by omega, by omega, by omega, by omega⟩
  · exact .inr hd
theorem pool_no {P : Lay} {R : Ref} (hn : R.n = P.n) (hm : R.m = P.m) {d b : Int} (hd : ¬ InRef R d b) : ¬ InPool P d b := by unfold InRef at hd; unfold InPool; omega
theorem step_close {w : World} {P : Lay} {R : Ref} {f : Pool} (a : Apart P R) (h : Two w P R f) (hn : R.n = P.n) (hm : R.m = P.m) (d b : Int) : Step 12 #[ptr P.p 0, num d, num b] 13 #[ptr R.r 0, num 1, num d, num b] w P R := by
  rcases ref_cases (R := R) d b with ⟨i, k, rfl, rfl, hi, hk⟩ | hd
  · exact step_turn a h (Close_in h.p (by omega) (by omega)) (fun V hr => kTurnClose hr hi hk) (by simp)
  · exact step_out h (Close_out h.p (pool_no hn hm hd)) fun V hr => kTurn_out hr 1 hd
theorem step_free {w : World} {P : Lay} {R : Ref} {f : Pool} (a : Apart P R) (h : Two w P R f) (hn : R.n = P.n) (hm : R.m = P.m) (d b : Int) : Step 14 #[ptr P.p 0, num d, num b] 13 #[ptr R.r 0, num 2, num d, num b] w P R := by
  rcases ref_cases (R := R) d b with ⟨i, k, rfl, rfl, hi, hk⟩ | hd
  · exact step_turn a h (Free_in h.p (by omega) (by omega)) (fun V hr => kTurnFree hr hi hk) (by simp)
  · exact step_out h (Free_out h.p (pool_no hn hm hd)) fun V hr => kTurn_out hr 2 hd
theorem step_bad {w : World} {P : Lay} {R : Ref} {f : Pool} (a : Apart P R) (h : Two w P R f) (hn : R.n = P.n) (hm : R.m = P.m) (d b : Int) : Step 15 #[ptr P.p 0, num d, num b] 13 #[ptr R.r 0, num 3, num d, num b] w P R := by
  rcases ref_cases (R := R) d b with ⟨i, k, rfl, rfl, hi, hk⟩ | hd
  · exact step_turn a h (Bad_in h.p (by omega) (by omega)) (fun V hr => kTurnBad hr hi hk) (by have := h.p.s1 i k (by omega) (by omega); have := h.p.s4 i k (by omega) (by omega); simp; omega)
  · exact step_out h (Bad_out h.p (pool_no hn hm hd)) fun V hr => kTurn_out hr 3 hd
theorem step_hold {w : World} {P : Lay} {R : Ref} {f : Pool} (a : Apart P R) (h : Two w P R f) (hn : R.n = P.n) (hm : R.m = P.m) (d b : Int) : Step 16 #[ptr P.p 0, num d, num b] 13 #[ptr R.r 0, num 5, num d, num b] w P R := by
  rcases ref_cases (R := R) d b with ⟨i, k, rfl, rfl, hi, hk⟩ | hd
  · exact step_turn a h (Hold_in h.p (by omega) (by omega)) (fun V hr => kTurnHold hr hi hk) (by simp)
  · exact step_out h (Hold_out h.p (pool_no hn hm hd)) fun V hr => kTurn_out hr 5 hd
theorem step_era {w : World} {P : Lay} {R : Ref} {f : Pool} (a : Apart P R) (h : Two w P R f) (hn : R.n = P.n) (hm : R.m = P.m) (d b : Int) : Step 17 #[ptr P.p 0, num d, num b] 13 #[ptr R.r 0, num 4, num d, num b] w P R := by
  rcases ref_cases (R := R) d b with ⟨i, k, rfl, rfl, hi, hk⟩ | hd
  · exact step_erased a h (Erased_in h.p (by omega) (by omega)) (fun V hr => kTurnErased hr hi hk (h.p.e1 i k (by omega) (by omega)))
  · refine step_out h ((Erased_out h.p (pool_no hn hm hd)).mono ?_) fun V hr => kTurn_out hr 4 hd
    rintro e w' ⟨rfl, rfl⟩
    exact ⟨rfl, grownBy_refl _ _⟩
end Bk
end Go.Proofs.YtoakokpeomlkjaaDoor
