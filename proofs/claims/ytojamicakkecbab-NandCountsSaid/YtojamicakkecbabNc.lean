/- Layer 4 (nand): find that finds nothing, Next, Events, Ops, refuses. -/
import Derived.Test.YtojamicakkecbabNb
import Derived.Deep.RegionHeld3
import Derived.StillTailTactics
namespace Go.Proofs.Ytojamicakkecbab
open Go.RowKit Go.Maps
namespace Nd
/-- Is there such a block? -/
def inB (A : St) (d b : Int) : Bool := decide (0 ≤ d) && decide (d < A.D) && decide (0 ≤ b) && decide (b < A.B)
set_option maxHeartbeats 800000 in
theorem find_no {w : World} {M : Lay} {A : St} {lab : Lab} (h : Arr w M A lab) (d b : Int) (hn : inB A d b = false) :
    Calls Try.prog 20 #[ptr M.a 0, num d, num b] w fun e w' => e = .returned (.pointer none) ∧ w' = w := by
  have c0 := h.cD.1
  have c1 := h.cB.1
  by_cases h1 : d < 0
  · go_enter Try.func20, Try.ntmps20
    go_wp2_with (go_at_call 19; refine (none_ok h).mono ?_; rintro e w' ⟨rfl, rfl⟩)
    go_ret
    exact ⟨rfl, rfl⟩
  by_cases h2 : (A.D : Int) ≤ d
  · go_enter Try.func20, Try.ntmps20
    go_wp2_with (go_at_call 19; refine (none_ok h).mono ?_; rintro e w' ⟨rfl, rfl⟩)
    go_ret
    exact ⟨rfl, rfl⟩
  by_cases h3 : b < 0
  · have h2' : ¬ (A.D : Int) ≤ d := h2
    go_enter Try.func20, Try.ntmps20
    go_wp2_with (go_at_call 19; refine (none_ok h).mono ?_; rintro e w' ⟨rfl, rfl⟩)
    go_ret
    exact ⟨rfl, rfl⟩
  by_cases h4 : (A.B : Int) ≤ b
  · go_enter Try.func20, Try.ntmps20
    go_wp2_with (go_at_call 19; refine (none_ok h).mono ?_; rintro e w' ⟨rfl, rfl⟩)
    go_ret
    exact ⟨rfl, rfl⟩
  · simp [inB] at hn
    omega
set_option maxHeartbeats 800000 in
theorem next_ok {w : World} {M : Lay} {A : St} {lab : Lab} (h : Arr w M A lab) (d b : Nat) (hd : d < A.D) (hb : b < A.B) :
    Calls Try.prog 8 #[ptr M.a 0, num d, num b] w fun e w' => e = .returned (num (A.blk d b).next) ∧ w' = w := by
  have c0 := (h.blk d b hd hb).next.1
  go_enter Try.func8, Try.ntmps8
  go_wp2_with (go_at_call 20; refine (find_ok h d b hd hb).mono ?_; rintro e w' ⟨rfl, rfl⟩)
  go_ret
  exact ⟨rfl, rfl⟩
set_option maxHeartbeats 800000 in
theorem next_no {w : World} {M : Lay} {A : St} {lab : Lab} (h : Arr w M A lab) (d b : Int) (hn : inB A d b = false) :
    Calls Try.prog 8 #[ptr M.a 0, num d, num b] w fun e w' => e = .returned (num (-1)) ∧ w' = w := by
  go_enter Try.func8, Try.ntmps8
  go_wp2_with (go_at_call 20; refine (find_no h d b hn).mono ?_; rintro e w' ⟨rfl, rfl⟩)
  go_ret
  exact ⟨rfl, rfl⟩
theorem loadA_ok {w : World} {M : Lay} {A : St} {lab : Lab} (h : Arr w M A lab) (o : Nat) (h1 : 7 ≤ o) (h2 : o < 13) :
    Calls Try.prog 30 #[ptr M.a o] w fun e w' => e = .returned (num (A.cnt (o - 7))) ∧ w' = w := by
  have hc := (h.cCnt (o - 7) (by omega)).1
  rw [show 7 + (o - 7) = o by omega] at hc
  exact load_ok hc
theorem follows_mixed : Try.prog.follows .mixedOrders = true := by kernel_rfl
def evV (A : St) : Value := .agg #[num (A.cnt 0), num (A.cnt 1), num (A.cnt 2), num (A.cnt 3), num (A.cnt 4), num (A.cnt 5)]
set_option maxRecDepth 4000 in
set_option maxHeartbeats 3200000 in
theorem events_ok {w : World} {M : Lay} {A : St} {lab : Lab} (h : Arr w M A lab) :
    Calls Try.prog 13 #[ptr M.a 0] w fun e w' => e = .returned (evV A) ∧ w.grownBy w' none := by
  have h1 := h.alloc (.cells #[num 0, num 0, num 0, num 0, num 0, num 0] 32)
  have hg1 := World.grownBy_alloc w (.cells #[num 0, num 0, num 0, num 0, num 0, num 0] 32) none
  go_enter Try.func13, Try.ntmps13
  go_wp2_with (go_at_call 19; refine (none_ok h1).mono ?_; rintro e w' ⟨rfl, rfl⟩)
  have HFo : Hid (Try.prog.follows .mixedOrders = true) := follows_mixed
  have h2 := h1.drew
  go_still_tail 25, HFo.out
  still_call (loadA_ok h2 _ (by decide) (by decide))
  repeat still_step
  still_call (loadA_ok h2 _ (by decide) (by decide))
  repeat still_step
  still_call (loadA_ok h2 _ (by decide) (by decide))
  repeat still_step
  still_call (loadA_ok h2 _ (by decide) (by decide))
  repeat still_step
  still_call (loadA_ok h2 _ (by decide) (by decide))
  repeat still_step
  still_call (loadA_ok h2 _ (by decide) (by decide))
  repeat still_step
  refine wpStill_nil ?_
  change wpList _ _ _ _ _ ((w.alloc (.cells #[num 0, num 0, num 0, num 0, num 0, num 0] 32)).drew)
  go_wp2
  exact bodyPost_ret (v := evV A) (by simp [results, Try.results13, go_sem, evV]) rfl ⟨rfl, grownBy_drew (World.grownBy_alloc w _ none)⟩
theorem num_le {A : St} {N : Int} (h : Bd A N) : 0 ≤ A.cnt 0 ∧ A.cnt 0 ≤ N ∧ 0 ≤ A.cnt 1 ∧ A.cnt 1 ≤ N ∧ 0 ≤ A.cnt 2 ∧ A.cnt 2 ≤ N :=
  ⟨(h.cnt 0 (by decide)).1, (h.cnt 0 (by decide)).2, (h.cnt 1 (by decide)).1, (h.cnt 1 (by decide)).2, (h.cnt 2 (by decide)).1, (h.cnt 2 (by decide)).2⟩
set_option maxHeartbeats 800000 in
theorem ops_ok {w : World} {M : Lay} {A : St} {lab : Lab} (h : Arr w M A lab) {N : Int} (hB : Bd A N) (hN : N ≤ 1000000) :
    Calls Try.prog 14 #[ptr M.a 0] w fun e w' => e = .returned (num A.num) ∧ w.grownBy w' none := by
  obtain ⟨a1, a2, a3, a4, a5, a6⟩ := num_le hB
  go_enter Try.func14, Try.ntmps14
  go_wp2_with (go_at_call 13; refine (events_ok h).mono ?_; rintro e w1 ⟨rfl, hg⟩; unfold evV)
  go_ret
  exact ⟨rfl, grownBy_trans hg (World.grownBy_alloc w1 _ none)⟩
/-- Why there is no operation, if there is a reason. -/
def refS (A : St) (d b p : Int) : Int := if A.on = false then 40 else if inB A d b = false ∨ p < 0 ∨ (A.P : Int) ≤ p then 1 else 0
theorem inB_nat {A : St} {d b : Int} (h : inB A d b = true) : ∃ d' b' : Nat, d = d' ∧ b = b' ∧ d' < A.D ∧ b' < A.B := by
  simp [inB] at h
  exact ⟨d.toNat, b.toNat, by omega, by omega, by omega, by omega⟩
set_option maxHeartbeats 800000 in
theorem refuses_ok {w : World} {M : Lay} {A : St} {lab : Lab} (h : Arr w M A lab) (d b p : Int) :
    Calls Try.prog 21 #[ptr M.a 0, num d, num b, num p] w fun e w' => e = .returned (num (refS A d b p)) ∧ w' = w := by
  have hn := hnot
  cases hon : A.on with
  | false =>
    have HR : Hid (refS A d b p = 40) := by simp [Hid, refS, hon]
    have hp := power_ok h
    rw [hon] at hp
    have HP : Hid (Calls Try.prog 7 #[ptr M.a 0] w fun e w' => e = .returned (.bool false) ∧ w' = w) := hp
    clear hp hon
    go_enter Try.func21, Try.ntmps21
    go_wp2_with fail
    refine HP.out.mono ?_
    rintro e w' ⟨rfl, rfl⟩
    go_wp2_with fail
    go_ret
    exact ⟨ret_int HR.out.symm, rfl⟩
  | true =>
    have hp := power_ok h
    rw [hon] at hp
    have HP : Hid (Calls Try.prog 7 #[ptr M.a 0] w fun e w' => e = .returned (.bool true) ∧ w' = w) := hp
    clear hp
    have c2 := h.cP.1
    cases hin : inB A d b with
    | false =>
      have HR : Hid (refS A d b p = 1) := by simp [Hid, refS, hon, hin]
      have HF : Hid (Calls Try.prog 20 #[ptr M.a 0, num d, num b] w fun e w' => e = .returned (.pointer none) ∧ w' = w) := find_no h d b hin
      clear hon hin
      go_enter Try.func21, Try.ntmps21
      go_wp2_with fail
      refine HP.out.mono ?_
      rintro e w' ⟨rfl, rfl⟩
      go_wp2_with fail
      refine HF.out.mono ?_
      rintro e w' ⟨rfl, rfl⟩
      go_wp2_with fail
      go_ret
      exact ⟨ret_int HR.out.symm, rfl⟩
    | true =>
      obtain ⟨d', b', rfl, rfl, hd, hb⟩ := inB_nat hin
      have HF : Hid (Calls Try.prog 20 #[ptr M.a 0, num d', num b'] w fun e w' => e = .returned (ptr (M.bk d') (b' * 7)) ∧ w' = w) := find_ok h d' b' hd hb
      by_cases h1 : p < 0
      · have HR : Hid (refS A d' b' p = 1) := by simp [Hid, refS, hon, hin, h1]
        clear hon hin
        go_enter Try.func21, Try.ntmps21
        go_wp2_with fail
        refine HP.out.mono ?_
        rintro e w' ⟨rfl, rfl⟩
        go_wp2_with fail
        refine HF.out.mono ?_
        rintro e w' ⟨rfl, rfl⟩
        go_wp2_with fail
        go_ret
        exact ⟨ret_int HR.out.symm, rfl⟩
      by_cases h2 : (A.P : Int) ≤ p
      · have HR : Hid (refS A d' b' p = 1) := by simp [Hid, refS, hon, hin, h2]
        clear hon hin
        go_enter Try.func21, Try.ntmps21
        go_wp2_with fail
        refine HP.out.mono ?_
        rintro e w' ⟨rfl, rfl⟩
        go_wp2_with fail
        refine HF.out.mono ?_
        rintro e w' ⟨rfl, rfl⟩
        go_wp2_with fail
        go_ret
        exact ⟨ret_int HR.out.symm, rfl⟩
      · have HR : Hid (refS A d' b' p = 0) := by simp [Hid, refS, hon, hin, h1, h2]
        clear hon hin
        go_enter Try.func21, Try.ntmps21
        go_wp2_with fail
        refine HP.out.mono ?_
        rintro e w' ⟨rfl, rfl⟩
        go_wp2_with fail
        refine HF.out.mono ?_
        rintro e w' ⟨rfl, rfl⟩
        go_wp2_with fail
        go_ret
        exact ⟨ret_int HR.out.symm, rfl⟩
end Nd
end Go.Proofs.Ytojamicakkecbab
