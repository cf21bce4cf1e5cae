/- Layer 7 (blocks): Hold, Close, Free, Bad, Erased, State, Erases. -/
import Derived.Test.YtoakokpeomlkjaaDoorBe
namespace Go.Proofs.YtoakokpeomlkjaaDoor
open Go.RowKit Go.Maps
namespace Bk
theorem MovePost.first {w V : World} {P : Lay} {f : Pool} {i k : Nat} {L : List Int} {to : Int} {e : Ending} {w' : World} (h : MovePost V P f i k L to e w') (hg : w.grownBy V none) : MovePost w P f i k L to e w' := ⟨h.1, (Stp.of_grown hg).trans h.2⟩
theorem upd_self (f : Pool) (i k : Nat) : upd f i k (f i k) = f := by
  funext a b
  unfold upd
  split
  · rename_i h; rw [h.1, h.2]
  · rfl
set_option maxHeartbeats 800000 in
theorem Hold_in {w : World} {P : Lay} {f : Pool} (h : PoolM w P f) {i k : Nat} (hi : i < P.n) (hk : k < P.m) : Calls Tryd.prog 16 #[ptr P.p 0, num i, num k] w (MovePost w P f i k [1] 2) := by
  have hg := World.grownBy_alloc w (intsO [1]) none
  have HM := hide (move_in (h.grown hg) hi hk (heap_alloc_new w (intsO [1])) (by decide) 2 (by decide) (by decide))
  clear h
  go_enter Tryd.func16, Tryd.ntmps16
  go_wp2_with fail
  refine HM.out.mono ?_
  intro e w' hp
  have HP := hide (hp.first hg)
  obtain ⟨r, rfl⟩ : ∃ r, e = .returned (num r) := by
    rcases hp.1 with ⟨_, h1, _⟩ | ⟨_, h1, _⟩
    · exact ⟨_, h1⟩
    · exact ⟨_, h1⟩
  clear hp
  go_wp2
  go_ret
  exact HP.out
set_option maxHeartbeats 800000 in
theorem Hold_out {w : World} {P : Lay} {f : Pool} (h : PoolM w P f) {d b : Int} (hd : ¬ InPool P d b) : Calls Tryd.prog 16 #[ptr P.p 0, num d, num b] w fun e w' => e = .returned (num 1) ∧ w.grownBy w' none := by
  have hg := World.grownBy_alloc w (intsO [1]) none
  have HM := hide (move_out (h.grown hg) hd 2 (sl0 w.heap.size 1))
  clear h hd
  go_enter Tryd.func16, Tryd.ntmps16
  go_wp2_with fail
  refine HM.out.mono ?_
  rintro e w' ⟨rfl, rfl⟩
  go_wp2
  go_ret
  exact ⟨rfl, hg⟩
set_option maxHeartbeats 800000 in
theorem Close_in {w : World} {P : Lay} {f : Pool} (h : PoolM w P f) {i k : Nat} (hi : i < P.n) (hk : k < P.m) : Calls Tryd.prog 12 #[ptr P.p 0, num i, num k] w (MovePost w P f i k [2] 3) := by
  have hg := World.grownBy_alloc w (intsO [2]) none
  have HM := hide (move_in (h.grown hg) hi hk (heap_alloc_new w (intsO [2])) (by decide) 3 (by decide) (by decide))
  clear h
  go_enter Tryd.func12, Tryd.ntmps12
  go_wp2_with fail
  refine HM.out.mono ?_
  intro e w' hp
  have HP := hide (hp.first hg)
  obtain ⟨r, rfl⟩ : ∃ r, e = .returned (num r) := by
    rcases hp.1 with ⟨_, h1, _⟩ | ⟨_, h1, _⟩
    · exact ⟨_, h1⟩
    · exact ⟨_, h1⟩
  clear hp
  go_wp2
  go_ret
  exact HP.out
set_option maxHeartbeats 800000 in
theorem Close_out {w : World} {P : Lay} {f : Pool} (h : PoolM w P f) {d b : Int} (hd : ¬ InPool P d b) : Calls Tryd.prog 12 #[ptr P.p 0, num d, num b] w fun e w' => e = .returned (num 1) ∧ w.grownBy w' none := by
  have hg := World.grownBy_alloc w (intsO [2]) none
  have HM := hide (move_out (h.grown hg) hd 3 (sl0 w.heap.size 1))
  clear h hd
  go_enter Tryd.func12, Tryd.ntmps12
  go_wp2_with fail
  refine HM.out.mono ?_
  rintro e w' ⟨rfl, rfl⟩
  go_wp2
  go_ret
  exact ⟨rfl, hg⟩
set_option maxHeartbeats 800000 in
theorem Free_in {w : World} {P : Lay} {f : Pool} (h : PoolM w P f) {i k : Nat} (hi : i < P.n) (hk : k < P.m) : Calls Tryd.prog 14 #[ptr P.p 0, num i, num k] w (MovePost w P f i k [2, 3] 1) := by
  have hg := World.grownBy_alloc w (intsO [2, 3]) none
  have HM := hide (move_in (h.grown hg) hi hk (heap_alloc_new w (intsO [2, 3])) (by decide) 1 (by decide) (by decide))
  clear h
  go_enter Tryd.func14, Tryd.ntmps14
  go_wp2_with fail
  refine HM.out.mono ?_
  intro e w' hp
  have HP := hide (hp.first hg)
  obtain ⟨r, rfl⟩ : ∃ r, e = .returned (num r) := by
    rcases hp.1 with ⟨_, h1, _⟩ | ⟨_, h1, _⟩
    · exact ⟨_, h1⟩
    · exact ⟨_, h1⟩
  clear hp
  go_wp2
  go_ret
  exact HP.out
set_option maxHeartbeats 800000 in
theorem Free_out {w : World} {P : Lay} {f : Pool} (h : PoolM w P f) {d b : Int} (hd : ¬ InPool P d b) : Calls Tryd.prog 14 #[ptr P.p 0, num d, num b] w fun e w' => e = .returned (num 1) ∧ w.grownBy w' none := by
  have hg := World.grownBy_alloc w (intsO [2, 3]) none
  have HM := hide (move_out (h.grown hg) hd 1 (sl0 w.heap.size 2))
  clear h hd
  go_enter Tryd.func14, Tryd.ntmps14
  go_wp2_with fail
  refine HM.out.mono ?_
  rintro e w' ⟨rfl, rfl⟩
  go_wp2
  go_ret
  exact ⟨rfl, hg⟩
set_option maxHeartbeats 800000 in
theorem Bad_in {w : World} {P : Lay} {f : Pool} (h : PoolM w P f) {i k : Nat} (hi : i < P.n) (hk : k < P.m) : Calls Tryd.prog 15 #[ptr P.p 0, num i, num k] w (MovePost w P f i k [1, 2, 3, 4] 4) := by
  have hg := World.grownBy_alloc w (intsO [1, 2, 3, 4]) none
  have HM := hide (move_in (h.grown hg) hi hk (heap_alloc_new w (intsO [1, 2, 3, 4])) (by decide) 4 (by decide) (by decide))
  clear h
  go_enter Tryd.func15, Tryd.ntmps15
  go_wp2_with fail
  refine HM.out.mono ?_
  intro e w' hp
  have HP := hide (hp.first hg)
  obtain ⟨r, rfl⟩ : ∃ r, e = .returned (num r) := by
    rcases hp.1 with ⟨_, h1, _⟩ | ⟨_, h1, _⟩
    · exact ⟨_, h1⟩
    · exact ⟨_, h1⟩
  clear hp
  go_wp2
  go_ret
  exact HP.out
set_option maxHeartbeats 800000 in
theorem Bad_out {w : World} {P : Lay} {f : Pool} (h : PoolM w P f) {d b : Int} (hd : ¬ InPool P d b) : Calls Tryd.prog 15 #[ptr P.p 0, num d, num b] w fun e w' => e = .returned (num 1) ∧ w.grownBy w' none := by
  have hg := World.grownBy_alloc w (intsO [1, 2, 3, 4]) none
  have HM := hide (move_out (h.grown hg) hd 4 (sl0 w.heap.size 4))
  clear h hd
  go_enter Tryd.func15, Tryd.ntmps15
  go_wp2_with fail
  refine HM.out.mono ?_
  rintro e w' ⟨rfl, rfl⟩
  go_wp2
  go_ret
  exact ⟨rfl, hg⟩
set_option maxHeartbeats 800000 in
theorem State_in {w : World} {P : Lay} {f : Pool} (h : PoolM w P f) {i k : Nat} (hi : i < P.n) (hk : k < P.m) : Calls Tryd.prog 23 #[ptr P.p 0, num i, num k] w fun e w' => e = .returned (num (f i k).st) ∧ w' = w := by
  have HF := hide (find_in h hi hk)
  have c0 := h.st i k hi hk
  clear h
  go_enter Tryd.func23, Tryd.ntmps23
  go_wp2_with fail
  refine HF.out.mono ?_
  rintro e w' ⟨rfl, rfl⟩
  go_wp2
  go_ret
  exact ⟨rfl, rfl⟩
set_option maxHeartbeats 800000 in
theorem State_out {w : World} {P : Lay} {f : Pool} (h : PoolM w P f) {d b : Int} (hd : ¬ InPool P d b) : Calls Tryd.prog 23 #[ptr P.p 0, num d, num b] w fun e w' => e = .returned (num 0) ∧ w' = w := by
  have HF := hide (find_out h hd)
  clear h hd
  go_enter Tryd.func23, Tryd.ntmps23
  go_wp2_with fail
  refine HF.out.mono ?_
  rintro e w' ⟨rfl, rfl⟩
  go_wp2
  go_ret
  exact ⟨rfl, rfl⟩
set_option maxHeartbeats 800000 in
theorem Erases_in {w : World} {P : Lay} {f : Pool} (h : PoolM w P f) {i k : Nat} (hi : i < P.n) (hk : k < P.m) : Calls Tryd.prog 24 #[ptr P.p 0, num i, num k] w fun e w' => e = .returned (num (f i k).er) ∧ w' = w := by
  have HF := hide (find_in h hi hk)
  have c0 := h.er i k hi hk
  have q1 := h.e1 i k hi hk
  generalize (f i k).er = x at c0 q1
  clear h
  go_enter Tryd.func24, Tryd.ntmps24
  go_wp2_with fail
  refine HF.out.mono ?_
  rintro e w' ⟨rfl, rfl⟩
  go_wp2
  go_ret
  exact ⟨rfl, rfl⟩
set_option maxHeartbeats 800000 in
theorem Erases_out {w : World} {P : Lay} {f : Pool} (h : PoolM w P f) {d b : Int} (hd : ¬ InPool P d b) : Calls Tryd.prog 24 #[ptr P.p 0, num d, num b] w fun e w' => e = .returned (num 0) ∧ w' = w := by
  have HF := hide (find_out h hd)
  clear h hd
  go_enter Tryd.func24, Tryd.ntmps24
  go_wp2_with fail
  refine HF.out.mono ?_
  rintro e w' ⟨rfl, rfl⟩
  go_wp2
  go_ret
  exact ⟨rfl, rfl⟩
/-- One erase more. -/
def oneMore (n : Nat) : Nat := if n < 4294967295 then n + 1 else n
def ErasedPost (w : World) (P : Lay) (f : Pool) (i k : Nat) (e : Ending) (w' : World) : Prop :=
  ((f i k).st = 4 ∧ e = .returned (num 71) ∧ PoolM w' P f ∨ (f i k).st ≠ 4 ∧ e = .returned (num 0) ∧ PoolM w' P (upd f i k ⟨(f i k).st, oneMore (f i k).er⟩)) ∧ Stp P.K w w'
set_option maxHeartbeats 800000 in
theorem Erased_in {w : World} {P : Lay} {f : Pool} (h : PoolM w P f) {i k : Nat} (hi : i < P.n) (hk : k < P.m) : Calls Tryd.prog 17 #[ptr P.p 0, num i, num k] w (ErasedPost w P f i k) := by
  have HF := hide (find_in h hi hk)
  have c0 := h.st i k hi hk
  have c1 := h.er i k hi hk
  have hf := (h.ob i hi).free (k * 2 + 1)
  have q9 := h.e1 i k hi hk
  have HP := hide h
  by_cases hs : (f i k).st = 4
  · have HS := hide hs
    have e1 : ((f i k).st == 4) = true := by simpa using hs
    clear h hs
    go_enter Tryd.func17, Tryd.ntmps17
    go_wp2_with fail
    refine HF.out.mono ?_
    rintro e w' ⟨rfl, rfl⟩
    go_wp2
    go_ret
    exact ⟨.inl ⟨HS.out, rfl, HP.out⟩, Stp.refl _ _⟩
  · have HS := hide hs
    have e1 : ((f i k).st == 4) = false := by simpa using hs
    by_cases hm : (f i k).er < 4294967295
    · have HU : Hid (PoolM (w.setCell ⟨P.b i, k * 2 + 1, none⟩ (q32 ((f i k).er + 1))) P (upd f i k ⟨(f i k).st, oneMore (f i k).er⟩)) := by
        have := h.setEr hi hk ((f i k).er + 1) (by omega)
        rw [oneMore, if_pos hm]; exact this
      generalize hx : (f i k).er = x at c1 q9 hm HU
      have HX := hide hx
      have q1 : (x : Int) < 4294967295 := by omega
      clear h hs hx
      go_enter Tryd.func17, Tryd.ntmps17
      go_wp2_with fail
      refine HF.out.mono ?_
      rintro e w' ⟨rfl, rfl⟩
      go_wp2
      go_ret
      exact ⟨.inr ⟨HS.out, rfl, by rw [HX.out]; exact HU.out⟩, (Stp.refl _ _).set (.inl ⟨i, hi, rfl⟩) _⟩
    · have HU : Hid (PoolM w P (upd f i k ⟨(f i k).st, oneMore (f i k).er⟩)) := by
        rw [oneMore, if_neg hm]
        have : (⟨(f i k).st, (f i k).er⟩ : Blk) = f i k := rfl
        rw [this, upd_self]; exact h
      have q2 : ((f i k).er : Int) = 4294967295 := by omega
      rw [show ((f i k).er) = 4294967295 by omega] at c1
      clear h hs hm q2
      go_enter Tryd.func17, Tryd.ntmps17
      go_wp2_with fail
      refine HF.out.mono ?_
      rintro e w' ⟨rfl, rfl⟩
      go_wp2
      go_ret
      exact ⟨.inr ⟨HS.out, rfl, HU.out⟩, Stp.refl _ _⟩
set_option maxHeartbeats 800000 in
theorem Erased_out {w : World} {P : Lay} {f : Pool} (h : PoolM w P f) {d b : Int} (hd : ¬ InPool P d b) : Calls Tryd.prog 17 #[ptr P.p 0, num d, num b] w fun e w' => e = .returned (num 1) ∧ w' = w := by
  have HF := hide (find_out h hd)
  clear h hd
  go_enter Tryd.func17, Tryd.ntmps17
  go_wp2_with fail
  refine HF.out.mono ?_
  rintro e w' ⟨rfl, rfl⟩
  go_wp2
  go_ret
  exact ⟨rfl, rfl⟩
end Bk
end Go.Proofs.YtoakokpeomlkjaaDoor
