/- awake, picked and field: what each statement begins with. -/
import Derived.Test.YtkbafbhhoemkcaaDoorGen
namespace Go.Proofs.YtkbafbhhoemkcaaDoor
open Go.RowKit
namespace Gf
theorem Fld_new {w : World} {m : Nat} (hm : Em m) (hg : Glob w) (h0 : 0 < w.heap.size) : Fld (w.alloc (blk m 0 (.slice none 0 0) (.slice none 0 0))) w.heap.size m :=
  .inl ⟨hm, hg.kept (Below.heap_alloc _ _ _ h0), h0, heap_alloc_new w _⟩
/-- What a field that was made since does is nothing to what was there. -/
theorem Step.since {w w' : World} {o : Obj} (hs : Step w.heap.size (w.alloc o) w') : w.grownBy w' none :=
  ⟨hs.grown.os, hs.grown.tape, hs.grown.output, by have := hs.grown.size; simp at this; omega, fun k hk _ => (hs.grown.block k (by simp; omega) (by simp; omega)).trans (Below.heap_alloc _ _ _ hk)⟩
theorem em4 : Em 4 := ⟨by decide, by decide⟩
theorem gen42 : genS 4 2 = [1, 0, 0, 0, 1, 0, 1, 1, 1] := by kernel_rfl
theorem mul29 : mul 4 (el 4 2) (el 4 9) = 1 := by kernel_rfl
theorem inv2 : invS 4 (el 4 2) = 9 := by kernel_rfl
theorem log9 : logS 4 (el 4 9) = 14 := by kernel_rfl
abbrev lst : List Nat := [1, 0, 0, 0, 1, 0, 1, 1, 1]
set_option maxHeartbeats 800000 in
theorem awake_ok (w : World) (hg : Glob w) (h0 : 0 < w.heap.size) : Calls Tryd.prog 9 #[] w fun e w' => e = .returned (.bool true) ∧ w.grownBy w' none := by
  have hF0 := Fld_new em4 hg h0
  go_enter Tryd.func9, Tryd.ntmps9
  go_wp2_with (go_at_call 31; refine (new_ok 4 em4 _).mono ?_; rintro e w1 ⟨rfl, rfl⟩)
  refine (generator_ok hF0 2 (by decide) (by decide) (by decide)).mono ?_
  rintro e w2 ⟨v2, rfl, hR2, hF2, hs2⟩
  rw [gen42] at hR2
  go_wp2_with fail
  refine (size_ok hF2).mono ?_
  rintro e w2' ⟨rfl, rfl⟩
  rw [show ((sz 4 : Nat) : Int) = 15 from rfl]
  go_wp2_with fail
  refine (mul_ok hF2 _ _).mono ?_
  rintro e w3 ⟨rfl, hF3, hs3⟩
  rw [mul29]
  go_wp2_with fail
  refine (inv_ok hF3 _).mono ?_
  rintro e w4 ⟨rfl, hF4, hs4⟩
  rw [inv2]
  go_wp2_with fail
  refine (log_ok hF4 _).mono ?_
  rintro e w5 ⟨rfl, hF5, hs5⟩
  rw [log9]
  have hS5 := ((hs2.trans hs3).trans hs4).trans hs5
  have hR5 := ((hR2.step hs3).step hs4).step hs5
  obtain ⟨ao, cap, rfl, hRd⟩ := hR5.rd
  have hst := Step.alloc hF5 (.cells (vals lst).toArray 3)
  have hRd1 := hRd.step hst
  have hRd2 := Rd_new hF5 lst
  have hfin := (hS5.trans hst).since
  have hsm : Calls Tryd.prog 24 #[.slice ao 9 cap, .slice (some ⟨w5.heap.size, 0, none⟩) 9 9] (w5.alloc (.cells #[num 1, num 0, num 0, num 0, num 1, num 0, num 1, num 1, num 1] 3)) _ :=
    same_ok ao (some ⟨w5.heap.size, 0, none⟩) cap 9 (ints lst) (ints lst) hRd1 hRd2 (by decide) (by decide)
  have HSm : Hid (Calls Tryd.prog 24 #[.slice ao 9 cap, .slice (some ⟨w5.heap.size, 0, none⟩) 9 9] (w5.alloc (.cells #[num 1, num 0, num 0, num 0, num 1, num 0, num 1, num 1, num 1] 3)) _) := hsm
  have HF : Hid (w.grownBy (w5.alloc (.cells #[num 1, num 0, num 0, num 0, num 1, num 0, num 1, num 1, num 1] 3)) none) := hfin
  clear hsm hfin hRd1 hRd2 hst hRd hR5 hR2
  go_wp2_with fail
  refine HSm.out.mono ?_
  rintro e w6 ⟨rfl, n6, rfl⟩
  go_wp2_with fail
  go_ret
  exact ⟨rfl, grownBy_drewN HF.out _⟩
/-- A raw number as an m that there is. -/
def pickS (c : Int) : Nat := 2 + ((if c < 0 then -(c + 1) else c) % 12).toNat
theorem pick_em (c : Int) : Em (pickS c) := by
  unfold pickS
  have h1 := Int.emod_nonneg (if c < 0 then -(c + 1) else c) (show (12 : Int) ≠ 0 by decide)
  have h2 := Int.emod_lt_of_pos (if c < 0 then -(c + 1) else c) (show (0 : Int) < 12 by decide)
  exact ⟨by omega, by omega⟩
/-- A number that an int holds. -/
def I64 (c : Int) : Prop := -9223372036854775808 ≤ c ∧ c ≤ 9223372036854775807
set_option maxHeartbeats 400000 in
theorem picked_ok (c : Int) (hc : I64 c) (w : World) : Calls Tryd.prog 32 #[num c] w fun e w' => e = .returned (num (pickS c)) ∧ w' = w := by
  obtain ⟨h1, h2⟩ := hc
  by_cases h : c < 0
  · have HP : Hid ((pickS c : Int) = 2 + -(c + 1) % 12) := by
      simp only [Hid, pickS, if_pos h]
      have h1 := Int.emod_nonneg (-(c + 1)) (show (12 : Int) ≠ 0 by decide)
      omega
    go_enter Tryd.func32, Tryd.ntmps32
    go_wp2
    go_ret
    exact ⟨ret_int (by rw [HP.out, ← Int.neg_tmod, Int.tmod_eq_emod_of_nonneg (by omega)]; exact IntWalk.wrap64_in _ ⟨by omega, by omega⟩), rfl⟩
  · have HP : Hid ((pickS c : Int) = 2 + c % 12) := by
      simp only [Hid, pickS, if_neg h]
      have h1 := Int.emod_nonneg c (show (12 : Int) ≠ 0 by decide)
      omega
    go_enter Tryd.func32, Tryd.ntmps32
    go_wp2
    go_ret
    exact ⟨ret_int HP.out.symm, rfl⟩
set_option maxHeartbeats 400000 in
theorem field_ok (c : Int) (hc : I64 c) (w : World) : Calls Tryd.prog 10 #[num c] w fun e w' => e = .returned (.tuple #[ptr w.heap.size, num (pickS c)]) ∧ w' = w.alloc (blk (pickS c) 0 (.slice none 0 0) (.slice none 0 0)) := by
  go_enter Tryd.func10, Tryd.ntmps10
  go_wp2_with fail
  refine (picked_ok c hc _).mono ?_
  rintro e w1 ⟨rfl, rfl⟩
  go_wp2_with fail
  refine (new_ok (pickS c) (pick_em c) _).mono ?_
  rintro e w2 ⟨rfl, rfl⟩
  go_wp2_with fail
  refine (picked_ok c hc _).mono ?_
  rintro e w2 ⟨rfl, rfl⟩
  go_wp2_with fail
  go_ret2
  exact ⟨rfl, rfl⟩
end Gf
end Go.Proofs.YtkbafbhhoemkcaaDoor
