/- The calls on a field that is none: nil answers nothing. -/
import Derived.Test.YtkbafbhhoemkcaaDoorLay
namespace Go.Proofs.YtkbafbhhoemkcaaDoor
open Go.RowKit
namespace Gf
set_option maxHeartbeats 400000 in
theorem add_nil (x y : Int) (w : World) : Calls Tryd.prog 12 #[.pointer none, num x, num y] w fun e w' => e = .returned (num 0) ∧ w' = w := by
  go_enter Tryd.func12, Tryd.ntmps12
  go_wp2_with fail
  refine (element_nil x _).mono ?_
  rintro e w' ⟨rfl, rfl⟩
  go_wp2_with fail
  refine (element_nil y _).mono ?_
  rintro e w' ⟨rfl, rfl⟩
  go_wp2_with fail
  go_ret
  exact ⟨rfl, rfl⟩
set_option maxHeartbeats 400000 in
theorem mul_nil (x y : Int) (w : World) : Calls Tryd.prog 13 #[.pointer none, num x, num y] w fun e w' => e = .returned (num 0) ∧ w' = w := by
  go_enter Tryd.func13, Tryd.ntmps13
  go_wp2_with fail
  refine (element_nil x _).mono ?_
  rintro e w' ⟨rfl, rfl⟩
  go_wp2_with fail
  refine (element_nil y _).mono ?_
  rintro e w' ⟨rfl, rfl⟩
  go_wp2_with fail
  go_ret
  exact ⟨rfl, rfl⟩
set_option maxHeartbeats 400000 in
theorem inv_nil (x : Int) (w : World) : Calls Tryd.prog 15 #[.pointer none, num x] w fun e w' => e = .returned (num 0) ∧ w' = w := by
  go_enter Tryd.func15, Tryd.ntmps15
  go_wp2_with (go_at_call 33; refine (element_nil x _).mono ?_; rintro e w' ⟨rfl, rfl⟩)
  go_ret
  exact ⟨rfl, rfl⟩
set_option maxHeartbeats 400000 in
theorem pow_nil (x n : Int) (w : World) : Calls Tryd.prog 17 #[.pointer none, num x, num n] w fun e w' => e = .returned (num 0) ∧ w' = w := by
  go_enter Tryd.func17, Tryd.ntmps17
  go_wp2_with (go_at_call 37; refine (none_nil _).mono ?_; rintro e w' ⟨rfl, rfl⟩)
  go_ret
  exact ⟨rfl, rfl⟩
set_option maxHeartbeats 400000 in
theorem log_nil (x : Int) (w : World) : Calls Tryd.prog 19 #[.pointer none, num x] w fun e w' => e = .returned (num 0) ∧ w' = w := by
  go_enter Tryd.func19, Tryd.ntmps19
  go_wp2_with (go_at_call 37; refine (none_nil _).mono ?_; rintro e w' ⟨rfl, rfl⟩)
  go_ret
  exact ⟨rfl, rfl⟩
set_option maxHeartbeats 400000 in
theorem exp_nil (x : Int) (w : World) : Calls Tryd.prog 21 #[.pointer none, num x] w fun e w' => e = .returned (num 0) ∧ w' = w := by
  go_enter Tryd.func21, Tryd.ntmps21
  go_wp2_with (go_at_call 37; refine (none_nil _).mono ?_; rintro e w' ⟨rfl, rfl⟩)
  go_ret
  exact ⟨rfl, rfl⟩
set_option maxHeartbeats 400000 in
theorem minimal_nil (x : Int) (w : World) : Calls Tryd.prog 30 #[.pointer none, num x] w fun e w' => e = .returned (.slice none 0 0) ∧ w' = w := by
  go_enter Tryd.func30, Tryd.ntmps30
  go_wp2_with (go_at_call 37; refine (none_nil _).mono ?_; rintro e w' ⟨rfl, rfl⟩)
  go_ret
  exact ⟨rfl, rfl⟩
set_option maxHeartbeats 400000 in
theorem generator_nil (t : Int) (w : World) : Calls Tryd.prog 26 #[.pointer none, num t] w fun e w' => e = .returned (.tuple #[.slice none 0 0, num 1]) ∧ w' = w := by
  by_cases h1 : t < 1
  · go_enter Tryd.func26, Tryd.ntmps26
    go_wp2
    go_ret2
    exact ⟨rfl, rfl⟩
  by_cases h2 : 8 < t
  · go_enter Tryd.func26, Tryd.ntmps26
    go_wp2
    go_ret2
    exact ⟨rfl, rfl⟩
  · have h3 : (0 : Int) < 2 * t := by omega
    go_enter Tryd.func26, Tryd.ntmps26
    go_wp2_with (go_at_call 27; refine (size_nil _).mono ?_; rintro e w' ⟨rfl, rfl⟩)
    go_ret2
    exact ⟨rfl, rfl⟩
set_option maxHeartbeats 400000 in
theorem eval_nil (ao : Option Addr) (cap : Nat) (xs : List Int) (x : Int) (w : World) (hx : Arg w ao xs.length xs) (hm : xs.length ≤ 17592186044416) :
    Calls Tryd.prog 28 #[.pointer none, .slice ao xs.length cap, num x] w fun e w' => e = .returned (num 0) ∧ w.grownBy w' none := by
  go_enter Tryd.func28, Tryd.ntmps28
  go_wp2_with fail
  go_loopw [7, 8] (fun s i wr => ∃ k : Nat, k ≤ xs.length ∧ i = num ((k : Int) - 1) ∧ s = num 0 ∧ w.grownBy wr none) (fun _ i _ => (intOf i + 1).toNat)
  case atStart => exact ⟨xs.length, Nat.le_refl _, rfl, rfl, World.grownBy.refl _ _⟩
  case round =>
    obtain ⟨k, hk, rfl, rfl, hgr⟩ := hrel
    cases k with
    | zero =>
      go_wp2
      go_ret
      exact ⟨rfl, hgr⟩
    | succ k =>
      rcases (hx.kept hgr).2.2 with he | ⟨g, off, rfl, hcell⟩
      · rw [he] at hk; simp at hk
      have ck := hcell k (by omega)
      clear hcell
      rw [show (((k + 1 : Nat) : Int) - 1) = (k : Int) by omega]
      have k0 : (0 : Int) ≤ (k : Int) := by omega
      have k1 : (k : Int) < (xs.length : Int) := by omega
      go_wp2_with fail
      go_quiet ((first | (go_at_call 13; exact Calls.quiet_of_same (mul_nil _ _ _)) | (go_at_call 12; exact Calls.quiet_of_same (add_nil _ _ _))))
      go_wp2_with fail
      go_roundw
      case rel => exact ⟨k, by omega, rfl, rfl, grownBy_drewN hgr _⟩
      case measure => simp [intOf]
/-- The row while it is made: the first k are 0. -/
def mixZ (xs : List Int) (k : Nat) : List Value := vals (List.replicate k 0) ++ (xs.drop k).map num
theorem mixZ_len (xs : List Int) {k : Nat} (h : k ≤ xs.length) : (mixZ xs k).length = xs.length := by simp [mixZ, vals]; omega
theorem mixZ_at (xs : List Int) {k : Nat} (h : k < xs.length) : (mixZ xs k)[k]? = some (num (nthI xs k)) := by
  unfold mixZ
  rw [List.getElem?_append_right (by simp [vals])]
  simp [vals, nthI, h]
theorem mixZ_set (xs : List Int) {k : Nat} (h : k < xs.length) : (mixZ xs k).set k (num 0) = mixZ xs (k + 1) := by
  unfold mixZ
  rw [List.drop_eq_getElem_cons h, List.map_cons, List.set_append_right _ _ (by simp [vals])]
  simp only [vals, List.length_map, List.length_replicate, Nat.sub_self, List.set_cons_zero]
  rw [List.replicate_succ', List.map_append, List.append_assoc]
  rfl
theorem trimN_zeros (n : Nat) : trimN (List.replicate n 0) = [] := by
  unfold trimN
  simp
theorem own_any {w : World} {g : Nat} {L : List Value} (h : w.heap[g]? = some (.cells L.toArray 3)) (h0 : g ≠ 0) : Own w.heap.size w g L :=
  ⟨h, by have := lt_of_heap h; omega, h0, fun _ _ _ _ e => by
    have := lt_of_heap e; omega⟩
set_option maxHeartbeats 800000 in
theorem row_nil (ao : Option Addr) (cap : Nat) (xs : List Int) (w : World) (h0 : 0 < w.heap.size) (hx : Arg w ao xs.length xs) (hm : xs.length ≤ 17592186044416) :
    Calls Tryd.prog 41 #[.pointer none, .slice ao xs.length cap] w fun e w' => e = .returned (.slice (some ⟨w.heap.size, 0, none⟩) 0 xs.length) ∧ w.grownBy w' none := by
  obtain ⟨i0, hi, hz0, hz1, hz2⟩ := info_parts Tryd.info3
  have hR : Rd w.heap.size (w.alloc (.cells (zs xs.length).toArray 3)) ao xs := by
    rcases hx.rd (Nat.le_refl _) with h | ⟨g, off, a1, a2, a3⟩
    · exact .inl h
    · by_cases he : xs = []
      · exact .inl he
      · refine .inr ⟨g, off, a1, a2, fun i hi => ?_⟩
        rw [World.cell?_alloc_past _ _ _ (lt_of_cell (a3 i hi))]; exact a3 i hi
  have hg1 := heap_alloc_new w (.cells (zs xs.length).toArray 3)
  obtain ⟨X, hX⟩ : ∃ X : List Value, X = xs.map num := ⟨_, rfl⟩
  have hXl : X.length = xs.length := by rw [hX]; simp
  have hXo : ∀ v ∈ X, v.oneCell' = true := by rw [hX]; exact ints_oneCell _ _
  have HS : Hid (0 < X.length → ∃ ad, ao = some ad ∧ ∀ j v, X[j]? = some v → (w.alloc (.cells (zs xs.length).toArray 3)).cell? (ad.add j) = some v) := by rw [hX]; exact hR.src
  have HX : Hid (X = xs.map num) := hX
  clear hX hR
  go_enter Tryd.func41, Tryd.ntmps41
  go_wp2_with (first | (at_make; go_must (refine wpList_make_own0 _ rfl _ _ 30 rfl 3 i0 Tryd.underlying30 hi hz0 hz1 hz2 .i64 .i64 _ _ xs.length rfl rfl (by omega) (by omega) (by omega) ?_)) | ((refine wpList_copy_splice rfl (.tmp 11) (.tmp 12) 30 30 rfl 3 Tryd.underlying30 Tryd.one3 _ _ _ _ _ _ rfl rfl w.heap.size 0 (zs xs.length) 3 (by exact hg1) X (by rw [hXl]; exact (Nat.min_self _).symm) (fun hp => ⟨rfl, HS.out hp⟩) (by rw [hXl, zs_len]; omega) hXo w.heap.size _ (Below.refl _ _) (Nat.le_refl _) ?_; intro w2 hg2 hb2)))
  have hgr := made_row hb2
  have hO2 : w2.heap[w.heap.size]? = some (.cells (mixZ xs 0).toArray 3) := by rw [hg2.out, splice_all _ _ hXl, HX.out]; simp [mixZ, vals]
  have HO2 : Hid _ := hO2
  clear hg2 hb2 hO2 HS HX hXo hXl
  go_loopw [16] (fun i wr => ∃ k : Nat, k ≤ xs.length ∧ i = num k ∧ wr.heap[w.heap.size]? = some (.cells (mixZ xs k).toArray 3) ∧ w.grownBy wr none) (fun i _ => xs.length - (intOf i).toNat)
  case atStart => exact ⟨0, Nat.zero_le _, rfl, HO2.out, hgr⟩
  case round =>
    obtain ⟨k, hk, rfl, hO, hI⟩ := hrel
    have HO : Hid _ := hO
    clear hO
    by_cases hlt : k < xs.length
    · have ck : wr.cell? ⟨w.heap.size, k, none⟩ = some (num (nthI xs k)) := by rw [cell_row HO.out, mixZ_at xs hlt]
      have zk : wr.frozen? ⟨w.heap.size, k, none⟩ = false := frozen_row HO.out
      have HN : Hid ((wr.setCell ⟨w.heap.size, k, none⟩ (num 0)).heap[w.heap.size]? = some (.cells (mixZ xs (k + 1)).toArray 3)) := by
        rw [← mixZ_set xs hlt]; exact setCell_row HO.out _
      have hI' : w.grownBy (wr.setCell ⟨w.heap.size, k, none⟩ (num 0)) none := grownBy_setCell hI (.inl (Nat.le_refl _)) _
      go_wp2_with (go_at_call 33; refine (element_nil _ _).mono ?_; rintro e w' ⟨rfl, rfl⟩)
      go_roundw
      case rel => exact ⟨k + 1, by omega, by go_num, HN.out, hI'⟩
      case measure => simp [intOf]; omega
    · obtain rfl : k = xs.length := by omega
      have hml : mixZ xs xs.length = vals (List.replicate xs.length 0) := by simp [mixZ]
      have htr := trim_ok (List.replicate xs.length 0) _ (own_any (w := wr) (g := w.heap.size) (L := vals (List.replicate xs.length 0)) (by rw [← hml]; exact HO.out) (by omega)) (by rw [← vals_len, List.take_length]) (by rw [vals_len]; exact Nat.le_refl _) (by simp; omega)
      simp only [List.length_replicate, vals_len, trimN_zeros, List.length_nil] at htr
      have HTr : Hid (Calls Tryd.prog 42 #[.slice (some ⟨w.heap.size, 0, none⟩) xs.length xs.length] wr _) := htr
      clear htr hml
      go_wp2_with (go_at_call 42; refine HTr.out.mono ?_; rintro e w' ⟨rfl, rfl⟩)
      go_ret
      exact ⟨rfl, hI⟩
set_option maxHeartbeats 400000 in
theorem times_nil (ap aq : Option Addr) (cp cq : Nat) (xs ys : List Int) (w : World) (h0 : 0 < w.heap.size) (hx : Arg w ap xs.length xs) (hy : Arg w aq ys.length ys) (hm : xs.length ≤ 17592186044416) (hm' : ys.length ≤ 17592186044416) :
    Calls Tryd.prog 23 #[.pointer none, .slice ap xs.length cp, .slice aq ys.length cq] w fun e w' => e = .returned (.slice none 0 0) ∧ w.grownBy w' none := by
  go_enter Tryd.func23, Tryd.ntmps23
  go_wp2_with fail
  refine (row_nil ap cp xs _ h0 hx hm).mono ?_
  rintro e w1 ⟨rfl, hg1⟩
  have h1 : 0 < w1.heap.size := by have := hg1.size; omega
  go_wp2_with fail
  refine (row_nil aq cq ys _ h1 (hy.kept hg1) hm').mono ?_
  rintro e w2 ⟨rfl, hg2⟩
  go_wp2
  go_ret
  exact ⟨rfl, grownBy_trans hg1 hg2⟩
set_option maxHeartbeats 400000 in
theorem rest_nil (ap aq : Option Addr) (cp cq : Nat) (xs ys : List Int) (w : World) (h0 : 0 < w.heap.size) (hx : Arg w ap xs.length xs) (hy : Arg w aq ys.length ys) (hm : xs.length ≤ 17592186044416) (hm' : ys.length ≤ 17592186044416) :
    Calls Tryd.prog 25 #[.pointer none, .slice ap xs.length cp, .slice aq ys.length cq] w fun e w' => e = .returned (.slice none 0 0) ∧ w.grownBy w' none := by
  go_enter Tryd.func25, Tryd.ntmps25
  go_wp2_with fail
  refine (row_nil ap cp xs _ h0 hx hm).mono ?_
  rintro e w1 ⟨rfl, hg1⟩
  have h1 : 0 < w1.heap.size := by have := hg1.size; omega
  go_wp2_with fail
  refine (row_nil aq cq ys _ h1 (hy.kept hg1) hm').mono ?_
  rintro e w2 ⟨rfl, hg2⟩
  go_wp2
  go_ret
  exact ⟨rfl, grownBy_trans hg1 hg2⟩
end Gf
end Go.Proofs.YtkbafbhhoemkcaaDoor
