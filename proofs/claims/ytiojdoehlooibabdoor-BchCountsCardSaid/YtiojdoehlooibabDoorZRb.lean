/- The register's functions: bytes, lower. -/
import Derived.Test.YtiojdoehlooibabDoorZRa
import Derived.Test.YtiojdoehlooibabDoorZSc
import Derived.Test.YtiojdoehlooibabDoorZPa
namespace Go.Proofs.YtiojdoehlooibabDoor
open Go.RowKit
namespace Gf
/-- The first k of a row, noughts behind. -/
def fst (P : List Nat) (k : Nat) : List Nat := P.take k ++ List.replicate (P.length - k) 0
theorem fst_len (P : List Nat) {k : Nat} (h : k ≤ P.length) : (fst P k).length = P.length := by simp [fst]; omega
theorem fst_zero (P : List Nat) : fst P 0 = List.replicate P.length 0 := by simp [fst]
theorem fst_all (P : List Nat) : fst P P.length = P := by simp [fst]
theorem fst_set (P : List Nat) {k : Nat} (h : k < P.length) : (fst P k).set k (nth P k) = fst P (k + 1) := by
  unfold fst
  rw [List.set_append_right _ _ (by simp; omega), take_snoc' h, List.append_assoc]
  congr 1
  rw [List.length_take, Nat.min_eq_left (by omega), Nat.sub_self, show P.length - k = P.length - (k + 1) + 1 by omega, List.replicate_succ]
  rfl
/-- A box of two. -/
abbrev boxO (h l : Nat) : Obj := .cells #[.int .u64 (h : Nat), .int .u64 (l : Nat)] 49
theorem box_facts {w : World} {g h l : Nat} (hb : w.heap[g]? = some (boxO h l)) : w.cell? ⟨g, 0, none⟩ = some (.int .u64 (h : Nat)) ∧ w.cell? ⟨g, 1, none⟩ = some (.int .u64 (l : Nat)) ∧ w.frozen? ⟨g, 0, none⟩ = false ∧ w.frozen? ⟨g, 1, none⟩ = false := by
  simp [World.cell?, World.frozen?, hb]
theorem box_set {w : World} {g h l : Nat} (hb : w.heap[g]? = some (boxO h l)) (h' l' : Nat) : ((w.setCell ⟨g, 0, none⟩ (.int .u64 (h' : Nat))).setCell ⟨g, 1, none⟩ (.int .u64 (l' : Nat))).heap[g]? = some (boxO h' l') := by
  have h1 := setCell_row (L := [.int .u64 (h : Nat), .int .u64 (l : Nat)]) (i := 0) hb (.int .u64 (h' : Nat))
  have h2 := setCell_row (L := [.int .u64 (h' : Nat), .int .u64 (l : Nat)]) (i := 1) h1 (.int .u64 (l' : Nat))
  exact h2
set_option maxHeartbeats 800000 in
set_option maxRecDepth 4000 in
theorem bytes_ok {h l : Nat} (P : List Nat) (hP : ∀ k, nth P k ≤ 255) (hO : Out P 0 h l) (hl : P.length ≤ 100000) (w : World) :
    Calls Tryd.prog 32 #[rem h l, num P.length] w fun e w' => ∃ g, e = .returned (.slice (some ⟨g, 0, none⟩) P.length P.length) ∧ w.heap.size ≤ g ∧ w.grownBy w' none ∧ w'.heap[g]? = some (.cells (valsB P).toArray 5) := by
  obtain ⟨i0, hi, hz0, hz1, hz2⟩ := info_parts Tryd.info5
  have hg2 : w.grownBy ((w.alloc (boxO h l)).alloc (.cells (List.replicate P.length (.int .u8 0)).toArray 5)) none := grownBy_trans (World.grownBy_alloc _ _ none) (World.grownBy_alloc _ _ none)
  have hb2 : ((w.alloc (boxO h l)).alloc (.cells (List.replicate P.length (.int .u8 0)).toArray 5)).heap[w.heap.size]? = some (boxO h l) := by rw [Below.heap_alloc _ _ _ (by simp)]; exact heap_alloc_new w _
  have hr2 : ((w.alloc (boxO h l)).alloc (.cells (List.replicate P.length (.int .u8 0)).toArray 5)).heap[w.heap.size + 1]? = some (.cells (valsB (fst P 0)).toArray 5) := by rw [fst_zero, ← valsB_zeros]; exact heap_alloc_at _ (by simp)
  go_enter Tryd.func32, Tryd.ntmps32
  go_wp2_with (first | (at_make; go_must (refine wpList_make_byte _ rfl _ _ 22 rfl 5 i0 Tryd.underlying22 hi hz0 hz1 hz2 .i64 .i64 _ _ P.length rfl rfl (by omega) (by omega) (by omega) ?_)))
  go_loopw [11] (fun i wr => ∃ k : Nat, k ≤ P.length ∧ i = num k ∧ w.grownBy wr none ∧ ∃ h l, Out P k h l ∧ wr.heap[w.heap.size]? = some (boxO h l) ∧ wr.heap[w.heap.size + 1]? = some (.cells (valsB (fst P k)).toArray 5)) (fun i _ => P.length - (intOf i).toNat)
  case atStart => exact ⟨0, Nat.zero_le _, rfl, hg2, h, l, hO, hb2, hr2⟩
  case round =>
    clear hO hg2 hb2 hr2
    obtain ⟨k, hk, rfl, hg, h, l, hO, hb, hr⟩ := hrel
    by_cases hlt : k < P.length
    · have b1 : (k : Int) < (P.length : Int) := by omega
      obtain ⟨c0, c1, z0, z1⟩ := box_facts hb
      have HB : Hid _ := hO.byte hP
      have hO2 := hO.step
      have hp := push_ok hO.hi hO.lo wr
      rw [HB.out] at hp
      have HP : Hid (Calls Tryd.prog 30 #[rem h l] wr _) := hp
      clear hp hO
      go_wp2_with fail
      refine HP.out.mono ?_
      rintro e w5 ⟨rfl, hg5⟩
      have hb5 : w5.heap[w.heap.size]? = some (boxO h l) := by rw [hg5.block _ (lt_of_heap hb) (by simp)]; exact hb
      have hr5 : w5.heap[w.heap.size + 1]? = some (.cells (valsB (fst P k)).toArray 5) := by rw [hg5.block _ (lt_of_heap hr) (by simp)]; exact hr
      have hgw := grownBy_trans hg hg5
      have hfl := fst_len P (k := k) (by omega)
      have cr : w5.cell? ⟨w.heap.size + 1, k, none⟩ = some (.int .u8 (nth (fst P k) k : Nat)) := by rw [cell_row hr5, valsB_at (by omega)]
      have zr : w5.frozen? ⟨w.heap.size + 1, k, none⟩ = false := frozen_row hr5
      obtain ⟨w6, hw6⟩ : ∃ w6, w6 = w5.setCell ⟨w.heap.size + 1, k, none⟩ (.int .u8 (nth P k : Nat)) := ⟨_, rfl⟩
      have hr6 : w6.heap[w.heap.size + 1]? = some (.cells (valsB (fst P (k + 1))).toArray 5) := by
        rw [hw6, ← fst_set P hlt, ← valsB_set]
        exact setCell_row hr5 _
      have hb6 : w6.heap[w.heap.size]? = some (boxO h l) := by rw [hw6, setCell_else (by omega)]; exact hb5
      have hg6 : w.grownBy w6 none := by rw [hw6]; exact grownBy_setCell hgw (.inl (by omega)) _
      clear c0 c1 z0 z1
      obtain ⟨c0, c1, z0, z1⟩ := box_facts hb6
      obtain ⟨d0, d1, y0, y1⟩ := box_facts hb5
      have hb7 := box_set hb6 (pH h l) (pL l)
      have hr7 : ((w6.setCell ⟨w.heap.size, 0, none⟩ (.int .u64 (pH h l : Nat))).setCell ⟨w.heap.size, 1, none⟩ (.int .u64 (pL l : Nat))).heap[w.heap.size + 1]? = some (.cells (valsB (fst P (k + 1))).toArray 5) := by
        rw [setCell_else (by omega), setCell_else (by omega)]; exact hr6
      have hg7 := grownBy_setCell (grownBy_setCell hg6 (.inl (Nat.le_refl _)) (.int .u64 (pH h l : Nat)) (i := 0)) (.inl (Nat.le_refl _)) (.int .u64 (pL l : Nat)) (i := 1)
      clear HP hb hr hb5 hr5 hg hg5 hgw hb6 hr6 hg6
      subst hw6
      go_wp2_with fail
      go_roundw
      case rel => exact ⟨k + 1, by omega, by go_num, hg7, _, _, hO2, hb7, hr7⟩
      case measure => simp [intOf]; omega
    · obtain rfl : k = P.length := by omega
      rw [fst_all] at hr
      clear hb hO
      go_wp2_with fail
      go_ret
      exact ⟨w.heap.size + 1, rfl, by omega, hg, hr⟩
end Gf
end Go.Proofs.YtiojdoehlooibabDoor
