/- Layer 6 (stripe): small, right. -/
import Derived.Test.YtjokedggmhiklaaSk
namespace Go.Proofs.Ytjokedggmhiklaa
open Go.RowKit Go.Maps
namespace Sp
def smallSec (S : Int) : Nat := 1 + absS S % 9
def smallSl (N : Int) : Nat := 1 + absS N % 4
theorem small_lay (S N : Int) : LayMay (smallSec S) (smallSl N) := by unfold LayMay smallSec smallSl; omega
theorem lay_keep {w w' : World} {g : Nat} {a b : Value} (h : w.cell? ⟨g, 0, none⟩ = some a ∧ w.cell? ⟨g, 1, none⟩ = some b) (hg : w.grownBy w' none) : w'.cell? ⟨g, 0, none⟩ = some a ∧ w'.cell? ⟨g, 1, none⟩ = some b := two_keep h hg
set_option maxHeartbeats 1600000 in
set_option maxRecDepth 4000 in
theorem small_ok (S N T : Int) (hS : I64 S) (hN : I64 N) (w : World) : Calls Try.prog 17 #[layV S N T] w fun e w' => e = .returned (layV (smallSec S) (smallSl N) 1) ∧ w.grownBy w' none := by
  obtain ⟨W, hW⟩ : ∃ W, W = (w.alloc (layL S N T)).alloc (layL 0 0 0) := ⟨_, rfl⟩
  have hgW : w.grownBy W none := by rw [hW]; exact grownBy_alloc' (World.grownBy_alloc w _ none) _
  have hb1 : W.heap[w.heap.size]? = some (layL S N T) := by rw [hW, (World.grownBy_alloc (w.alloc (layL S N T)) _ none).block _ (lt_of_heap (heap_alloc_new w _)) (by simp)]; exact heap_alloc_new w _
  have hb2 : W.heap[w.heap.size + 1]? = some (layL 0 0 0) := by
    have := heap_alloc_new (w.alloc (layL S N T)) (layL 0 0 0)
    rw [hW]; simpa using this
  have Hw : Hid _ := hW
  have HS0 : Hid (W.drew.cell? ⟨w.heap.size, 0, none⟩ = some (num S) ∧ W.drew.cell? ⟨w.heap.size, 1, none⟩ = some (num N)) := ⟨cell_at hb1 rfl, cell_at hb1 rfl⟩
  have HA1 : Hid (∀ w, Calls Try.prog 23 #[num S] w fun e w' => e = .returned (num (absS S)) ∧ w' = w) := fun w => abs_ok S hS w
  have HA2 : Hid (∀ w, Calls Try.prog 23 #[num N] w fun e w' => e = .returned (num (absS N)) ∧ w' = w) := fun w => abs_ok N hN w
  have k1 := absS_le hS
  have k2 := absS_le hN
  have E1 : Hid (1 + (absS S : Int) % 9 = (smallSec S : Int)) := by unfold smallSec; rw [Hid]; omega
  have E2 : Hid (1 + (absS N : Int) % 4 = (smallSl N : Int)) := by unfold smallSl; rw [Hid]; omega
  obtain ⟨A, hA⟩ : ∃ A : Nat, A = absS S := ⟨_, rfl⟩
  obtain ⟨B, hB⟩ : ∃ B : Nat, B = absS N := ⟨_, rfl⟩
  rw [← hA] at HA1 k1 E1
  rw [← hB] at HA2 k2 E2
  have a1 : (A : Int) ≤ 9223372036854775807 := by omega
  have a2 : (B : Int) ≤ 9223372036854775807 := by omega
  have c3 : W.cell? ⟨w.heap.size + 1, 0, none⟩ = some (num 0) := cell_at hb2 rfl
  have c4 : W.cell? ⟨w.heap.size + 1, 1, none⟩ = some (num 0) := cell_at hb2 rfl
  have c5 : W.cell? ⟨w.heap.size + 1, 2, none⟩ = some (num 0) := cell_at hb2 rfl
  have f3 : W.frozen? ⟨w.heap.size + 1, 0, none⟩ = false := free_at hb2
  have f4 : W.frozen? ⟨w.heap.size + 1, 1, none⟩ = false := free_at hb2
  have f5 : W.frozen? ⟨w.heap.size + 1, 2, none⟩ = false := free_at hb2
  clear hW hb1 hb2 hA hB k1 k2 hS hN
  go_enter Try.func17, Try.ntmps17
  go_wp2_with (rw [← Hw.out])
  go_region_held3 (fun w' => w'.cell? ⟨w.heap.size, 0, none⟩ = some (num S) ∧ w'.cell? ⟨w.heap.size, 1, none⟩ = some (num N)) (first | assumption | exact HS0.out | exact two_set (two_set (two_set HS0.out (by simp)) (by simp)) (by simp))
    (first | (go_at_call 23; refine (HA1.out _).mono ?_; rintro e w5 ⟨rfl, rfl⟩) | (go_at_call 23; refine (HA2.out _).mono ?_; rintro e w6 ⟨rfl, rfl⟩))
  all_goals
    have W1 : IntKind.i64.wrap (1 + (A : Int).tmod 9) = (smallSec S : Int) := by
      rw [Int.tmod_eq_emod_of_nonneg (by omega), IntKind.wrap_i64, ← E1.out]; omega
    have W2 : IntKind.i64.wrap (1 + (B : Int).tmod 4) = (smallSl N : Int) := by
      rw [Int.tmod_eq_emod_of_nonneg (by omega), IntKind.wrap_i64, ← E2.out]; omega
    rw [W1, W2]
    have HG : Hid (w.grownBy ((((W.setCell ⟨w.heap.size + 1, 0, none⟩ (num (smallSec S : Int))).setCell ⟨w.heap.size + 1, 1, none⟩ (num (smallSl N : Int))).setCell ⟨w.heap.size + 1, 2, none⟩ (num 1)).drew) none) := grownBy_drew (grownBy_set (grownBy_set (grownBy_set hgW (by omega) _) (by omega) _) (by omega) _)
    have q0 := set_two0 c3 (num (smallSec S : Int))
    have q1 := set_two1 (u := num (smallSec S : Int)) c4 (num (smallSl N : Int))
    have q2 := World.cell?_setCell_same ((W.setCell ⟨w.heap.size + 1, 0, none⟩ (num (smallSec S : Int))).setCell ⟨w.heap.size + 1, 1, none⟩ (num (smallSl N : Int))) ⟨w.heap.size + 1, 2, none⟩ (num 1) (cell_off (cell_off c5 (by decide)) (by decide))
    clear W1 W2 E1 E2 HA1 HA2 HS0 c3 c4 c5 f3 f4 f5 a1 a2
    go_wp2
    exact bodyPost_ret (v := layV (smallSec S) (smallSl N) 1) (by simp [results, Try.results17, go_sem, q0, q1, q2]) rfl ⟨rfl, HG.out⟩
end Sp
end Go.Proofs.Ytjokedggmhiklaa
