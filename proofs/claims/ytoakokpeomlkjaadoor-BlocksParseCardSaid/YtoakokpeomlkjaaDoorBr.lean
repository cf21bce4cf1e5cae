/- Layer 7 (blocks): blockOf. -/
import Derived.Test.YtoakokpeomlkjaaDoorBo
namespace Go.Proofs.YtoakokpeomlkjaaDoor
open Go.RowKit Go.Maps
namespace Bk
open Cr (RdB nm)
set_option maxHeartbeats 1600000 in
theorem blockOf_ok {w : World} (g off cap b0 : Nat) (t : List Nat) (hb : w.cell? ⟨g, off, none⟩ = some (q8 b0)) (h0 : b0 ≤ 255) (ht : RdB w (some ⟨g, off + 1, none⟩) t) (h4 : t.length = 4) (hc : 5 ≤ cap) :
    Calls Tryd.prog 39 #[.slice (some ⟨g, off, none⟩) 5 cap] w fun e w' => e = .returned (.agg #[num (b0 : Int), q32 (nm t)]) ∧ w.grownBy w' none := by
  obtain ⟨gd, od, e1, hcd⟩ := ht.2.resolve_left (fun e => by rw [e] at h4; simp at h4)
  cases e1
  obtain ⟨V, hV⟩ : ∃ V, V = w.alloc (.cells #[num 0, q32 0] 62) := ⟨_, rfl⟩
  have hg : w.grownBy V none := by rw [hV]; exact World.grownBy_alloc w _ none
  have hbV : V.cell? ⟨g, off, none⟩ = some (q8 b0) := (cell_of_block (hg.block g (lt_of_cell hb) (by simp))).trans hb
  have hcV : ∀ i, i < t.length → V.cell? ⟨g, off + 1 + i, none⟩ = some (q8 (Cr.nth t i)) := fun i hi => (cell_of_block (hg.block g (lt_of_cell (hcd i hi)) (by simp))).trans (hcd i hi)
  have hr : V.heap[w.heap.size]? = some (.cells #[num 0, q32 0] 62) := by rw [hV]; exact heap_alloc_new w _
  have r0 : V.cell? ⟨w.heap.size, 0, none⟩ = some (num 0) := cell_at hr rfl
  have r1 : V.cell? ⟨w.heap.size, 1, none⟩ = some (q32 0) := cell_at hr rfl
  have f0 := free_at (o := 0) hr
  have f1 := free_at (o := 1) hr
  have z1 : (5 : Int) ≤ (cap : Int) := by omega
  have z2 : ¬ cap = 0 := by omega
  have z3 : 1 < cap := by omega
  have HG := hide hg
  have HV := hide hV
  clear hV hcd hb hr hg
  go_enter Tryd.func39, Tryd.ntmps39
  go_wp2_with (rw [← HV.out])
  go_loopw [9, 3] (fun i r wr => wr = V ∧ ∃ k : Nat, k ≤ 4 ∧ i = num k ∧ r = q32 (nm (t.take k))) (fun i _ _ => 4 - (intOf i).toNat)
  case atStart => exact ⟨HV.out.symm, 0, Nat.zero_le _, rfl, rfl⟩
  case round =>
    obtain ⟨rfl, k, hk, rfl, rfl⟩ := hrel
    by_cases hlt : k < 4
    · have b1 : (k : Int) < 4 := by omega
      have o := Cr.or_step ht.le h4 hlt
      have ck := hcV k (by omega)
      have hbk := ht.1 k
      have sh := Cr.shl_u32 hbk hlt
      generalize Cr.nth t k = X at o ck hbk sh
      have xm : (X : Int) % 4294967296 = (X : Int) := by omega
      obtain ⟨N', hN⟩ : ∃ N', N' = nm (t.take (k + 1)) := ⟨_, rfl⟩
      rw [← hN] at o
      have HN := hide hN
      clear hN
      generalize nm (t.take k) = N at o ⊢
      generalize X <<< (8 * k) = Z at o sh
      clear hcV h4
      go_wp2
      go_roundw
      case rel => exact ⟨trivial, k + 1, by omega, by go_num, by rw [← HN.out]⟩
      case measure => simp [intOf]; omega
    · have hke : k = 4 := by omega
      subst hke
      have HN : Hid (nm (t.take 4) = nm t) := by rw [Hid, ← h4, List.take_length]
      clear h4 hcV
      go_wp2
      have hW := hide (grownBy_set (grownBy_set (o := 0) HG.out (Nat.le_refl _) (num (b0 : Int))) (Nat.le_refl _) (q32 (nm (t.take 4))) (o := 1))
      have y0 : ((wr.setCell ⟨w.heap.size, 0, none⟩ (num (b0 : Int))).setCell ⟨w.heap.size, 1, none⟩ (q32 (nm (t.take 4)))).cell? ⟨w.heap.size, 0, none⟩ = some (num (b0 : Int)) := cell_off (World.cell?_setCell_same' _ _ _ (by rw [r0]; rfl)) (by decide)
      have y1 : ((wr.setCell ⟨w.heap.size, 0, none⟩ (num (b0 : Int))).setCell ⟨w.heap.size, 1, none⟩ (q32 (nm (t.take 4)))).cell? ⟨w.heap.size, 1, none⟩ = some (q32 (nm (t.take 4))) := World.cell?_setCell_same' _ _ _ (by rw [cell_off r1 (by decide)]; rfl)
      generalize (wr.setCell ⟨w.heap.size, 0, none⟩ (num (b0 : Int))).setCell ⟨w.heap.size, 1, none⟩ (q32 (nm (t.take 4))) = WW at y0 y1 hW ⊢
      refine bodyPost_ret (v := .agg #[num (b0 : Int), q32 (nm (t.take 4))]) (by simp [results, Tryd.f39, go_sem, y0, y1]) rfl ?_
      exact ⟨by rw [HN.out], hW.out⟩
end Bk
end Go.Proofs.YtoakokpeomlkjaaDoor
