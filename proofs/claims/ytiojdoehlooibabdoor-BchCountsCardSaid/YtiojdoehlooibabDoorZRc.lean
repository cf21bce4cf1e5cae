/- The register's functions: lower. -/
import Derived.Test.YtiojdoehlooibabDoorZRb
import Derived.Test.YtiojdoehlooibabDoorZSd
namespace Go.Proofs.YtiojdoehlooibabDoor
open Go.RowKit
namespace Gf
theorem oH_val {h a : Nat} (hh : W64 h) (ha : a ≤ 1) : bits .or .u64 ((h : Int) / 2) ((a : Int) * 9223372036854775808) = ((oH h a : Nat) : Int) := by
  rw [show (a : Int) * 9223372036854775808 = IntKind.u64.wrap ((a : Int) * 9223372036854775808) by rw [IntKind.wrap_u64]; omega, shr_u64 h 1 2 (by decide), shl_u64 a 63 _ (by decide), or_u64 (w64_shr hh _) (w64_mod _)]; rfl
theorem oL_val {h l : Nat} (hl : W64 l) : bits .or .u64 ((l : Int) / 2) (IntKind.u64.wrap ((h : Int) * 9223372036854775808)) = ((oL h l : Nat) : Int) := by
  rw [shr_u64 l 1 2 (by decide), shl_u64 h 63 _ (by decide), or_u64 (w64_shr hl _) (w64_mod _)]; rfl
set_option maxHeartbeats 800000 in
set_option maxRecDepth 4000 in
theorem lower_ok {w : World} (ao : Option Addr) (cap : Nat) (g : List Nat) (hg : RdN w ao g) (hB : Bits g) (h2 : 2 ≤ g.length) (hl : g.length ≤ 128) (hcap : g.length ≤ cap) :
    Calls Tryd.prog 42 #[.slice ao g.length cap] w fun e w' => ∃ h l, e = .returned (rem h l) ∧ Low g (g.length - 1) h l ∧ w.grownBy w' none := by
  obtain ⟨gg, og, rfl, hc⟩ := hg.resolve_left (fun e => by rw [e] at h2; simp at h2)
  have hgl := lt_of_cell (hc 0 (by omega))
  have hg2 : w.grownBy ((w.alloc (boxO 0 0)).alloc (boxO 0 0)) none := grownBy_trans (World.grownBy_alloc _ _ none) (World.grownBy_alloc _ _ none)
  have hb2 : ((w.alloc (boxO 0 0)).alloc (boxO 0 0)).heap[w.heap.size]? = some (boxO 0 0) := by rw [Below.heap_alloc _ _ _ (by simp)]; exact heap_alloc_new w _
  have hr2 : ((w.alloc (boxO 0 0)).alloc (boxO 0 0)).heap[w.heap.size + 1]? = some (boxO 0 0) := heap_alloc_at _ (by simp)
  go_enter Tryd.func42, Tryd.ntmps42
  go_wp2_with fail
  go_loopw [12] (fun i wr => ∃ k : Nat, k ≤ g.length - 1 ∧ i = num k ∧ w.grownBy wr none ∧ wr.heap[w.heap.size]? = some (boxO 0 0) ∧ ∃ h l, Low g k h l ∧ wr.heap[w.heap.size + 1]? = some (boxO h l)) (fun i _ => g.length - 1 - (intOf i).toNat)
  case atStart => exact ⟨0, Nat.zero_le _, rfl, hg2, hb2, 0, 0, Low.start g, hr2⟩
  case round =>
    clear hg2 hb2 hr2
    obtain ⟨k, hk, rfl, hgr, hb, h, l, hO, hr⟩ := hrel
    by_cases hlt : k < g.length - 1
    · have b1 : (k : Int) < (g.length : Int) - 1 := by omega
      have ck : wr.cell? ⟨gg, og + k, none⟩ = some (num (nth g k : Nat)) := by
        rw [World.cell?_of_block (w := w) (a := ⟨gg, og + k, none⟩) (hgr.block gg hgl (by simp))]; exact hc k (by omega)
      have hbk := hB k
      have HH : Hid _ := oH_val hO.hi hbk
      have HL : Hid _ := oL_val (h := h) hO.lo
      have hO2 := hO.step hB (by omega)
      obtain ⟨c0, c1, z0, z1⟩ := box_facts hr
      have hr7 := box_set hr (oH h (nth g k)) (oL h l)
      have hb7 : ((wr.setCell ⟨w.heap.size + 1, 0, none⟩ (.int .u64 (oH h (nth g k) : Nat))).setCell ⟨w.heap.size + 1, 1, none⟩ (.int .u64 (oL h l : Nat))).heap[w.heap.size]? = some (boxO 0 0) := by
        rw [setCell_else (by omega), setCell_else (by omega)]; exact hb
      have hg7 := grownBy_setCell (grownBy_setCell hgr (.inl (by omega : w.heap.size ≤ w.heap.size + 1)) (.int .u64 (oH h (nth g k) : Nat)) (i := 0)) (.inl (by omega : w.heap.size ≤ w.heap.size + 1)) (.int .u64 (oL h l : Nat)) (i := 1)
      clear hb hr hgr hO hc
      have hw1 : IntKind.u64.wrap (nth g k : Int) = (nth g k : Int) := by rw [IntKind.wrap_u64]; omega
      go_wp2_with fail
      go_roundw
      case rel => exact ⟨k + 1, by omega, by go_num, by rw [HH.out, HL.out]; exact hg7, by rw [HH.out, HL.out]; exact hb7, _, _, hO2, by rw [HH.out, HL.out]; exact hr7⟩
      case measure => simp [intOf]; omega
    · obtain rfl : k = g.length - 1 := by omega
      obtain ⟨c0, c1, z0, z1⟩ := box_facts hr
      obtain ⟨d0, d1, y0, y1⟩ := box_facts hb
      have b1 : ¬ ((g.length - 1 : Nat) : Int) < (g.length : Int) - 1 := by omega
      go_wp2_with fail
      refine bodyPost_ret (v := rem h l) (by simp [results, Tryd.f42, go_sem, d0, d1]) rfl ⟨h, l, rfl, hO, ?_⟩
      exact grownBy_setCell (grownBy_setCell hgr (.inl (by omega)) _) (.inl (by omega)) _
end Gf
end Go.Proofs.YtiojdoehlooibabDoor
