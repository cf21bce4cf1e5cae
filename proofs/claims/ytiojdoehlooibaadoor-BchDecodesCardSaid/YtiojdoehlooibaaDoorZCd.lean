/- code: the program's and the document's, of so many bytes. -/
import Derived.Test.YtiojdoehlooibaaDoorZLay2
import Derived.Test.YtiojdoehlooibaaDoorZSn
import Derived.BigRegion
namespace Go.Proofs.YtiojdoehlooibaaDoor
open Go.RowKit
namespace Gf
/-- A raw number as a t that may be. -/
def tS (t : Int) : Nat := 1 + ((if t < 0 then -(t + 1) else t) % 8).toNat
theorem tS_bd (t : Int) : 1 ≤ tS t ∧ tS t ≤ 8 := by
  unfold tS
  have h1 := Int.emod_nonneg (if t < 0 then -(t + 1) else t) (show (8 : Int) ≠ 0 by decide)
  have h2 := Int.emod_lt_of_pos (if t < 0 then -(t + 1) else t) (show (0 : Int) < 8 by decide)
  omega
/-- What code answers. -/
def CodePost (w : World) (len T : Nat) (e : Ending) (w' : World) : Prop := ∃ c b m ao cap, IsM len T m ∧ e = .returned (.tuple #[ptr c, codeV m len T (.slice ao (gH m T).length cap)]) ∧ Cod w' c b m len T ∧ RdN w' ao (gH m T) ∧ w.grownBy w' none ∧ w.heap.size ≤ b ∧ w.heap.size ≤ c
theorem tS_nat (U : Nat) : tS (U : Int) = 1 + U % 8 := by unfold tS; rw [if_neg (by omega)]; omega
theorem tS_neg (U : Nat) : tS (-(U : Int) - 1) = 1 + U % 8 := by unfold tS; rw [if_pos (by omega)]; omega
theorem no_one (k : Nat) : ([num 0, num 0, num 0, .slice none 0 0] : List Value)[k]? ≠ some (num 1) := by
  intro e
  match k with
  | 0 => have h := Option.some.inj e; injection h with _ h; exact absurd h (by decide)
  | 1 => have h := Option.some.inj e; injection h with _ h; exact absurd h (by decide)
  | 2 => have h := Option.some.inj e; injection h with _ h; exact absurd h (by decide)
  | 3 => have h := Option.some.inj e; cases h
  | k + 4 => cases e
set_option maxHeartbeats 1600000 in
set_option maxRecDepth 4000 in
theorem code_ok {w : World} (hG : Glob w) (h0 : 0 < w.heap.size) (ad : Option Addr) (len cd : Nat) (t : Int) (ht : I64 t) (h1 : 1 ≤ len) (h2 : len ≤ 512) :
    Calls Tryd.prog 17 #[.slice ad len cd, num t] w fun e w' => CodePost w len (tS t) e w' := by
  obtain ⟨T1, T2⟩ := tS_bd t
  have hA := World.grownBy_alloc w (.cells #[num 0, num 0, num 0, .slice none 0 0] 29) none
  have hbox : (w.alloc (.cells #[num 0, num 0, num 0, .slice none 0 0] 29)).heap[w.heap.size]? = some (.cells #[num 0, num 0, num 0, .slice none 0 0] 29) := heap_alloc_new w _
  have hGA := hG.kept (hA.block 0 h0 (by simp))
  have hpA : 0 < (w.alloc (.cells #[num 0, num 0, num 0, .slice none 0 0] 29)).heap.size := by simp
  obtain ⟨T, hT⟩ : ∃ T, T = tS t := ⟨_, rfl⟩
  rw [← hT] at T1 T2 ⊢
  have hNew := bchNew_more len T h1 h2 T1 T2 hGA hpA
  have HNew : Hid (Calls Tryd.prog 10 #[num len, num T] (w.alloc (.cells #[num 0, num 0, num 0, .slice none 0 0] 29)) _) := hNew
  have hb1 : (len : Int) ≤ 512 := by omega
  clear hNew
  obtain ⟨ht1, ht2⟩ := ht
  by_cases hneg : t < 0
  · obtain ⟨U, hU⟩ := Int.eq_ofNat_of_zero_le (show 0 ≤ -(t + 1) by omega)
    have hte : t = -(U : Int) - 1 := by omega
    subst hte
    rw [tS_neg] at hT
    have HT : Hid (1 + (U : Int) % 8 = (T : Int)) := by rw [Hid]; omega
    clear hT hU
    go_enter Tryd.func17, Tryd.ntmps17
    go_wp2_with fail
    rw [HT.out]
    refine HNew.out.mono ?_
    rintro e w1 ⟨c, b, m, hM, rfl, hc1, hg1, hb, hcb, hfr⟩
    have hsN := sNew_ok (w := w1) len T h1 h2 T1 T2
    have HSN : Hid (Calls Tryd.prog 11 #[num len, num T] w1 _) := hsN
    clear hsN HNew
    go_wp2_with fail
    rw [HT.out]
    refine HSN.out.mono ?_
    rintro e w2 ⟨m', ao, cap, hM', rfl, hrd, hg2⟩
    obtain rfl := hM.one hM'
    have hw0 : w.heap.size < w1.heap.size := by have := hg1.size; simp at this; omega
    have hb2 : w2.heap[w.heap.size]? = some (.cells #[num 0, num 0, num 0, .slice none 0 0] 29) := by
      rw [(grownBy_trans hg1 hg2).block _ (lt_of_heap hbox) (by simp)]; exact hbox
    obtain ⟨G, hGe⟩ : ∃ G, G = (gH m T).length := ⟨_, rfl⟩
    rw [← hGe]
    have HGe : Hid (G = (gH m T).length) := hGe
    clear hGe
    have hB := World.grownBy_alloc w2 (.cells #[num m, num len, num T, .slice ao G cap] 29) none
    have hb3 : (w2.alloc (.cells #[num m, num len, num T, .slice ao G cap] 29)).heap[w.heap.size]? = some (.cells #[num 0, num 0, num 0, .slice none 0 0] 29) := by
      rw [Below.heap_alloc _ _ _ (lt_of_heap hb2)]; exact hb2
    have hb4 : (w2.alloc (.cells #[num m, num len, num T, .slice ao G cap] 29)).heap[w2.heap.size]? = some (.cells #[num m, num len, num T, .slice ao G cap] 29) := heap_alloc_new w2 _
    have hgw : w.grownBy (w2.alloc (.cells #[num m, num len, num T, .slice ao G cap] 29)) none := grownBy_trans (grownBy_trans (grownBy_trans hA hg1) hg2) hB
    have hc3 := (hc1.more hg2).more hB
    have hrd3 := hrd.more hB
    have hbw : w.heap.size ≤ b := by simp at hb; omega
    have hcw : w.heap.size ≤ c := by simp at hcb; omega
    obtain ⟨W4, hW4⟩ : ∃ W4, W4 = w2.alloc (.cells #[num m, num len, num T, .slice ao G cap] 29) := ⟨_, rfl⟩
    have HW4 : Hid (w2.alloc (.cells #[num m, num len, num T, .slice ao G cap] 29) = W4) := hW4.symm
    rw [← hW4] at hb3 hb4 hgw hc3 hrd3
    have c0 : W4.cell? ⟨w2.heap.size, 0, none⟩ = some (num m) := cell_row (L := [num m, num len, num T, .slice ao G cap]) hb4
    have c1 : W4.cell? ⟨w2.heap.size, 1, none⟩ = some (num len) := cell_row (L := [num m, num len, num T, .slice ao G cap]) hb4
    have c2 : W4.cell? ⟨w2.heap.size, 2, none⟩ = some (num T) := cell_row (L := [num m, num len, num T, .slice ao G cap]) hb4
    have c3 : W4.cell? ⟨w2.heap.size, 3, none⟩ = some (.slice ao G cap) := cell_row (L := [num m, num len, num T, .slice ao G cap]) hb4
    have d0 : W4.cell? ⟨w.heap.size, 0, none⟩ = some (num 0) := cell_row (L := [num 0, num 0, num 0, .slice none 0 0]) hb3
    have d1 : W4.cell? ⟨w.heap.size, 1, none⟩ = some (num 0) := cell_row (L := [num 0, num 0, num 0, .slice none 0 0]) hb3
    have d2 : W4.cell? ⟨w.heap.size, 2, none⟩ = some (num 0) := cell_row (L := [num 0, num 0, num 0, .slice none 0 0]) hb3
    have d3 : W4.cell? ⟨w.heap.size, 3, none⟩ = some (.slice none 0 0) := cell_row (L := [num 0, num 0, num 0, .slice none 0 0]) hb3
    have y0 : W4.frozen? ⟨w.heap.size, 0, none⟩ = false := frozen_row (L := [num 0, num 0, num 0, .slice none 0 0]) hb3
    have y1 : W4.frozen? ⟨w.heap.size, 1, none⟩ = false := frozen_row (L := [num 0, num 0, num 0, .slice none 0 0]) hb3
    have y2 : W4.frozen? ⟨w.heap.size, 2, none⟩ = false := frozen_row (L := [num 0, num 0, num 0, .slice none 0 0]) hb3
    have y3 : W4.frozen? ⟨w.heap.size, 3, none⟩ = false := frozen_row (L := [num 0, num 0, num 0, .slice none 0 0]) hb3
    have hfin : ∀ W5 : World, W5 = ((((W4.setCell ⟨w.heap.size, 0, none⟩ (num m)).setCell ⟨w.heap.size, 1, none⟩ (num len)).setCell ⟨w.heap.size, 2, none⟩ (num T)).setCell ⟨w.heap.size, 3, none⟩ (.slice ao G cap)) → Cod W5 c b m len T ∧ RdN W5 ao (gH m T) ∧ w.grownBy W5 none := fun W5 e5 => by
      have hg5 : W4.grownBy W5 (some w.heap.size) := by
        rw [e5]
        exact grownBy_trans (grownBy_trans (grownBy_trans (grown_setCell W4 _ _ _) (grown_setCell _ _ _ _)) (grown_setCell _ _ _ _)) (grown_setCell _ _ _ _)
      have hcne : c ≠ w.heap.size := by simp at hcb; omega
      have hbne : b ≠ w.heap.size := by simp at hb; omega
      have hfree : Free W4 b w.heap.size := by
        have f1 := hfr w.heap.size h0 (by simp)
        rw [hW4]
        exact (f1.of_block (hg2.block b hc1.fld.lt (by simp))).of_block (Below.heap_alloc _ _ _ (hc1.more hg2).fld.lt)
      have hao : RdN W5 ao (gH m T) := by
        rcases hrd3 with hr | ⟨g9, o9, e9, h9⟩
        · exact .inl hr
        · refine .inr ⟨g9, o9, e9, fun i hi => ?_⟩
          have hne9 : g9 ≠ w.heap.size := fun e => by
            have h5 := h9 0 (by omega)
            subst e
            rw [Nat.add_zero, cell_row (L := [num 0, num 0, num 0, .slice none 0 0]) hb3] at h5
            have h6 := gH_head hM.em T
            rw [h6] at h5
            exact no_one _ h5
          rw [World.cell?_of_block (w := W4) (a := ⟨g9, o9 + i, none⟩) (hg5.block g9 (lt_of_cell (h9 i hi)) (by simpa using hne9))]
          exact h9 i hi
      have hgw5 : w.grownBy W5 none := by
        rw [e5]
        exact grownBy_setCell (grownBy_setCell (grownBy_setCell (grownBy_setCell hgw (.inl (Nat.le_refl _)) _) (.inl (Nat.le_refl _)) _) (.inl (Nat.le_refl _)) _) (.inl (Nat.le_refl _)) _
      exact ⟨hc3.of_block (hc3.fld.kept hg5 hfree) (hc3.free.of_block (hg5.block b hc3.fld.lt (by simpa using hbne))) (hg5.block c hc3.lt (by simpa using hcne)), hao, hgw5⟩
    have HFin : Hid _ := hfin
    clear hfin hfr
    clear HSN hb3 hb4
    go_wp2_with fail
    rw [HW4.out]
    clear hW4 HW4
    go_region
    all_goals
      go_wp2
      refine bodyPost_ret (v := .tuple #[ptr c, codeV m len T (.slice ao G cap)]) (by simp [results, Tryd.f17, go_sem, d0, d1, d2, d3]) rfl ?_
      obtain ⟨f1, f2, f3⟩ := HFin.out _ rfl
      exact ⟨c, b, m, ao, cap, hM, by rw [← HGe.out], f1.more (grownBy_drew (World.grownBy.refl _ _)), f2.more (grownBy_drew (World.grownBy.refl _ _)), grownBy_drew f3, hbw, hcw⟩
  · obtain ⟨U, rfl⟩ := Int.eq_ofNat_of_zero_le (show 0 ≤ t by omega)
    rw [tS_nat] at hT
    have HT : Hid (1 + (U : Int) % 8 = (T : Int)) := by rw [Hid]; omega
    clear hT
    go_enter Tryd.func17, Tryd.ntmps17
    go_wp2_with fail
    rw [HT.out]
    refine HNew.out.mono ?_
    rintro e w1 ⟨c, b, m, hM, rfl, hc1, hg1, hb, hcb, hfr⟩
    have hsN := sNew_ok (w := w1) len T h1 h2 T1 T2
    have HSN : Hid (Calls Tryd.prog 11 #[num len, num T] w1 _) := hsN
    clear hsN HNew
    go_wp2_with fail
    rw [HT.out]
    refine HSN.out.mono ?_
    rintro e w2 ⟨m', ao, cap, hM', rfl, hrd, hg2⟩
    obtain rfl := hM.one hM'
    have hw0 : w.heap.size < w1.heap.size := by have := hg1.size; simp at this; omega
    have hb2 : w2.heap[w.heap.size]? = some (.cells #[num 0, num 0, num 0, .slice none 0 0] 29) := by
      rw [(grownBy_trans hg1 hg2).block _ (lt_of_heap hbox) (by simp)]; exact hbox
    obtain ⟨G, hGe⟩ : ∃ G, G = (gH m T).length := ⟨_, rfl⟩
    rw [← hGe]
    have HGe : Hid (G = (gH m T).length) := hGe
    clear hGe
    have hB := World.grownBy_alloc w2 (.cells #[num m, num len, num T, .slice ao G cap] 29) none
    have hb3 : (w2.alloc (.cells #[num m, num len, num T, .slice ao G cap] 29)).heap[w.heap.size]? = some (.cells #[num 0, num 0, num 0, .slice none 0 0] 29) := by
      rw [Below.heap_alloc _ _ _ (lt_of_heap hb2)]; exact hb2
    have hb4 : (w2.alloc (.cells #[num m, num len, num T, .slice ao G cap] 29)).heap[w2.heap.size]? = some (.cells #[num m, num len, num T, .slice ao G cap] 29) := heap_alloc_new w2 _
    have hgw : w.grownBy (w2.alloc (.cells #[num m, num len, num T, .slice ao G cap] 29)) none := grownBy_trans (grownBy_trans (grownBy_trans hA hg1) hg2) hB
    have hc3 := (hc1.more hg2).more hB
    have hrd3 := hrd.more hB
    have hbw : w.heap.size ≤ b := by simp at hb; omega
    have hcw : w.heap.size ≤ c := by simp at hcb; omega
    obtain ⟨W4, hW4⟩ : ∃ W4, W4 = w2.alloc (.cells #[num m, num len, num T, .slice ao G cap] 29) := ⟨_, rfl⟩
    have HW4 : Hid (w2.alloc (.cells #[num m, num len, num T, .slice ao G cap] 29) = W4) := hW4.symm
    rw [← hW4] at hb3 hb4 hgw hc3 hrd3
    have c0 : W4.cell? ⟨w2.heap.size, 0, none⟩ = some (num m) := cell_row (L := [num m, num len, num T, .slice ao G cap]) hb4
    have c1 : W4.cell? ⟨w2.heap.size, 1, none⟩ = some (num len) := cell_row (L := [num m, num len, num T, .slice ao G cap]) hb4
    have c2 : W4.cell? ⟨w2.heap.size, 2, none⟩ = some (num T) := cell_row (L := [num m, num len, num T, .slice ao G cap]) hb4
    have c3 : W4.cell? ⟨w2.heap.size, 3, none⟩ = some (.slice ao G cap) := cell_row (L := [num m, num len, num T, .slice ao G cap]) hb4
    have d0 : W4.cell? ⟨w.heap.size, 0, none⟩ = some (num 0) := cell_row (L := [num 0, num 0, num 0, .slice none 0 0]) hb3
    have d1 : W4.cell? ⟨w.heap.size, 1, none⟩ = some (num 0) := cell_row (L := [num 0, num 0, num 0, .slice none 0 0]) hb3
    have d2 : W4.cell? ⟨w.heap.size, 2, none⟩ = some (num 0) := cell_row (L := [num 0, num 0, num 0, .slice none 0 0]) hb3
    have d3 : W4.cell? ⟨w.heap.size, 3, none⟩ = some (.slice none 0 0) := cell_row (L := [num 0, num 0, num 0, .slice none 0 0]) hb3
    have y0 : W4.frozen? ⟨w.heap.size, 0, none⟩ = false := frozen_row (L := [num 0, num 0, num 0, .slice none 0 0]) hb3
    have y1 : W4.frozen? ⟨w.heap.size, 1, none⟩ = false := frozen_row (L := [num 0, num 0, num 0, .slice none 0 0]) hb3
    have y2 : W4.frozen? ⟨w.heap.size, 2, none⟩ = false := frozen_row (L := [num 0, num 0, num 0, .slice none 0 0]) hb3
    have y3 : W4.frozen? ⟨w.heap.size, 3, none⟩ = false := frozen_row (L := [num 0, num 0, num 0, .slice none 0 0]) hb3
    have hfin : ∀ W5 : World, W5 = ((((W4.setCell ⟨w.heap.size, 0, none⟩ (num m)).setCell ⟨w.heap.size, 1, none⟩ (num len)).setCell ⟨w.heap.size, 2, none⟩ (num T)).setCell ⟨w.heap.size, 3, none⟩ (.slice ao G cap)) → Cod W5 c b m len T ∧ RdN W5 ao (gH m T) ∧ w.grownBy W5 none := fun W5 e5 => by
      have hg5 : W4.grownBy W5 (some w.heap.size) := by
        rw [e5]
        exact grownBy_trans (grownBy_trans (grownBy_trans (grown_setCell W4 _ _ _) (grown_setCell _ _ _ _)) (grown_setCell _ _ _ _)) (grown_setCell _ _ _ _)
      have hcne : c ≠ w.heap.size := by simp at hcb; omega
      have hbne : b ≠ w.heap.size := by simp at hb; omega
      have hfree : Free W4 b w.heap.size := by
        have f1 := hfr w.heap.size h0 (by simp)
        rw [hW4]
        exact (f1.of_block (hg2.block b hc1.fld.lt (by simp))).of_block (Below.heap_alloc _ _ _ (hc1.more hg2).fld.lt)
      have hao : RdN W5 ao (gH m T) := by
        rcases hrd3 with hr | ⟨g9, o9, e9, h9⟩
        · exact .inl hr
        · refine .inr ⟨g9, o9, e9, fun i hi => ?_⟩
          have hne9 : g9 ≠ w.heap.size := fun e => by
            have h5 := h9 0 (by omega)
            subst e
            rw [Nat.add_zero, cell_row (L := [num 0, num 0, num 0, .slice none 0 0]) hb3] at h5
            have h6 := gH_head hM.em T
            rw [h6] at h5
            exact no_one _ h5
          rw [World.cell?_of_block (w := W4) (a := ⟨g9, o9 + i, none⟩) (hg5.block g9 (lt_of_cell (h9 i hi)) (by simpa using hne9))]
          exact h9 i hi
      have hgw5 : w.grownBy W5 none := by
        rw [e5]
        exact grownBy_setCell (grownBy_setCell (grownBy_setCell (grownBy_setCell hgw (.inl (Nat.le_refl _)) _) (.inl (Nat.le_refl _)) _) (.inl (Nat.le_refl _)) _) (.inl (Nat.le_refl _)) _
      exact ⟨hc3.of_block (hc3.fld.kept hg5 hfree) (hc3.free.of_block (hg5.block b hc3.fld.lt (by simpa using hbne))) (hg5.block c hc3.lt (by simpa using hcne)), hao, hgw5⟩
    have HFin : Hid _ := hfin
    clear hfin hfr
    clear HSN hb3 hb4
    go_wp2_with fail
    rw [HW4.out]
    clear hW4 HW4
    go_region
    all_goals
      go_wp2
      refine bodyPost_ret (v := .tuple #[ptr c, codeV m len T (.slice ao G cap)]) (by simp [results, Tryd.f17, go_sem, d0, d1, d2, d3]) rfl ?_
      obtain ⟨f1, f2, f3⟩ := HFin.out _ rfl
      exact ⟨c, b, m, ao, cap, hM, by rw [← HGe.out], f1.more (grownBy_drew (World.grownBy.refl _ _)), f2.more (grownBy_drew (World.grownBy.refl _ _)), grownBy_drew f3, hbw, hcw⟩
end Gf
end Go.Proofs.YtiojdoehlooibaaDoor
