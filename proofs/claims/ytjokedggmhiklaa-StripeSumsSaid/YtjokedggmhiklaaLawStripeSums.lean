/- The walk of StripeSums. -/
import Derived.Test.YtjokedggmhiklaaSu
namespace Go.Proofs.Ytjokedggmhiklaa
open Go.ChangeShapes Go.WideShapes Go.ChangeAt Go.RowKit Go.Maps
namespace Sp
section
variable {W : World} {H : Type} {enc : TypeId × Value → H} {base : Nat}
theorem leaves_ofZ {a0 : Option Addr} {len0 cap0 : Nat} {d : DataW H} {ps : List MemPlace} (h0 : DataW.Trod enc Try.prog W base (fun _ => true) true 28 (.slice a0 len0 cap0) d ps) (hsz : ∀ n ∈ d.weights Try.prog 28, n ≤ reachBytes) : ∃ xs, LeavesM W All (.slice a0 len0 cap0) len0 xs ∧ len0 ≤ 2932031007402 := by
  obtain ⟨xs, hx⟩ := leaves_of h0
  refine ⟨xs, hx, ?_⟩
  obtain ⟨fuel, hf⟩ := h0
  rcases Deep.open_slice Try.underlying28 hf with ⟨hcs, _⟩ | ⟨a, len, cap, m, n, D, Pl, hcs, _, hl, hm, hmm, hxe, _⟩
  · simp [Value.cells] at hcs
    omega
  · simp [Value.cells] at hcs
    obtain ⟨rfl, rfl, rfl⟩ := hcs
    simp only [Prod.mk.injEq] at hxe
    have hb : Try.prog.bytesOf 32 = 48 := by kernel_rfl
    have := hsz ((len0 + (m - len0)) * Try.prog.bytesOf 32) (by rw [hxe.1]; simp [DataW.weights, Try.underlying28])
    rw [hb] at this
    simp only [reachBytes] at this
    omega
end
open Classical in
noncomputable def ansE (good : Prop) : Int := if good then 0 else 1
def leaf0 : Leaf := ⟨0, fun _ => ⟨0, 0, 0⟩, 0, fun _ => []⟩
open Classical in
noncomputable def ansX (good : Prop) (x : Leaf) : Leaf := if good then x else leaf0
theorem nil_leaf (w : World) : LeafM w All nilS nilS leaf0 := ⟨Rows.nil _ _ _, Rows.nil _ _ _, fun i hi => by cases hi⟩
/-- What a call answers, said once. -/
def Seen (w : World) (er : Int) (x : Leaf) (e : Ending) (w' : World) : Prop :=
  ∃ (a1 : Option Addr) (n1 c1 : Nat) (a2 : Option Addr) (n2 c2 : Nat), e = .returned (.tuple #[.agg #[.slice a1 n1 c1, .slice a2 n2 c2], num er]) ∧ w.grownBy w' none ∧ LeafM w' All (.slice a1 n1 c1) (.slice a2 n2 c2) x
theorem Ans.seen {w w' : World} {good : Prop} {x : Leaf} {e : Ending} (h : Ans w good x e w') : Seen w (ansE good) (ansX good x) e w' := by
  obtain ⟨a1, n1, c1, a2, n2, c2, er, rfl, hg, h⟩ := h
  rcases h with ⟨hgd, rfl, B, hl⟩ | ⟨hgd, rfl, rfl, rfl, rfl, rfl, rfl, rfl⟩
  · exact ⟨a1, n1, c1, a2, n2, c2, by simp [ansE, hgd], hg, by rw [ansX, if_pos hgd]; exact hl.sub fun _ _ => trivial⟩
  · exact ⟨none, 0, 0, none, 0, 0, by simp [ansE, hgd], hg, by rw [ansX, if_neg hgd]; exact nil_leaf _⟩
theorem ansX_eq {good : Prop} {x : Leaf} (h : good → ∀ i, i < x.m → 1 ≤ (x.sec i).length) : LeafEq (ansX good x) (ansX good x) := by
  refine ⟨rfl, rfl, fun _ _ => rfl, fun i hi => ⟨rfl, ?_⟩⟩
  by_cases hg : good
  · rw [ansX, if_pos hg] at hi ⊢; exact h hg i hi
  · rw [ansX, if_neg hg] at hi; cases hi
set_option maxHeartbeats 6400000 in
set_option maxRecDepth 4000 in
theorem law_StripeSums (S N T : Int) (_hS : I64 S) (_hN : I64 N) (_hT : I64 T) (ao : Option Addr) (len cap : Nat) (xs : Nat → Leaf) {w : World} (hx : LeavesM w All (.slice ao len cap) len xs) (hl : len ≤ 2932031007402) (m : Int) (_hm : I64 m) :
    Calls Try.prog 4 #[layV S N T, .slice ao len cap, num m] w fun e w' => e = .returned (.bool true) ∧ w.grownBy w' none := by
  have hnn := hnot
  obtain ⟨W, hW⟩ : ∃ W, W = w.alloc (layL S N T) := ⟨_, rfl⟩
  have hgW : w.grownBy W none := by rw [hW]; exact World.grownBy_alloc w _ none
  have hb1 : W.heap[w.heap.size]? = some (layL S N T) := by rw [hW]; exact heap_alloc_new w _
  have Hw : Hid _ := hW
  have HAw : Hid (∀ w, Calls Try.prog 9 #[] w fun e w' => e = .returned (.bool true) ∧ w.grownBy w' none) := awake_ok
  obtain ⟨E1, hE1⟩ : ∃ E1, E1 = ansE (Good S N len xs) := ⟨_, rfl⟩
  obtain ⟨E2, hE2⟩ : ∃ E2, E2 = ansE (MendGood S N len xs m) := ⟨_, rfl⟩
  obtain ⟨x1, hx1⟩ : ∃ x1, x1 = ansX (Good S N len xs) (sumS S.toNat N.toNat len xs) := ⟨_, rfl⟩
  obtain ⟨x2, hx2⟩ : ∃ x2, x2 = ansX (MendGood S N len xs m) (MendS S N len xs m) := ⟨_, rfl⟩
  have hq1 : LeafEq x1 x1 := by
    rw [hx1]
    refine ansX_eq fun hg i _ => ?_
    have := hg.1
    unfold LayMay at this
    show 1 ≤ (sumSec S.toNat len xs i).length
    rw [sumSec_len]; omega
  have hq2 : LeafEq x2 x2 := by
    rw [hx2]
    refine ansX_eq fun hg i _ => ?_
    have := hg.2.2.2.1
    unfold LayMay at this
    show 1 ≤ (sumSec S.toNat (len - 1) (others xs m.toNat) i).length
    rw [sumSec_len]; omega
  have HC1 : Hid (∀ w', w.grownBy w' none → Calls Try.prog 12 #[layV S N T, .slice ao len cap] w' (Seen w' E1 x1)) := fun w' hg => by
    rw [hE1, hx1]; exact (sum_ans (hx.more hg) hl S N T).mono fun _ _ h => h.seen
  have HC2 : Hid (∀ w', w.grownBy w' none → Calls Try.prog 13 #[layV S N T, .slice ao len cap] w' (Seen w' E1 x1)) := fun w' hg => by
    rw [hE1, hx1]; exact (ksum_ok (hx.more hg) S N T).mono fun _ _ h => h.seen
  have HC3 : Hid (∀ w', w.grownBy w' none → Calls Try.prog 14 #[layV S N T, .slice ao len cap, num m] w' (Seen w' E2 x2)) := fun w' hg => by
    rw [hE2, hx2]; exact (mend_ok (hx.more hg) hl S N T m).mono fun _ _ h => h.seen
  have HC4 : Hid (∀ w', w.grownBy w' none → Calls Try.prog 15 #[layV S N T, .slice ao len cap, num m] w' (Seen w' E2 x2)) := fun w' hg => by
    rw [hE2, hx2]; exact (kmend_ok (hx.more hg) hl S N T m).mono fun _ _ h => h.seen
  clear hE1 hE2 hx1 hx2 hW
  have HQ1 : Hid _ := hq1
  have HQ2 : Hid _ := hq2
  have HW : Hid (∀ wx, W.grownBy wx none → w.grownBy wx none ∧ Three wx w.heap.size (num S) (num N) (num T)) := fun wx hg => ⟨grownBy_trans hgW hg, three_keep (w := W) ⟨cell_at hb1 rfl, cell_at hb1 rfl, cell_at hb1 rfl⟩ hg⟩
  clear hq1 hq2 hgW hb1
  go_enter Try.func4, Try.ntmps4
  go_wp2_with (rw [← Hw.out])
  refine (HAw.out _).mono ?_
  rintro e w1 ⟨rfl, hg1⟩
  obtain ⟨hg, c0, c1, c2⟩ := HW.out w1 hg1
  go_wp2_with fail
  refine (HC1.out _ hg).mono ?_
  rintro e w2 ⟨a1, n1, k1, a2, n2, k2, rfl, hg2, l1⟩
  obtain ⟨w3, hw3⟩ : ∃ w3, w3 = w2.alloc (leafL (.slice a1 n1 k1) (.slice a2 n2 k2)) := ⟨_, rfl⟩
  have g3 : w2.grownBy w3 none := by rw [hw3]; exact World.grownBy_alloc w2 _ none
  have b3 : w3.heap[w2.heap.size]? = some (leafL (.slice a1 n1 k1) (.slice a2 n2 k2)) := by rw [hw3]; exact heap_alloc_new w2 _
  have G3 : Hid (W.grownBy w3 none) := grownBy_trans hg1 (grownBy_trans hg2 g3)
  have B3 : Hid _ := b3
  have L1 : Hid _ := l1.more g3
  have Hw3 : Hid _ := hw3
  clear hg c0 c1 c2 hg1 hg2 l1 hw3 g3 b3
  obtain ⟨hg, c0, c1, c2⟩ := HW.out w3 G3.out
  go_wp2_with (rw [← Hw3.out])
  refine (HC2.out _ hg).mono ?_
  rintro e w4 ⟨a3, n3, k3, a4, n4, k4, rfl, hg4, l2⟩
  obtain ⟨w5, hw5⟩ : ∃ w5, w5 = w4.alloc (leafL (.slice a3 n3 k3) (.slice a4 n4 k4)) := ⟨_, rfl⟩
  have g5 : w4.grownBy w5 none := by rw [hw5]; exact World.grownBy_alloc w4 _ none
  have b5 : w5.heap[w4.heap.size]? = some (leafL (.slice a3 n3 k3) (.slice a4 n4 k4)) := by rw [hw5]; exact heap_alloc_new w4 _
  have g35 := grownBy_trans hg4 g5
  have G5 : Hid (W.grownBy w5 none) := grownBy_trans G3.out g35
  have B5 : Hid (w5.heap[w2.heap.size]? = some (leafL (.slice a1 n1 k1) (.slice a2 n2 k2)) ∧ w5.heap[w4.heap.size]? = some (leafL (.slice a3 n3 k3) (.slice a4 n4 k4))) := ⟨(g35.block _ (lt_of_heap B3.out) (by simp)).trans B3.out, b5⟩
  have L2 : Hid (LeafM w5 All (.slice a1 n1 k1) (.slice a2 n2 k2) x1 ∧ LeafM w5 All (.slice a3 n3 k3) (.slice a4 n4 k4) x1) := ⟨L1.out.more g35, l2.more g5⟩
  have Hw5 : Hid _ := hw5
  clear hg c0 c1 c2 hg4 l2 hw5 g5 b5 g35 L1 B3 G3 Hw3
  obtain ⟨hg, c0, c1, c2⟩ := HW.out w5 G5.out
  go_wp2_with (rw [← Hw5.out])
  refine (HC3.out _ hg).mono ?_
  rintro e w6 ⟨a5, n5, k5, a6, n6, k6, rfl, hg6, l3⟩
  obtain ⟨w7, hw7⟩ : ∃ w7, w7 = w6.alloc (leafL (.slice a5 n5 k5) (.slice a6 n6 k6)) := ⟨_, rfl⟩
  have g7 : w6.grownBy w7 none := by rw [hw7]; exact World.grownBy_alloc w6 _ none
  have b7 : w7.heap[w6.heap.size]? = some (leafL (.slice a5 n5 k5) (.slice a6 n6 k6)) := by rw [hw7]; exact heap_alloc_new w6 _
  have g57 := grownBy_trans hg6 g7
  have G7 : Hid (w5.grownBy w7 none) := g57
  have B7 : Hid _ := b7
  have L3 : Hid _ := l3.more g7
  have Hw7 : Hid _ := hw7
  clear hg c0 c1 c2 hg6 l3 hw7 g7 b7 g57 Hw5
  obtain ⟨hg, c0, c1, c2⟩ := HW.out w7 (grownBy_trans G5.out G7.out)
  go_wp2_with (rw [← Hw7.out])
  refine (HC4.out _ hg).mono ?_
  rintro e w8 ⟨a7, n7, k7, a8, n8, k8, rfl, hg8, l4⟩
  obtain ⟨w9, hw9⟩ : ∃ w9, w9 = w8.alloc (leafL (.slice a7 n7 k7) (.slice a8 n8 k8)) := ⟨_, rfl⟩
  have g9 : w8.grownBy w9 none := by rw [hw9]; exact World.grownBy_alloc w8 _ none
  have b9 : w9.heap[w8.heap.size]? = some (leafL (.slice a7 n7 k7) (.slice a8 n8 k8)) := by rw [hw9]; exact heap_alloc_new w8 _
  have g79 := grownBy_trans hg8 g9
  have g59 := grownBy_trans G7.out g79
  have G9 : Hid (w.grownBy w9 none) := (HW.out w9 (grownBy_trans G5.out g59)).1
  have b1 := (g59.block _ (lt_of_heap B5.out.1) (by simp)).trans B5.out.1
  have b2 := (g59.block _ (lt_of_heap B5.out.2) (by simp)).trans B5.out.2
  have b3 := (g79.block _ (lt_of_heap B7.out) (by simp)).trans B7.out
  have c0 := cell_at (o := 0) b1 rfl
  have c1 := cell_at (o := 1) b1 rfl
  have c2 := cell_at (o := 0) b2 rfl
  have c3 := cell_at (o := 1) b2 rfl
  have HSm1 : Hid (Calls Try.prog 16 #[.agg #[.slice a1 n1 k1, .slice a2 n2 k2], .agg #[.slice a3 n3 k3, .slice a4 n4 k4]] w9 fun e w' => e = .returned (.bool true) ∧ w9.grownBy w' none) := same_ok (L2.out.1.more g59) (L2.out.2.more g59) HQ1.out
  have HSm2 : Hid (∀ wx, w9.grownBy wx none → (wx.cell? ⟨w6.heap.size, 0, none⟩ = some (.slice a5 n5 k5) ∧ wx.cell? ⟨w6.heap.size, 1, none⟩ = some (.slice a6 n6 k6) ∧ wx.cell? ⟨w8.heap.size, 0, none⟩ = some (.slice a7 n7 k7) ∧ wx.cell? ⟨w8.heap.size, 1, none⟩ = some (.slice a8 n8 k8)) ∧ Calls Try.prog 16 #[.agg #[.slice a5 n5 k5, .slice a6 n6 k6], .agg #[.slice a7 n7 k7, .slice a8 n8 k8]] wx fun e w' => e = .returned (.bool true) ∧ wx.grownBy w' none) := fun wx hgx => by
    have d3 := (hgx.block _ (lt_of_heap b3) (by simp)).trans b3
    have d4 := (hgx.block _ (lt_of_heap b9) (by simp)).trans b9
    exact ⟨⟨cell_at d3 rfl, cell_at d3 rfl, cell_at d4 rfl, cell_at d4 rfl⟩, same_ok ((L3.out.more g79).more hgx) ((l4.more g9).more hgx) HQ2.out⟩
  have Hw9 : Hid _ := hw9
  clear hg hg8 l4 hw9 g9 b9 g79 g59 b1 b2 b3 L2 L3 B5 B7 G5 G7 Hw7 HC1 HC2 HC3 HC4
  go_wp2_with (rw [← Hw9.out])
  refine HSm1.out.mono ?_
  rintro e wx ⟨rfl, hgx⟩
  obtain ⟨⟨d0, d1, d2, d3⟩, hsm⟩ := HSm2.out wx hgx
  have HSm : Hid (Calls Try.prog 16 #[.agg #[.slice a5 n5 k5, .slice a6 n6 k6], .agg #[.slice a7 n7 k7, .slice a8 n8 k8]] wx fun e w' => e = .returned (.bool true) ∧ wx.grownBy w' none) := hsm
  have HGx : Hid _ := grownBy_trans G9.out hgx
  clear hsm hgx c0 c1 c2 c3
  go_wp2_with fail
  refine HSm.out.mono ?_
  rintro e wy ⟨rfl, hgy⟩
  have HGy : Hid _ := grownBy_trans HGx.out hgy
  clear hgy d0 d1 d2 d3
  go_wp2
  go_ret
  exact ⟨rfl, HGy.out⟩
end Sp
end Go.Proofs.Ytjokedggmhiklaa
