/- Layer 6 (stripe): Parity of an open row, in memory of its own. -/
import Derived.Test.YtjokedggmhiklaaTb
namespace Go.Proofs.Ytjokedggmhiklaa
open Go.RowKit Go.Maps
namespace Sp
theorem OwnLeaf.kept {B : Nat} {w w' : World} {S N gs gb : Nat} {gk : Nat → Nat} {x : Leaf} (h : OwnLeaf B w S N gs gb gk x) (e : ∀ b, (b = gs ∨ b = gb ∨ ∃ a, a < N ∧ b = gk a) → w'.heap[b]? = w.heap[b]?) : OwnLeaf B w' S N gs gb gk x := by
  have e1 := e gs (.inl rfl)
  have e2 := e gb (.inr (.inl rfl))
  refine ⟨h.os.of_heap e1, h.ob.of_heap e2, h.es, h.eb, h.n1, fun a ha => ?_, fun a ha => ?_, h.xn, h.xm, h.si, h.xs⟩
  · obtain ⟨a1, a2, a3⟩ := h.sl a ha
    exact ⟨(cell_of_block e1).trans a1, (cell_of_block e1).trans a2, (cell_of_block e1).trans a3⟩
  · obtain ⟨a1, a2, a3⟩ := h.se a ha
    exact ⟨(cell_of_block e2).trans a1, (e (gk a) (.inr (.inr ⟨a, ha, rfl⟩))).trans a2, a3⟩
theorem OwnLeaf.lts {B : Nat} {w : World} {S N gs gb : Nat} {gk : Nat → Nat} {x : Leaf} (h : OwnLeaf B w S N gs gb gk x) : ∀ b, (b = gs ∨ b = gb ∨ ∃ a, a < N ∧ b = gk a) → ∃ L t, w.heap[b]? = some (.cells L t (0, 0)) ∧ t ≠ 32 := by
  rintro b (rfl | rfl | ⟨a, ha, rfl⟩)
  · obtain ⟨L, h1, _⟩ := h.os
    exact ⟨_, _, h1, by decide⟩
  · obtain ⟨L, h1, _⟩ := h.ob
    exact ⟨_, _, h1, by decide⟩
  · exact ⟨_, _, (h.se a ha).2.1, by decide⟩
theorem OwnLeaf.more {B : Nat} {w w' : World} {S N gs gb : Nat} {gk : Nat → Nat} {x : Leaf} (h : OwnLeaf B w S N gs gb gk x) (hg : w.grownBy w' none) : OwnLeaf B w' S N gs gb gk x := h.kept fun b hb => by
  obtain ⟨L, t, h1, _⟩ := h.lts b hb
  exact hg.block b (lt_of_heap h1) (by simp)
theorem OwnLeaf.setRow {B : Nat} {w w' : World} {S N gs gb gz : Nat} {gk : Nat → Nat} {x : Leaf} {L : Array Value} (h : OwnLeaf B w S N gs gb gk x) (hz : w.heap[gz]? = some (.cells L 32)) (hs : ∀ b, b ≠ gz → w'.heap[b]? = w.heap[b]?) : OwnLeaf B w' S N gs gb gk x := h.kept fun b hb => hs b fun e => by
  obtain ⟨L', t, h1, h2⟩ := h.lts b hb
  rw [e, hz] at h1
  simp only [Option.some.injEq, Obj.cells.injEq] at h1
  exact h2 h1.2.1.symm
theorem OwnLeaf.low {B B' : Nat} {w : World} {S N gs gb : Nat} {gk : Nat → Nat} {x : Leaf} (h : OwnLeaf B w S N gs gb gk x) (hB : B' ≤ B) : OwnLeaf B' w S N gs gb gk x :=
  ⟨h.os, h.ob, Nat.le_trans hB h.es, Nat.le_trans hB h.eb, h.n1, h.sl, fun a ha => by
    obtain ⟨a1, a2, a3, a4⟩ := h.se a ha
    exact ⟨a1, a2, Nat.le_trans hB a3, a4⟩, h.xn, h.xm, h.si, h.xs⟩
structure FinO (w0 w : World) (gC S N gs gb : Nat) (gk : Nat → Nat) (x : Leaf) : Prop where
  grown : w0.grownBy w none
  bC : w.heap[gC]? = some (leafL (sl0 gs N) (sl0 gb N))
  l3 : OwnLeaf w0.heap.size w S N gs gb gk x
theorem fino_set {w0 w : World} {gz S N gs gb B : Nat} {gk : Nat → Nat} {x : Leaf} (h : w0.grownBy w none) (hz : w.heap[gz]? = some (leafL nilS nilS)) (n0 : w0.heap.size ≤ gz) (hl : OwnLeaf B w S N gs gb gk x) (hB : w0.heap.size ≤ B) : FinO w0 ((w.setCell ⟨gz, 0, none⟩ (sl0 gs N)).setCell ⟨gz, 1, none⟩ (sl0 gb N)) gz S N gs gb gk x := by
  have z1 := box_put (o := 0) (v := sl0 gs N) hz (.inl rfl)
  have z2 := box_put (o := 1) (v := sl0 gb N) z1 (.inr rfl)
  exact ⟨grownBy_set (grownBy_set h n0 _) n0 _, z2, (hl.setRow hz fun b hb => (setCell_else hb _).trans (setCell_else hb _)).low hB⟩
theorem fino_alloc {w0 w : World} {S N gs gb B : Nat} {gk : Nat → Nat} {x : Leaf} (h : w0.grownBy w none) (hl : OwnLeaf B w S N gs gb gk x) (hB : w0.heap.size ≤ B) : FinO w0 (w.alloc (leafL (sl0 gs N) (sl0 gb N))) w.heap.size S N gs gb gk x :=
  ⟨grownBy_alloc' h _, heap_alloc_new w _, (hl.more (World.grownBy_alloc w _ none)).low hB⟩
/-- The sum of one leaf, of which the world holds the row alone. -/
theorem sum_row1Y {w : World} {K : Nat → Prop} {S N k gs gb : Nat} {X : Nat → Leaf} (hl : LayMay S N) (_hS : S ≤ 1000 ∧ N ≤ 1000) (hm : May S N (sumS S N k X)) (h : LeafM w K (sl0 gs N) (sl0 gb N) (sumS S N k X)) {wx : World} {B : Nat} (hg : w.grownBy wx none) (hB : wx.heap[B]? = some (leafL (sl0 gs N) (sl0 gb N))) :
    Calls Try.prog 12 #[layV S N 1, .slice (some ⟨B, 0, none⟩) 1 1] wx (SumYes wx S N 1 (fun _ => sumS S N k X)) := by
  have hL : LeavesM wx All (.slice (some ⟨B, 0, none⟩) 1 1) 1 (fun _ => sumS S N k X) := ⟨_, 1, rfl, Nat.le_refl _, by omega, .inr ⟨B, 0, rfl, trivial, fun i hi => by
    obtain rfl : i = 0 := by omega
    exact ⟨_, _, cell_at hB rfl, cell_at hB rfl, (h.more hg).sub fun _ _ => trivial⟩⟩⟩
  exact sum_yes hL (by omega) S N 1 ⟨hl, fun _ _ => hm⟩
def ParOwn (w : World) (S N p k : Nat) (X : Nat → Leaf) (e : Ending) (w' : World) : Prop :=
  ∃ gs gb gk, e = .returned (.tuple #[.agg #[sl0 gs N, sl0 gb N], num p, num 0]) ∧ w.grownBy w' none ∧ OwnLeaf w.heap.size w' S N gs gb gk (sumS S N k X)
set_option maxHeartbeats 6400000 in
set_option maxRecDepth 4000 in
theorem parity_own {w : World} {g S N wd p k gs gb : Nat} {X : Nat → Leaf} (h : OpenM w g S N wd p k gs gb X) (hl : LayMay S N) (hw : 1 ≤ wd) (hm : May S N (sumS S N k X)) :
    Calls Try.prog 22 #[.pointer (some ⟨g, 0, none⟩)] w (ParOwn w S N p k X) := by
  have HFo : Hid (Try.prog.follows .mixedOrders = true) := follows_mixed
  obtain ⟨W, hW⟩ : ∃ W, W = w.alloc (leafL nilS nilS) := ⟨_, rfl⟩
  have hgW : w.grownBy W none := by rw [hW]; exact World.grownBy_alloc w _ none
  have hb1 : W.heap[w.heap.size]? = some (leafL nilS nilS) := by rw [hW]; exact heap_alloc_new w _
  have HWs : Hid (W.heap.size = w.heap.size + 1) := by rw [hW]; simp [Hid]
  have Hw : Hid _ := hW
  have hgl : g < w.heap.size := lt_of_heap h.box
  have hSN : S ≤ 1000 ∧ N ≤ 1000 := by unfold LayMay at hl; omega
  have HN : Hid (Calls Try.prog 32 #[.pointer (some ⟨g, 0, none⟩)] W fun e w' => e = .returned (.bool false) ∧ w' = W) := none_ok (h.more hgW).box hw
  have HSum : Hid (∀ (wx : World) (B : Nat), w.grownBy wx none → wx.heap[B]? = some (leafL (sl0 gs N) (sl0 gb N)) → Calls Try.prog 12 #[layV S N 1, .slice (some ⟨B, 0, none⟩) 1 1] wx (SumYes wx S N 1 (fun _ => sumS S N k X))) := fun wx B hg hB => sum_row1Y hl hSN hm h.leaf hg hB
  have HK : Hid (∀ wx, w.grownBy wx none → Held5 wx g (num S) (num N) (num 1) (sl0 gs N) (sl0 gb N)) := fun wx hg => by
    have b := (h.more hg).box
    exact ⟨cell_at b rfl, cell_at b rfl, cell_at b rfl, cell_at b rfl, cell_at b rfl⟩
  have HK4 : Hid (∀ wx, W.grownBy wx none → wx.cell? ⟨g, 4, none⟩ = some (num p) ∧ wx.heap[w.heap.size]? = some (leafL nilS nilS)) := fun wx hg => ⟨cell_at (h.more (grownBy_trans hgW hg)).box rfl, (hg.block _ (lt_of_heap hb1) (by simp)).trans hb1⟩
  have G0 : Hid (w.grownBy W.drew none) := grownBy_drew hgW
  have HS0 := HK.out _ G0.out
  obtain ⟨Xo, hXo⟩ : ∃ Xo, Xo = leafL (sl0 gs N) (sl0 gb N) := ⟨_, rfl⟩
  have hX1 : (W.alloc Xo).drew.heap[W.heap.size]? = some Xo := heap_alloc_new W Xo
  have hX2 : ((W.alloc Xo).alloc (leafL nilS nilS)).drew.heap[W.heap.size]? = some Xo := ((World.grownBy_alloc (W.alloc Xo) (leafL nilS nilS) none).block _ (lt_of_heap (heap_alloc_new W Xo)) (by simp)).trans (heap_alloc_new W Xo)
  have hX3 : ((W.alloc (leafL nilS nilS)).alloc Xo).drew.heap[W.heap.size + 1]? = some Xo := by
    have h := heap_alloc_new (W.alloc (leafL nilS nilS)) Xo
    have e : (W.alloc (leafL nilS nilS)).heap.size = W.heap.size + 1 := by simp
    rw [e] at h
    exact h
  rw [hXo] at hX1 hX2 hX3
  have Z2 : Hid (((W.alloc (leafL (sl0 gs N) (sl0 gb N))).alloc (leafL nilS nilS)).drew.heap[W.heap.size + 1]? = some (leafL nilS nilS)) := by
    have h := heap_alloc_new (W.alloc (leafL (sl0 gs N) (sl0 gb N))) (leafL nilS nilS)
    have e : (W.alloc (leafL (sl0 gs N) (sl0 gb N))).heap.size = W.heap.size + 1 := by simp
    rw [e] at h
    exact h
  have Z3 : Hid (((W.alloc (leafL nilS nilS)).alloc (leafL (sl0 gs N) (sl0 gb N))).drew.heap[W.heap.size]? = some (leafL nilS nilS)) := ((World.grownBy_alloc (W.alloc (leafL nilS nilS)) _ none).block _ (lt_of_heap (heap_alloc_new W _)) (by simp)).trans (heap_alloc_new W _)
  have G1' : Hid (W.grownBy (W.alloc (leafL (sl0 gs N) (sl0 gb N))).drew none) := grownBy_drew (World.grownBy_alloc W _ none)
  have G2' : Hid (W.grownBy ((W.alloc (leafL (sl0 gs N) (sl0 gb N))).alloc (leafL nilS nilS)).drew none) := grownBy_drew (grownBy_alloc' (World.grownBy_alloc W _ none) _)
  have G3' : Hid (W.grownBy ((W.alloc (leafL nilS nilS)).alloc (leafL (sl0 gs N) (sl0 gb N))).drew none) := grownBy_drew (grownBy_alloc' (World.grownBy_alloc W _ none) _)
  have G4 : Hid (w.grownBy (W.alloc (leafL nilS nilS)).drew none) := grownBy_drew (grownBy_alloc' hgW _)
  have G1 : Hid _ := grownBy_trans hgW G1'.out
  have G2 : Hid _ := grownBy_trans hgW G2'.out
  have G3 : Hid _ := grownBy_trans hgW G3'.out
  have X1 : Hid _ := hX1
  have X2 : Hid _ := hX2
  have X3 : Hid _ := hX3
  clear hXo hX1 hX2 hX3 hb1 hW h hl hm
  go_enter Try.func22, Try.ntmps22
  go_upto_region 3 with (first | (rw [← Hw.out]) | (go_at_call 32; refine HN.out.mono ?_; rintro e W ⟨rfl, rfl⟩))
  go_cut [5, 6] (fun q e wx => ∃ gC gs3 gb3 gk3, q = ptr gC 0 ∧ e = num 0 ∧ FinO W wx gC S N gs3 gb3 gk3 (sumS S N k X) ∧ W.heap.size ≤ gC)
  case first =>
    go_region_held3 (fun w' => w'.cell? ⟨g, 0, none⟩ = some (num S) ∧ w'.cell? ⟨g, 1, none⟩ = some (num N) ∧ w'.cell? ⟨g, 2, none⟩ = some (num 1) ∧ w'.cell? ⟨g, 6, none⟩ = some (sl0 gs N) ∧ w'.cell? ⟨g, 7, none⟩ = some (sl0 gb N)) (first | assumption | exact HK.out _ G4.out | exact HK.out _ G1.out | exact HK.out _ G2.out | exact HK.out _ G3.out | exact HK.out _ hgw | exact HK.out _ (grownBy_alloc' hgw _) | exact HK.out _ (grownBy_set (grownBy_set hgw (by have := HWs.out; omega) _) (by have := HWs.out; omega) _))
      (first | (go_at_call 12; refine Calls.mono (HSum.out _ _ (by first | exact G1.out | exact G2.out | exact G3.out) (by first | exact X1.out | exact X2.out | exact X3.out)) ?_; rintro e wd ⟨gs3, gb3, gk3, rfl, hgd, hPd⟩; have hgW3 : W.grownBy wd none := (by first | exact grownBy_trans G1'.out hgd | exact grownBy_trans G2'.out hgd | exact grownBy_trans G3'.out hgd); have hgw := grownBy_trans hgW hgW3; have hgd' := hgd; (try (have hZd : wd.heap[W.heap.size + 1]? = some (leafL nilS nilS) := Eq.trans (hgd.block (W.heap.size + 1) (lt_of_heap Z2.out) (by simp)) Z2.out)); (try (have hZd : wd.heap[W.heap.size]? = some (leafL nilS nilS) := Eq.trans (hgd.block (W.heap.size) (lt_of_heap Z3.out) (by simp)) Z3.out)); try (have zc0 := cell_at (o := 0) hZd rfl; have zc1 := cell_at (o := 1) hZd rfl; have zf0 := free_at (o := 0) hZd; have zf1 := free_at (o := 1) hZd)))
    all_goals
      go_wp2_with fail
      go_meet
      rw [sum_of_one] at hPd
      have gz1 := G1'.out.size
      have gz2 := G2'.out.size
      have gz3 := G3'.out.size
      first
        | exact ⟨_, gs3, gb3, gk3, rfl, rfl, fino_alloc hgW3 hPd gz1, hgW3.size⟩
        | exact ⟨_, gs3, gb3, gk3, rfl, rfl, fino_set hgW3 hZd (by omega) hPd gz2, by omega⟩
        | exact ⟨_, gs3, gb3, gk3, rfl, rfl, fino_set hgW3 hZd (by omega) hPd gz3, by omega⟩
  case rest =>
    obtain ⟨gC, gs3, gb3, gk3, rfl, rfl, hF, hgC⟩ := hcut
    have hne1 : gC ≠ w.heap.size := by have := HWs.out; omega
    have hne2 : g ≠ w.heap.size := by omega
    obtain ⟨c4, hbx⟩ := HK4.out wc hF.grown
    have a0 : wc.drew.cell? ⟨gC, 0, none⟩ = some (sl0 gs3 N) := cell_at hF.bC rfl
    have a1 : wc.drew.cell? ⟨gC, 1, none⟩ = some (sl0 gb3 N) := cell_at hF.bC rfl
    have a2 : wc.drew.cell? ⟨g, 4, none⟩ = some (num p) := c4
    have x0 : wc.drew.cell? ⟨w.heap.size, 0, none⟩ = some nilS := cell_at hbx rfl
    have x1 : wc.drew.cell? ⟨w.heap.size, 1, none⟩ = some nilS := cell_at hbx rfl
    have x2 : wc.drew.frozen? ⟨w.heap.size, 0, none⟩ = false := free_at hbx
    have x3 : wc.drew.frozen? ⟨w.heap.size, 1, none⟩ = false := free_at hbx
    have y0 : wc.cell? ⟨w.heap.size, 0, none⟩ = some nilS := cell_at hbx rfl
    have y1 : wc.cell? ⟨w.heap.size, 1, none⟩ = some nilS := cell_at hbx rfl
    have y2 : wc.frozen? ⟨w.heap.size, 0, none⟩ = false := free_at hbx
    have y3 : wc.frozen? ⟨w.heap.size, 1, none⟩ = false := free_at hbx
    have z0 : (((wc.setCell ⟨w.heap.size, 0, none⟩ (sl0 gs3 N)).setCell ⟨w.heap.size, 1, none⟩ (sl0 gb3 N)).drew).cell? ⟨w.heap.size, 0, none⟩ = some (sl0 gs3 N) := cell_at (box_put (o := 1) (v := sl0 gb3 N) (box_put (o := 0) (v := sl0 gs3 N) hbx (.inl rfl)) (.inr rfl)) rfl
    have z1 : (((wc.setCell ⟨w.heap.size, 0, none⟩ (sl0 gs3 N)).setCell ⟨w.heap.size, 1, none⟩ (sl0 gb3 N)).drew).cell? ⟨w.heap.size, 1, none⟩ = some (sl0 gb3 N) := cell_at (box_put (o := 1) (v := sl0 gb3 N) (box_put (o := 0) (v := sl0 gs3 N) hbx (.inl rfl)) (.inr rfl)) rfl
    have HR : Hid (ParOwn w S N p k X (.returned (.tuple #[.agg #[sl0 gs3 N, sl0 gb3 N], num p, num 0])) (((wc.setCell ⟨w.heap.size, 0, none⟩ (sl0 gs3 N)).setCell ⟨w.heap.size, 1, none⟩ (sl0 gb3 N)).drew)) :=
      ⟨gs3, gb3, gk3, rfl, grownBy_drew (grownBy_set (grownBy_set (grownBy_trans hgW hF.grown) (Nat.le_refl _) _) (Nat.le_refl _) _),
        ((hF.l3.setRow hbx (w' := ((wc.setCell ⟨w.heap.size, 0, none⟩ (sl0 gs3 N)).setCell ⟨w.heap.size, 1, none⟩ (sl0 gb3 N)).drew) fun b hb => (setCell_else hb _).trans (setCell_else hb _))).low (by have := HWs.out; omega)⟩
    have HKx : Hid (((wc.setCell ⟨w.heap.size, 0, none⟩ (sl0 gs3 N)).setCell ⟨w.heap.size, 1, none⟩ (sl0 gb3 N)).drew.cell? ⟨gC, 0, none⟩ = some (sl0 gs3 N) ∧ ((wc.setCell ⟨w.heap.size, 0, none⟩ (sl0 gs3 N)).setCell ⟨w.heap.size, 1, none⟩ (sl0 gb3 N)).drew.cell? ⟨gC, 1, none⟩ = some (sl0 gb3 N) ∧ ((wc.setCell ⟨w.heap.size, 0, none⟩ (sl0 gs3 N)).setCell ⟨w.heap.size, 1, none⟩ (sl0 gb3 N)).drew.cell? ⟨g, 4, none⟩ = some (num p)) :=
      ⟨cell_else (cell_else a0 hne1) hne1, cell_else (cell_else a1 hne1) hne1, cell_else (cell_else a2 hne2) hne2⟩
    clear hF hbx c4
    go_wp2_with fail
    go_region_held3 (fun w' => w'.cell? ⟨gC, 0, none⟩ = some (sl0 gs3 N) ∧ w'.cell? ⟨gC, 1, none⟩ = some (sl0 gb3 N) ∧ w'.cell? ⟨g, 4, none⟩ = some (num p)) (first | assumption | exact ⟨a0, a1, a2⟩ | exact HKx.out) (fail)
    all_goals
      go_wp2
      exact bodyPost_ret (v := .tuple #[.agg #[sl0 gs3 N, sl0 gb3 N], num p, num 0]) (by simp [results, Try.results22, go_sem, z0, z1]) rfl HR.out
end Sp
end Go.Proofs.Ytjokedggmhiklaa
