/- Layer 6 (stripe): Add to an open row. -/
import Derived.Test.YtjokedggmhiklaaSx
namespace Go.Proofs.Ytjokedggmhiklaa
open Go.RowKit Go.Maps
namespace Sp
theorem sum_row2 {w : World} {K : Nat → Prop} {S N k gs gb : Nat} {X : Nat → Leaf} {sv bv : Value} (hl : LayMay S N) (hS : S ≤ 1000 ∧ N ≤ 1000) (hm : May S N (sumS S N k X)) (hx : May S N (X k)) (h : LeafM w K (sl0 gs N) (sl0 gb N) (sumS S N k X)) (h2 : LeafM w All sv bv (X k)) {wx : World} {B : Nat} (hg : w.grownBy wx none) (hB : wx.heap[B]? = some (.cells #[sl0 gs N, sl0 gb N, sv, bv] 32)) :
    Calls Try.prog 12 #[layV S N 1, .slice (some ⟨B, 0, none⟩) 2 2] wx (SumLeaf wx S N 2 (fun a => if a = 0 then sumS S N k X else X k)) := by
  have hL : LeavesM wx All (.slice (some ⟨B, 0, none⟩) 2 2) 2 (fun a => if a = 0 then sumS S N k X else X k) := ⟨_, 2, rfl, Nat.le_refl _, by omega, .inr ⟨B, 0, rfl, trivial, fun i hi => by
    have : i = 0 ∨ i = 1 := by omega
    rcases this with rfl | rfl
    · exact ⟨_, _, cell_at hB rfl, cell_at hB rfl, (h.more hg).sub fun _ _ => trivial⟩
    · exact ⟨_, _, cell_at hB rfl, cell_at hB rfl, (h2.more hg).sub fun _ _ => trivial⟩⟩⟩
  exact sum_leaf hL (by omega) S N hS.1 hS.2 1 ⟨hl, fun a _ => by by_cases e : a = 0 <;> simp only [e, if_pos, if_neg, not_false_eq_true] <;> assumption⟩
def placeN (p k : Nat) : Nat := if p ≤ k then k + 1 else k
def AddPost (w : World) (g S N wd p k : Nat) (X : Nat → Leaf) (e : Ending) (w' : World) : Prop :=
  ∃ gs gb, e = .returned (.tuple #[num (placeN p k : Nat), num 0]) ∧ w.grownBy w' (some g) ∧ OpenM w' g S N wd p (k + 1) gs gb X
theorem add_post {w W wl : World} {g S N wd p k gs gb gs3 gb3 : Nat} {X : Nat → Leaf} (h : OpenM wl g S N wd p k gs gb X) (hg : w.grownBy wl none) (hW : g < W.heap.size) (hl : LeafM wl (KT wl W.heap.size) (sl0 gs3 N) (sl0 gb3 N) (sumS S N (k + 1) X)) :
    AddPost w g S N wd p k X (.returned (.tuple #[num (placeN p k : Nat), num 0])) (((wl.setCell ⟨g, 6, none⟩ (sl0 gs3 N)).setCell ⟨g, 7, none⟩ (sl0 gb3 N)).setCell ⟨g, 5, none⟩ (num ((k + 1 : Nat) : Int))) := by
  have r1 := setCell_row (L := [num S, num N, num 1, num wd, num p, num k, sl0 gs N, sl0 gb N]) (i := 6) h.box (sl0 gs3 N)
  have r2 := setCell_row (L := [num S, num N, num 1, num wd, num p, num k, sl0 gs3 N, sl0 gb N]) (i := 7) r1 (sl0 gb3 N)
  have r3 := setCell_row (L := [num S, num N, num 1, num wd, num p, num k, sl0 gs3 N, sl0 gb3 N]) (i := 5) r2 (num ((k + 1 : Nat) : Int))
  refine ⟨gs3, gb3, rfl, ⟨hg.os, hg.tape, hg.output, by simpa [World.setCell] using hg.size, fun i hi hne => ?_⟩, r3, ?_⟩
  · have e : i ≠ g := fun e => hne (by rw [e])
    rw [setCell_else e, setCell_else e, setCell_else e]
    exact hg.block i hi (by simp)
  · have e : ∀ b, b ≠ g → ((((wl.setCell ⟨g, 6, none⟩ (sl0 gs3 N)).setCell ⟨g, 7, none⟩ (sl0 gb3 N)).setCell ⟨g, 5, none⟩ (num ((k + 1 : Nat) : Int)))).heap[b]? = wl.heap[b]? := fun b hb => by rw [setCell_else hb, setCell_else hb, setCell_else hb]
    have h1 := hl.sub (K' := KO wl g) fun b hb => ⟨by have := hb.1; omega, hb.low (Nat.zero_le _)⟩
    exact (h1.kept fun b hb _ => e b hb.1).sub fun b hb => by
      obtain ⟨h0, h1, L', t, h2, h3⟩ := hb
      exact ⟨h0, h1, L', t, (e b h0).trans h2, h3⟩
set_option maxHeartbeats 6400000 in
set_option maxRecDepth 4000 in
theorem Add_ok {w : World} {g S N wd p k gs gb xn xm sc bc : Nat} {sa ba : Option Addr} {X : Nat → Leaf} (h : OpenM w g S N wd p k gs gb X) (hl : LayMay S N) (hw : wd ≤ 255) (hk : k + 1 < wd) (hm : May S N (sumS S N k X)) (hx : May S N (X k)) (h2 : LeafM w All (.slice sa xn sc) (.slice ba xm bc) (X k)) :
    Calls Try.prog 20 #[.pointer (some ⟨g, 0, none⟩), .agg #[.slice sa xn sc, .slice ba xm bc]] w (AddPost w g S N wd p k X) := by
  obtain ⟨W, hW⟩ : ∃ W, W = w.alloc (leafL (.slice sa xn sc) (.slice ba xm bc)) := ⟨_, rfl⟩
  have hgW : w.grownBy W none := by rw [hW]; exact World.grownBy_alloc w _ none
  have hb1 : W.heap[w.heap.size]? = some (leafL (.slice sa xn sc) (.slice ba xm bc)) := by rw [hW]; exact heap_alloc_new w _
  have HWs : Hid (W.heap.size = w.heap.size + 1) := by rw [hW]; simp [Hid]
  have Hw : Hid _ := hW
  have hgl : g < w.heap.size := lt_of_heap h.box
  have hSN : S ≤ 1000 ∧ N ≤ 1000 := by unfold LayMay at hl; omega
  have HN : Hid (Calls Try.prog 32 #[.pointer (some ⟨g, 0, none⟩)] W fun e w' => e = .returned (.bool false) ∧ w' = W) := none_ok (h.more hgW).box (by omega)
  have HLe : Hid (∀ wx, w.grownBy wx none → Calls Try.prog 21 #[.pointer (some ⟨g, 0, none⟩)] wx fun e w' => e = .returned (num ((wd - 1 - k : Nat) : Int)) ∧ wx.grownBy w' none) := fun wx hg => left_ok (h.more hg).box (by omega) hw
  obtain ⟨lf, hlf⟩ : ∃ lf : Nat, lf = wd - 1 - k := ⟨_, rfl⟩
  rw [← hlf] at HLe
  have e0 : ((lf : Int) == 0) = false := by simp; omega
  obtain ⟨Xo, hXo⟩ : ∃ Xo, Xo = Obj.cells #[sl0 gs N, sl0 gb N, .slice sa xn sc, .slice ba xm bc] 32 := ⟨_, rfl⟩
  have HSum : Hid (∀ (wx : World) (B : Nat), w.grownBy wx none → wx.heap[B]? = some (.cells #[sl0 gs N, sl0 gb N, .slice sa xn sc, .slice ba xm bc] 32) → Calls Try.prog 12 #[layV S N 1, .slice (some ⟨B, 0, none⟩) 2 2] wx (SumLeaf wx S N 2 (fun a => if a = 0 then sumS S N k X else X k))) := fun wx B hg hB => sum_row2 hl hSN hm hx h.leaf h2 hg hB
  have HTwo : Hid (sumS S N 2 (fun a => if a = 0 then sumS S N k X else X k) = sumS S N (k + 1) X) := sum_of_two (by simp) (by simp)
  have HK : Hid (∀ wx, W.grownBy wx none → wx.cell? ⟨g, 0, none⟩ = some (num S) ∧ wx.cell? ⟨g, 1, none⟩ = some (num N) ∧ wx.cell? ⟨g, 2, none⟩ = some (num 1) ∧ wx.cell? ⟨g, 6, none⟩ = some (sl0 gs N) ∧ wx.cell? ⟨g, 7, none⟩ = some (sl0 gb N) ∧ wx.cell? ⟨w.heap.size, 0, none⟩ = some (.slice sa xn sc) ∧ wx.cell? ⟨w.heap.size, 1, none⟩ = some (.slice ba xm bc)) := fun wx hg => by
    have b := (h.more (grownBy_trans hgW hg)).box
    have b1 := (hg.block _ (lt_of_heap hb1) (by simp)).trans hb1
    exact ⟨cell_at b rfl, cell_at b rfl, cell_at b rfl, cell_at b rfl, cell_at b rfl, cell_at b1 rfl, cell_at b1 rfl⟩
  have HOm : Hid (∀ wx, W.grownBy wx none → OpenM wx g S N wd p k gs gb X) := fun wx hg => h.more (grownBy_trans hgW hg)
  have HS0 := HK.out W.drew (grownBy_drew (grownBy_refl W none))
  have hX1 : (W.alloc Xo).drew.heap[W.heap.size]? = some Xo := heap_alloc_new W Xo
  have hX2 : ((W.alloc Xo).alloc (leafL nilS nilS)).drew.heap[W.heap.size]? = some Xo := ((World.grownBy_alloc (W.alloc Xo) (leafL nilS nilS) none).block _ (lt_of_heap (heap_alloc_new W Xo)) (by simp)).trans (heap_alloc_new W Xo)
  have hX3 : ((W.alloc (leafL nilS nilS)).alloc Xo).drew.heap[W.heap.size + 1]? = some Xo := by
    have h := heap_alloc_new (W.alloc (leafL nilS nilS)) Xo
    have e : (W.alloc (leafL nilS nilS)).heap.size = W.heap.size + 1 := by simp
    rw [e] at h
    exact h
  have Z2' : ((W.alloc Xo).alloc (leafL nilS nilS)).drew.heap[W.heap.size + 1]? = some (leafL nilS nilS) := by
    have h := heap_alloc_new (W.alloc Xo) (leafL nilS nilS)
    have e : (W.alloc Xo).heap.size = W.heap.size + 1 := by simp
    rw [e] at h
    exact h
  have Z3' : ((W.alloc (leafL nilS nilS)).alloc Xo).drew.heap[W.heap.size]? = some (leafL nilS nilS) := ((World.grownBy_alloc (W.alloc (leafL nilS nilS)) _ none).block _ (lt_of_heap (heap_alloc_new W _)) (by simp)).trans (heap_alloc_new W _)
  have g1 : W.grownBy (W.alloc Xo).drew none := grownBy_drew (World.grownBy_alloc W _ none)
  have g2 : W.grownBy ((W.alloc Xo).alloc (leafL nilS nilS)).drew none := grownBy_drew (grownBy_alloc' (World.grownBy_alloc W _ none) _)
  have g3 : W.grownBy ((W.alloc (leafL nilS nilS)).alloc Xo).drew none := grownBy_drew (grownBy_alloc' (World.grownBy_alloc W _ none) _)
  have G4 : Hid (W.grownBy (W.alloc (leafL nilS nilS)).drew none) := grownBy_drew (World.grownBy_alloc W _ none)
  rw [hXo] at hX1 hX2 hX3 Z2' Z3' g1 g2 g3
  have X1 : Hid _ := hX1
  have X2 : Hid _ := hX2
  have X3 : Hid _ := hX3
  have Z2 : Hid _ := Z2'
  have Z3 : Hid _ := Z3'
  have G1 : Hid _ := g1
  have G2 : Hid _ := g2
  have G3 : Hid _ := g3
  have HgW : Hid _ := hgW
  clear hXo hX1 hX2 hX3 Z2' Z3' g1 g2 g3 hb1 hW h h2 hl hm hx hlf
  go_enter Try.func20, Try.ntmps20
  go_upto_region 3 with (first | (rw [← Hw.out]) | (go_at_call 32; refine HN.out.mono ?_; rintro e W ⟨rfl, rfl⟩))
  go_cut [6, 7] (fun q e wx => ∃ gC gs3 gb3, q = ptr gC 0 ∧ e = num 0 ∧ FinA W wx gC S N gs3 gb3 (sumS S N (k + 1) X) ∧ W.heap.size ≤ gC)
  case first =>
    go_region_held3 (fun w' => w'.cell? ⟨g, 0, none⟩ = some (num S) ∧ w'.cell? ⟨g, 1, none⟩ = some (num N) ∧ w'.cell? ⟨g, 2, none⟩ = some (num 1) ∧ w'.cell? ⟨g, 6, none⟩ = some (sl0 gs N) ∧ w'.cell? ⟨g, 7, none⟩ = some (sl0 gb N) ∧ w'.cell? ⟨w.heap.size, 0, none⟩ = some (.slice sa xn sc) ∧ w'.cell? ⟨w.heap.size, 1, none⟩ = some (.slice ba xm bc)) (first | assumption | exact HK.out _ G4.out | exact HK.out _ G1.out | exact HK.out _ G2.out | exact HK.out _ G3.out | exact HK.out _ hgW3 | exact HK.out _ (grownBy_alloc' hgW3 _) | exact HK.out _ (grownBy_set (grownBy_set hgW3 (by omega) _) (by omega) _))
      (first | (go_at_call 12; refine Calls.mono (HSum.out _ _ (by first | exact grownBy_trans HgW.out G1.out | exact grownBy_trans HgW.out G2.out | exact grownBy_trans HgW.out G3.out) (by first | exact X1.out | exact X2.out | exact X3.out)) ?_; rintro e wd3 ⟨gs3, gb3, rfl, hgd, hPd⟩; have hgW3 : W.grownBy wd3 none := (by first | exact grownBy_trans G1.out hgd | exact grownBy_trans G2.out hgd | exact grownBy_trans G3.out hgd); (try (have hZd : wd3.heap[W.heap.size + 1]? = some (leafL nilS nilS) := Eq.trans (hgd.block (W.heap.size + 1) (lt_of_heap Z2.out) (by simp)) Z2.out)); (try (have hZd : wd3.heap[W.heap.size]? = some (leafL nilS nilS) := Eq.trans (hgd.block (W.heap.size) (lt_of_heap Z3.out) (by simp)) Z3.out)); try (have zc0 := cell_at (o := 0) hZd rfl; have zc1 := cell_at (o := 1) hZd rfl; have zf0 := free_at (o := 0) hZd; have zf1 := free_at (o := 1) hZd)))
    all_goals
      go_wp2_with fail
      go_meet
      rw [HTwo.out] at hPd
      have gz1 := G1.out.size
      have gz2 := G2.out.size
      have gz3 := G3.out.size
      first
        | exact ⟨_, gs3, gb3, rfl, rfl, fina_alloc hgW3 hPd gz1, hgW3.size⟩
        | exact ⟨_, gs3, gb3, rfl, rfl, fina_set hgW3 hZd (by omega) hPd gz2, by omega⟩
        | exact ⟨_, gs3, gb3, rfl, rfl, fina_set hgW3 hZd (by omega) hPd gz3, by omega⟩
  case rest =>
    obtain ⟨gC, gs3, gb3, rfl, rfl, hF, hgC⟩ := hcut
    have HFi : Hid (∀ wl, wc.grownBy wl none → (wl.cell? ⟨gC, 0, none⟩ = some (sl0 gs3 N) ∧ wl.cell? ⟨gC, 1, none⟩ = some (sl0 gb3 N)) ∧ OpenM wl g S N wd p k gs gb X ∧ AddPost w g S N wd p k X (.returned (.tuple #[num (placeN p k : Nat), num 0])) (((wl.setCell ⟨g, 6, none⟩ (sl0 gs3 N)).setCell ⟨g, 7, none⟩ (sl0 gb3 N)).setCell ⟨g, 5, none⟩ (num ((k + 1 : Nat) : Int)))) := fun wl hg => by
      have b := (hg.block _ (lt_of_heap hF.bC) (by simp)).trans hF.bC
      have hWl := grownBy_trans hF.grown hg
      exact ⟨⟨cell_at b rfl, cell_at b rfl⟩, HOm.out _ hWl, add_post (W := W) (HOm.out _ hWl) (grownBy_trans HgW.out hWl) (by have := HWs.out; omega) (hF.l3.growN hg)⟩
    have HL : Hid (Calls Try.prog 21 #[.pointer (some ⟨g, 0, none⟩)] wc fun e w' => e = .returned (num (lf : Int)) ∧ wc.grownBy w' none) := HLe.out wc (grownBy_trans HgW.out hF.grown)
    have hne : gC ≠ g := by have := HWs.out; omega
    clear hF hgC
    go_wp2_with fail
    refine HL.out.mono ?_
    rintro e wl ⟨rfl, hgl2⟩
    obtain ⟨⟨a0, a1⟩, hO, hA⟩ := HFi.out wl hgl2
    have c2 : wl.cell? ⟨g, 3, none⟩ = some (num wd) := cell_at hO.box rfl
    have c4 : wl.cell? ⟨g, 4, none⟩ = some (num p) := cell_at hO.box rfl
    have c5 : wl.cell? ⟨g, 5, none⟩ = some (num k) := cell_at hO.box rfl
    have c6 : wl.cell? ⟨g, 6, none⟩ = some (sl0 gs N) := cell_at hO.box rfl
    have c7 : wl.cell? ⟨g, 7, none⟩ = some (sl0 gb N) := cell_at hO.box rfl
    have f5 : wl.frozen? ⟨g, 5, none⟩ = false := free_at hO.box
    have f6 : wl.frozen? ⟨g, 6, none⟩ = false := free_at hO.box
    have f7 : wl.frozen? ⟨g, 7, none⟩ = false := free_at hO.box
    have hc : ((k + 1 : Nat) : Int) = (k : Int) + 1 := by omega
    have HA : Hid (AddPost w g S N wd p k X (.returned (.tuple #[num (placeN p k : Nat), num 0])) (((wl.setCell ⟨g, 6, none⟩ (sl0 gs3 N)).setCell ⟨g, 7, none⟩ (sl0 gb3 N)).setCell ⟨g, 5, none⟩ (num ((k : Int) + 1)))) := by rw [← hc]; exact hA
    clear hc
    have k1 : (k : Int) + 1 ≤ 255 := by omega
    have wk : IntKind.i64.wrap ((k : Int) + 1) = (k : Int) + 1 := by rw [IntKind.wrap_i64]; omega
    have hc2 : ((k + 1 : Nat) : Int) = (k : Int) + 1 := by omega
    clear hO hA hgl2
    by_cases hp : p ≤ k
    · have q1 : (p : Int) ≤ (k : Int) := by omega
      have HP : Hid (placeN p k = k + 1) := by simp [Hid, placeN, hp]
      rw [HP.out, hc2] at HA
      clear hc2
      go_wp2
      go_ret2
      exact HA.out
    · have q1 : ¬ (p : Int) ≤ (k : Int) := by omega
      have HP : Hid (placeN p k = k) := by simp [Hid, placeN, hp]
      rw [HP.out] at HA
      clear hp hc2
      go_wp2
      go_ret2
      exact HA.out
end Sp
end Go.Proofs.Ytjokedggmhiklaa
