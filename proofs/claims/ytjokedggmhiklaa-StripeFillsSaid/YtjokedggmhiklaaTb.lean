/- Layer 6 (stripe): Add to a full row, of a leaf that may not be; New refused. -/
import Derived.Test.YtjokedggmhiklaaSz
namespace Go.Proofs.Ytjokedggmhiklaa
open Go.RowKit Go.Maps
namespace Sp
theorem sum_bad {w : World} {K : Nat → Prop} {S N k gs gb : Nat} {X : Nat → Leaf} {sv bv : Value} {x : Leaf} (_hS : S ≤ 1000 ∧ N ≤ 1000) (hx : ¬ May S N x) (h : LeafM w K (sl0 gs N) (sl0 gb N) (sumS S N k X)) (h2 : LeafM w All sv bv x) {wx : World} {B : Nat} (hg : w.grownBy wx none) (hB : wx.heap[B]? = some (.cells #[sl0 gs N, sl0 gb N, sv, bv] 32)) :
    Calls Try.prog 12 #[layV S N 1, .slice (some ⟨B, 0, none⟩) 2 2] wx (fun e w' => e = .returned (.tuple #[noLeaf, num 1]) ∧ wx.grownBy w' none) := by
  have hL : LeavesM wx All (.slice (some ⟨B, 0, none⟩) 2 2) 2 (fun a => if a = 0 then sumS S N k X else x) := ⟨_, 2, rfl, Nat.le_refl _, by omega, .inr ⟨B, 0, rfl, trivial, fun i hi => by
    have : i = 0 ∨ i = 1 := by omega
    rcases this with rfl | rfl
    · exact ⟨_, _, cell_at hB rfl, cell_at hB rfl, (h.more hg).sub fun _ _ => trivial⟩
    · exact ⟨_, _, cell_at hB rfl, cell_at hB rfl, (h2.more hg).sub fun _ _ => trivial⟩⟩⟩
  refine (sum_ok hL (by omega) S N 1).mono ?_
  rintro e w' (⟨hgd, _⟩ | ⟨_, h1, h2⟩)
  · exact absurd (by simpa using hgd.2 1 (by omega)) hx
  · exact ⟨h1, h2⟩
def leafZ : Leaf := ⟨0, fun _ => ⟨0, 0, 0⟩, 0, fun _ => []⟩
set_option maxHeartbeats 6400000 in
set_option maxRecDepth 4000 in
theorem Add_full {w : World} {g S N wd p k gs gb xn xm sc bc : Nat} {sa ba : Option Addr} {X : Nat → Leaf} (h : OpenM w g S N wd p k gs gb X) (hl : LayMay S N) (hw : wd ≤ 255) (hk : k + 1 = wd) (hm : May S N (sumS S N k X)) (hx : May S N (X k)) (h2 : LeafM w All (.slice sa xn sc) (.slice ba xm bc) (X k)) :
    Calls Try.prog 20 #[.pointer (some ⟨g, 0, none⟩), .agg #[.slice sa xn sc, .slice ba xm bc]] w (fun e w' => e = .returned (.tuple #[num 0, num 90]) ∧ w.grownBy w' none) := by
  obtain ⟨W, hW⟩ : ∃ W, W = w.alloc (leafL (.slice sa xn sc) (.slice ba xm bc)) := ⟨_, rfl⟩
  have hgW : w.grownBy W none := by rw [hW]; exact World.grownBy_alloc w _ none
  have hb1 : W.heap[w.heap.size]? = some (leafL (.slice sa xn sc) (.slice ba xm bc)) := by rw [hW]; exact heap_alloc_new w _
  have HWs : Hid (W.heap.size = w.heap.size + 1) := by rw [hW]; simp [Hid]
  have Hw : Hid _ := hW
  have hgl : g < w.heap.size := lt_of_heap h.box
  have hSN : S ≤ 1000 ∧ N ≤ 1000 := by unfold LayMay at hl; omega
  have HN : Hid (Calls Try.prog 32 #[.pointer (some ⟨g, 0, none⟩)] W fun e w' => e = .returned (.bool false) ∧ w' = W) := none_ok (h.more hgW).box (by omega)
  have HLe : Hid (∀ wx, w.grownBy wx none → Calls Try.prog 21 #[.pointer (some ⟨g, 0, none⟩)] wx fun e w' => e = .returned (num ((wd - 1 - k : Nat) : Int)) ∧ wx.grownBy w' none) := fun wx hg => left_ok (h.more hg).box (by omega) hw
  obtain ⟨lf, hlf⟩ : ∃ lf : Nat, lf = wd - 1 - k := ⟨_, rfl⟩
  rw [← hlf] at HLe
  have e0 : ((lf : Int) == 0) = true := by simp; omega
  obtain ⟨Xo, hXo⟩ : ∃ Xo, Xo = Obj.cells #[sl0 gs N, sl0 gb N, .slice sa xn sc, .slice ba xm bc] 32 := ⟨_, rfl⟩
  have HSum : Hid (∀ (wx : World) (B : Nat), w.grownBy wx none → wx.heap[B]? = some (.cells #[sl0 gs N, sl0 gb N, .slice sa xn sc, .slice ba xm bc] 32) → Calls Try.prog 12 #[layV S N 1, .slice (some ⟨B, 0, none⟩) 2 2] wx (SumLeaf wx S N 2 (fun a => if a = 0 then sumS S N k X else X k))) := fun wx B hg hB => sum_row2 hl hSN hm hx h.leaf h2 hg hB
  have HTwo : Hid (sumS S N 2 (fun a => if a = 0 then sumS S N k X else X k) = sumS S N (k + 1) X) := sum_of_two (by simp) (by simp)
  have HK : Hid (∀ wx, W.grownBy wx none → wx.cell? ⟨g, 0, none⟩ = some (num S) ∧ wx.cell? ⟨g, 1, none⟩ = some (num N) ∧ wx.cell? ⟨g, 2, none⟩ = some (num 1) ∧ wx.cell? ⟨g, 6, none⟩ = some (sl0 gs N) ∧ wx.cell? ⟨g, 7, none⟩ = some (sl0 gb N) ∧ wx.cell? ⟨w.heap.size, 0, none⟩ = some (.slice sa xn sc) ∧ wx.cell? ⟨w.heap.size, 1, none⟩ = some (.slice ba xm bc)) := fun wx hg => by
    have b := (h.more (grownBy_trans hgW hg)).box
    have b1 := (hg.block _ (lt_of_heap hb1) (by simp)).trans hb1
    exact ⟨cell_at b rfl, cell_at b rfl, cell_at b rfl, cell_at b rfl, cell_at b rfl, cell_at b1 rfl, cell_at b1 rfl⟩
  have HOm : Hid (∀ wx, W.grownBy wx none → OpenM wx g S N wd p k gs gb X) := fun wx hg => h.more (grownBy_trans hgW hg)
  have HS0 := HK.out W.drew (grownBy_drew (grownBy_refl W none))
  have hX1 : (W.alloc Xo).drew.heap[W.heap.size]? = some Xo := heap_alloc_new W Xo
  have hX2 : ((W.alloc Xo).alloc (leafL nilS nilS)).drew.heap[W.heap.size]? = some Xo := ((World.grownBy_alloc (W.alloc Xo) (leafL nilS nilS) none).block _ (lt_of_heap (heap_alloc_new W Xo)) (by simp)).trans (heap_alloc_new W Xo)
  have hX3 : ((W.alloc (leafL nilS nilS)).alloc Xo).drew.heap[W.heap.size + 1]? = some Xo := by
    have h := heap_alloc_new (W.alloc (leafL nilS nilS)) Xo
    have e : (W.alloc (leafL nilS nilS)).heap.size = W.heap.size + 1 := by simp
    rw [e] at h
    exact h
  have Z2' : ((W.alloc Xo).alloc (leafL nilS nilS)).drew.heap[W.heap.size + 1]? = some (leafL nilS nilS) := by
    have h := heap_alloc_new (W.alloc Xo) (leafL nilS nilS)
    have e : (W.alloc Xo).heap.size = W.heap.size + 1 := by simp
    rw [e] at h
    exact h
  have Z3' : ((W.alloc (leafL nilS nilS)).alloc Xo).drew.heap[W.heap.size]? = some (leafL nilS nilS) := ((World.grownBy_alloc (W.alloc (leafL nilS nilS)) _ none).block _ (lt_of_heap (heap_alloc_new W _)) (by simp)).trans (heap_alloc_new W _)
  have g1 : W.grownBy (W.alloc Xo).drew none := grownBy_drew (World.grownBy_alloc W _ none)
  have g2 : W.grownBy ((W.alloc Xo).alloc (leafL nilS nilS)).drew none := grownBy_drew (grownBy_alloc' (World.grownBy_alloc W _ none) _)
  have g3 : W.grownBy ((W.alloc (leafL nilS nilS)).alloc Xo).drew none := grownBy_drew (grownBy_alloc' (World.grownBy_alloc W _ none) _)
  have G4 : Hid (W.grownBy (W.alloc (leafL nilS nilS)).drew none) := grownBy_drew (World.grownBy_alloc W _ none)
  rw [hXo] at hX1 hX2 hX3 Z2' Z3' g1 g2 g3
  have X1 : Hid _ := hX1
  have X2 : Hid _ := hX2
  have X3 : Hid _ := hX3
  have Z2 : Hid _ := Z2'
  have Z3 : Hid _ := Z3'
  have G1 : Hid _ := g1
  have G2 : Hid _ := g2
  have G3 : Hid _ := g3
  have HgW : Hid _ := hgW
  clear hXo hX1 hX2 hX3 Z2' Z3' g1 g2 g3 hb1 hW h h2 hl hm hx hlf
  go_enter Try.func20, Try.ntmps20
  go_upto_region 3 with (first | (rw [← Hw.out]) | (go_at_call 32; refine HN.out.mono ?_; rintro e W ⟨rfl, rfl⟩))
  go_cut [6, 7] (fun q e wx => ∃ gC gs3 gb3, q = ptr gC 0 ∧ e = num 0 ∧ FinA W wx gC S N gs3 gb3 (sumS S N (k + 1) X) ∧ W.heap.size ≤ gC)
  case first =>
    go_region_held3 (fun w' => w'.cell? ⟨g, 0, none⟩ = some (num S) ∧ w'.cell? ⟨g, 1, none⟩ = some (num N) ∧ w'.cell? ⟨g, 2, none⟩ = some (num 1) ∧ w'.cell? ⟨g, 6, none⟩ = some (sl0 gs N) ∧ w'.cell? ⟨g, 7, none⟩ = some (sl0 gb N) ∧ w'.cell? ⟨w.heap.size, 0, none⟩ = some (.slice sa xn sc) ∧ w'.cell? ⟨w.heap.size, 1, none⟩ = some (.slice ba xm bc)) (first | assumption | exact HK.out _ G4.out | exact HK.out _ G1.out | exact HK.out _ G2.out | exact HK.out _ G3.out | exact HK.out _ hgW3 | exact HK.out _ (grownBy_alloc' hgW3 _) | exact HK.out _ (grownBy_set (grownBy_set hgW3 (by omega) _) (by omega) _))
      (first | (go_at_call 12; refine Calls.mono (HSum.out _ _ (by first | exact grownBy_trans HgW.out G1.out | exact grownBy_trans HgW.out G2.out | exact grownBy_trans HgW.out G3.out) (by first | exact X1.out | exact X2.out | exact X3.out)) ?_; rintro e wd3 ⟨gs3, gb3, rfl, hgd, hPd⟩; have hgW3 : W.grownBy wd3 none := (by first | exact grownBy_trans G1.out hgd | exact grownBy_trans G2.out hgd | exact grownBy_trans G3.out hgd); (try (have hZd : wd3.heap[W.heap.size + 1]? = some (leafL nilS nilS) := Eq.trans (hgd.block (W.heap.size + 1) (lt_of_heap Z2.out) (by simp)) Z2.out)); (try (have hZd : wd3.heap[W.heap.size]? = some (leafL nilS nilS) := Eq.trans (hgd.block (W.heap.size) (lt_of_heap Z3.out) (by simp)) Z3.out)); try (have zc0 := cell_at (o := 0) hZd rfl; have zc1 := cell_at (o := 1) hZd rfl; have zf0 := free_at (o := 0) hZd; have zf1 := free_at (o := 1) hZd)))
    all_goals
      go_wp2_with fail
      go_meet
      rw [HTwo.out] at hPd
      have gz1 := G1.out.size
      have gz2 := G2.out.size
      have gz3 := G3.out.size
      first
        | exact ⟨_, gs3, gb3, rfl, rfl, fina_alloc hgW3 hPd gz1, hgW3.size⟩
        | exact ⟨_, gs3, gb3, rfl, rfl, fina_set hgW3 hZd (by omega) hPd gz2, by omega⟩
        | exact ⟨_, gs3, gb3, rfl, rfl, fina_set hgW3 hZd (by omega) hPd gz3, by omega⟩
  case rest =>
    obtain ⟨gC, gs3, gb3, rfl, rfl, hF, hgC⟩ := hcut
    have HgF : Hid (w.grownBy wc none) := grownBy_trans HgW.out hF.grown
    have HL : Hid (Calls Try.prog 21 #[.pointer (some ⟨g, 0, none⟩)] wc fun e w' => e = .returned (num (lf : Int)) ∧ wc.grownBy w' none) := HLe.out wc (grownBy_trans HgW.out hF.grown)
    clear hF hgC
    go_wp2_with fail
    refine HL.out.mono ?_
    rintro e wl ⟨rfl, hgl2⟩
    have HE : Hid _ := grownBy_trans HgF.out hgl2
    clear hgl2
    go_wp2
    go_ret2
    exact ⟨rfl, HE.out⟩
set_option maxHeartbeats 6400000 in
set_option maxRecDepth 4000 in
theorem Add_bad {w : World} {g S N wd p k gs gb xn xm sc bc : Nat} {sa ba : Option Addr} {X : Nat → Leaf} (h : OpenM w g S N wd p k gs gb X) (hl : LayMay S N) (_hw : wd ≤ 255) (hk : 1 ≤ wd) {x : Leaf} (hx : ¬ May S N x) (h2 : LeafM w All (.slice sa xn sc) (.slice ba xm bc) x) :
    Calls Try.prog 20 #[.pointer (some ⟨g, 0, none⟩), .agg #[.slice sa xn sc, .slice ba xm bc]] w (fun e w' => e = .returned (.tuple #[num 0, num 1]) ∧ w.grownBy w' none) := by
  obtain ⟨W, hW⟩ : ∃ W, W = w.alloc (leafL (.slice sa xn sc) (.slice ba xm bc)) := ⟨_, rfl⟩
  have hgW : w.grownBy W none := by rw [hW]; exact World.grownBy_alloc w _ none
  have hb1 : W.heap[w.heap.size]? = some (leafL (.slice sa xn sc) (.slice ba xm bc)) := by rw [hW]; exact heap_alloc_new w _
  have HWs : Hid (W.heap.size = w.heap.size + 1) := by rw [hW]; simp [Hid]
  have Hw : Hid _ := hW
  have hgl : g < w.heap.size := lt_of_heap h.box
  have hSN : S ≤ 1000 ∧ N ≤ 1000 := by unfold LayMay at hl; omega
  have HN : Hid (Calls Try.prog 32 #[.pointer (some ⟨g, 0, none⟩)] W fun e w' => e = .returned (.bool false) ∧ w' = W) := none_ok (h.more hgW).box (by omega)
  obtain ⟨Xo, hXo⟩ : ∃ Xo, Xo = Obj.cells #[sl0 gs N, sl0 gb N, .slice sa xn sc, .slice ba xm bc] 32 := ⟨_, rfl⟩
  have HSum : Hid (∀ (wx : World) (B : Nat), w.grownBy wx none → wx.heap[B]? = some (.cells #[sl0 gs N, sl0 gb N, .slice sa xn sc, .slice ba xm bc] 32) → Calls Try.prog 12 #[layV S N 1, .slice (some ⟨B, 0, none⟩) 2 2] wx (fun e w' => e = .returned (.tuple #[noLeaf, num 1]) ∧ wx.grownBy w' none)) := fun wx B hg hB => sum_bad hSN hx h.leaf h2 hg hB
  have HK : Hid (∀ wx, W.grownBy wx none → wx.cell? ⟨g, 0, none⟩ = some (num S) ∧ wx.cell? ⟨g, 1, none⟩ = some (num N) ∧ wx.cell? ⟨g, 2, none⟩ = some (num 1) ∧ wx.cell? ⟨g, 6, none⟩ = some (sl0 gs N) ∧ wx.cell? ⟨g, 7, none⟩ = some (sl0 gb N) ∧ wx.cell? ⟨w.heap.size, 0, none⟩ = some (.slice sa xn sc) ∧ wx.cell? ⟨w.heap.size, 1, none⟩ = some (.slice ba xm bc)) := fun wx hg => by
    have b := (h.more (grownBy_trans hgW hg)).box
    have b1 := (hg.block _ (lt_of_heap hb1) (by simp)).trans hb1
    exact ⟨cell_at b rfl, cell_at b rfl, cell_at b rfl, cell_at b rfl, cell_at b rfl, cell_at b1 rfl, cell_at b1 rfl⟩
  have HOm : Hid (∀ wx, W.grownBy wx none → OpenM wx g S N wd p k gs gb X) := fun wx hg => h.more (grownBy_trans hgW hg)
  have HS0 := HK.out W.drew (grownBy_drew (grownBy_refl W none))
  have hX1 : (W.alloc Xo).drew.heap[W.heap.size]? = some Xo := heap_alloc_new W Xo
  have hX2 : ((W.alloc Xo).alloc (leafL nilS nilS)).drew.heap[W.heap.size]? = some Xo := ((World.grownBy_alloc (W.alloc Xo) (leafL nilS nilS) none).block _ (lt_of_heap (heap_alloc_new W Xo)) (by simp)).trans (heap_alloc_new W Xo)
  have hX3 : ((W.alloc (leafL nilS nilS)).alloc Xo).drew.heap[W.heap.size + 1]? = some Xo := by
    have h := heap_alloc_new (W.alloc (leafL nilS nilS)) Xo
    have e : (W.alloc (leafL nilS nilS)).heap.size = W.heap.size + 1 := by simp
    rw [e] at h
    exact h
  have Z2' : ((W.alloc Xo).alloc (leafL nilS nilS)).drew.heap[W.heap.size + 1]? = some (leafL nilS nilS) := by
    have h := heap_alloc_new (W.alloc Xo) (leafL nilS nilS)
    have e : (W.alloc Xo).heap.size = W.heap.size + 1 := by simp
    rw [e] at h
    exact h
  have Z3' : ((W.alloc (leafL nilS nilS)).alloc Xo).drew.heap[W.heap.size]? = some (leafL nilS nilS) := ((World.grownBy_alloc (W.alloc (leafL nilS nilS)) _ none).block _ (lt_of_heap (heap_alloc_new W _)) (by simp)).trans (heap_alloc_new W _)
  have g1 : W.grownBy (W.alloc Xo).drew none := grownBy_drew (World.grownBy_alloc W _ none)
  have g2 : W.grownBy ((W.alloc Xo).alloc (leafL nilS nilS)).drew none := grownBy_drew (grownBy_alloc' (World.grownBy_alloc W _ none) _)
  have g3 : W.grownBy ((W.alloc (leafL nilS nilS)).alloc Xo).drew none := grownBy_drew (grownBy_alloc' (World.grownBy_alloc W _ none) _)
  have G4 : Hid (W.grownBy (W.alloc (leafL nilS nilS)).drew none) := grownBy_drew (World.grownBy_alloc W _ none)
  rw [hXo] at hX1 hX2 hX3 Z2' Z3' g1 g2 g3
  have X1 : Hid _ := hX1
  have X2 : Hid _ := hX2
  have X3 : Hid _ := hX3
  have Z2 : Hid _ := Z2'
  have Z3 : Hid _ := Z3'
  have G1 : Hid _ := g1
  have G2 : Hid _ := g2
  have G3 : Hid _ := g3
  have HgW : Hid _ := hgW
  clear hXo hX1 hX2 hX3 Z2' Z3' g1 g2 g3 hb1 hW h h2 hl hx
  go_enter Try.func20, Try.ntmps20
  go_upto_region 3 with (first | (rw [← Hw.out]) | (go_at_call 32; refine HN.out.mono ?_; rintro e W ⟨rfl, rfl⟩))
  go_cut [6, 7] (fun q e wx => ∃ gC, q = ptr gC 0 ∧ e = num 1 ∧ W.grownBy wx none)
  case first =>
    go_region_held3 (fun w' => w'.cell? ⟨g, 0, none⟩ = some (num S) ∧ w'.cell? ⟨g, 1, none⟩ = some (num N) ∧ w'.cell? ⟨g, 2, none⟩ = some (num 1) ∧ w'.cell? ⟨g, 6, none⟩ = some (sl0 gs N) ∧ w'.cell? ⟨g, 7, none⟩ = some (sl0 gb N) ∧ w'.cell? ⟨w.heap.size, 0, none⟩ = some (.slice sa xn sc) ∧ w'.cell? ⟨w.heap.size, 1, none⟩ = some (.slice ba xm bc)) (first | assumption | exact HK.out _ G4.out | exact HK.out _ G1.out | exact HK.out _ G2.out | exact HK.out _ G3.out | exact HK.out _ hgW3 | exact HK.out _ (grownBy_alloc' hgW3 _) | exact HK.out _ (grownBy_set (grownBy_set hgW3 (by omega) _) (by omega) _))
      (first | (go_at_call 12; refine Calls.mono (HSum.out _ _ (by first | exact grownBy_trans HgW.out G1.out | exact grownBy_trans HgW.out G2.out | exact grownBy_trans HgW.out G3.out) (by first | exact X1.out | exact X2.out | exact X3.out)) ?_; rintro e wd3 ⟨rfl, hgd⟩; have hgW3 : W.grownBy wd3 none := (by first | exact grownBy_trans G1.out hgd | exact grownBy_trans G2.out hgd | exact grownBy_trans G3.out hgd); (try (have hZd : wd3.heap[W.heap.size + 1]? = some (leafL nilS nilS) := Eq.trans (hgd.block (W.heap.size + 1) (lt_of_heap Z2.out) (by simp)) Z2.out)); (try (have hZd : wd3.heap[W.heap.size]? = some (leafL nilS nilS) := Eq.trans (hgd.block (W.heap.size) (lt_of_heap Z3.out) (by simp)) Z3.out)); try (have zc0 := cell_at (o := 0) hZd rfl; have zc1 := cell_at (o := 1) hZd rfl; have zf0 := free_at (o := 0) hZd; have zf1 := free_at (o := 1) hZd)))
    all_goals
      go_wp2_with fail
      go_meet
      first
        | exact ⟨_, rfl, rfl, grownBy_alloc' hgW3 _⟩
        | exact ⟨_, rfl, rfl, grownBy_set (grownBy_set hgW3 (by omega) _) (by omega) _⟩
  case rest =>
    obtain ⟨gC, rfl, rfl, hF⟩ := hcut
    have HE : Hid _ := grownBy_trans HgW.out hF
    clear hF
    go_wp2
    go_ret2
    exact ⟨rfl, HE.out⟩
set_option maxHeartbeats 3200000 in
set_option maxRecDepth 4000 in
theorem New_no {S N : Nat} {row wd : Int} (w : World) (hl : LayMay S N) (hr : row ≤ 9223372036854775807) (hp : placeS row wd < 0) :
    Calls Try.prog 18 #[layV S N 1, num row, num wd] w (fun e w' => e = .returned (.tuple #[.pointer none, num 1]) ∧ w.grownBy w' none) := by
  obtain ⟨W, hW⟩ : ∃ W, W = w.alloc (layL S N 1) := ⟨_, rfl⟩
  have hgW : w.grownBy W none := by rw [hW]; exact World.grownBy_alloc w _ none
  have hb1 : W.heap[w.heap.size]? = some (layL S N 1) := by rw [hW]; exact heap_alloc_new w _
  have Hw : Hid _ := hW
  have hN : N ≤ 1000 ∧ S ≤ 1000 := by unfold LayMay at hl; omega
  have HS : Hid (Calls Try.prog 12 #[layV S N 1, nilS] W (SumLeaf W S N 0 (fun _ => leafZ))) := sum_leaf (K := All) (Rows.nil _ _ _) (by omega) S N hN.2 hN.1 1 ⟨hl, fun a ha => by omega⟩
  have HP : Hid (∀ w, Calls Try.prog 10 #[num row, num wd] w fun e w' => e = .returned (num (placeS row wd)) ∧ w' = w) := fun w => place_ok row wd hr w
  have c0 : W.cell? ⟨w.heap.size, 0, none⟩ = some (num S) := cell_at hb1 rfl
  have c1 : W.cell? ⟨w.heap.size, 1, none⟩ = some (num N) := cell_at hb1 rfl
  have c2 : W.cell? ⟨w.heap.size, 2, none⟩ = some (num 1) := cell_at hb1 rfl
  generalize placeS row wd = p at HP hp
  clear hW hl hr hb1
  go_enter Try.func18, Try.ntmps18
  go_wp2_with (rw [← Hw.out])
  refine HS.out.mono ?_
  rintro e w2 ⟨gs, gb, rfl, hg2, _⟩
  obtain ⟨w3, hw3⟩ : ∃ w3, w3 = w2.alloc (leafL (sl0 gs N) (sl0 gb N)) := ⟨_, rfl⟩
  have HE : Hid (w.grownBy w3 none) := by rw [hw3]; exact grownBy_alloc' (grownBy_trans hgW hg2) _
  have Hw3 : Hid _ := hw3
  clear c0 c1 c2 hw3 hg2
  go_wp2_with (first | (rw [← Hw3.out]) | (go_at_call 10; refine (HP.out _).mono ?_; rintro e wx ⟨rfl, rfl⟩))
  go_ret2
  exact ⟨rfl, HE.out⟩
end Sp
end Go.Proofs.Ytjokedggmhiklaa
