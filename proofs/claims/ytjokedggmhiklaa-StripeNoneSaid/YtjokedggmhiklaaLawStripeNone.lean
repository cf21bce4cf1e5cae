/- The walk of StripeNone. -/
import Derived.Test.YtjokedggmhiklaaSp
namespace Go.Proofs.Ytjokedggmhiklaa
open Go.ChangeShapes Go.WideShapes Go.ChangeAt Go.RowKit Go.Maps
namespace Sp
theorem none_nil (w : World) : Calls Try.prog 32 #[.pointer none] w fun e w' => e = .returned (.bool true) ∧ w' = w := by
  have e0 : ∀ w, (binOp .eql 40 (.pointer none) (.pointer none)).run Try.prog w = .ok (.bool true) w := fun _ => by kernel_rfl
  go_enter Try.func32, Try.ntmps32
  go_wp2
  go_ret
  exact ⟨rfl, rfl⟩
theorem add_nil (sv bv : Value) (w : World) : Calls Try.prog 20 #[.pointer none, .agg #[sv, bv]] w fun e w' => e = .returned (.tuple #[num 0, num 1]) ∧ w.grownBy w' none := by
  go_enter Try.func20, Try.ntmps20
  go_wp2_with (go_at_call 32; refine (none_nil _).mono ?_; rintro e wx ⟨rfl, rfl⟩)
  go_ret2
  exact ⟨rfl, World.grownBy_alloc w _ none⟩
theorem left_nil (w : World) : Calls Try.prog 21 #[.pointer none] w fun e w' => e = .returned (num 0) ∧ w' = w := by
  go_enter Try.func21, Try.ntmps21
  go_wp2_with (go_at_call 32; refine (none_nil _).mono ?_; rintro e wx ⟨rfl, rfl⟩)
  go_ret
  exact ⟨rfl, rfl⟩
theorem parity_nil (w : World) : Calls Try.prog 22 #[.pointer none] w fun e w' => e = .returned (.tuple #[noLeaf, num 0, num 1]) ∧ w.grownBy w' none := by
  have hg := World.grownBy_alloc w (leafL nilS nilS) none
  go_enter Try.func22, Try.ntmps22
  go_wp2_with (go_at_call 32; refine (none_nil _).mono ?_; rintro e wx ⟨rfl, rfl⟩)
  exact bodyPost_ret (v := .tuple #[noLeaf, num 0, num 1]) (by simp [results, Try.results22, go_sem]) rfl ⟨rfl, hg⟩
set_option maxHeartbeats 12800000 in
set_option maxRecDepth 4000 in
theorem law_StripeNone (S N T : Int) (hS : I64 S) (hN : I64 N) (_hT : I64 T) (ao : Option Addr) (len cap : Nat) (xs : Nat → Leaf) {w : World} (hx : LeavesM w All (.slice ao len cap) len xs) :
    Calls Try.prog 8 #[layV S N T, .slice ao len cap] w fun e w' => e = .returned (.bool true) ∧ w.grownBy w' none := by
  have hnn := hnot
  obtain ⟨W, hW⟩ : ∃ W, W = w.alloc (layL S N T) := ⟨_, rfl⟩
  have hgW : w.grownBy W none := by rw [hW]; exact World.grownBy_alloc w _ none
  have hb1 : W.heap[w.heap.size]? = some (layL S N T) := by rw [hW]; exact heap_alloc_new w _
  have Hw : Hid _ := hW
  have HSm : Hid (∀ w, Calls Try.prog 17 #[layV S N T] w fun e w' => e = .returned (layV (smallSec S) (smallSl N) 1) ∧ w.grownBy w' none) := fun w => small_ok S N T hS hN w
  have HAw : Hid (∀ w, Calls Try.prog 9 #[] w fun e w' => e = .returned (.bool true) ∧ w.grownBy w' none) := awake_ok
  have hGd := right_good (S := S) (N := N) (leaves_si hx)
  obtain ⟨S', hS'⟩ : ∃ S', S' = smallSec S := ⟨_, rfl⟩
  obtain ⟨N', hN'⟩ : ∃ N', N' = smallSl N := ⟨_, rfl⟩
  rw [← hS', ← hN'] at HSm hGd
  have s1 : 1 ≤ S' ∧ S' ≤ 9 := by rw [hS']; unfold smallSec; omega
  have s2 : 1 ≤ N' ∧ N' ≤ 4 := by rw [hN']; unfold smallSl; omega
  obtain ⟨n, hn⟩ : ∃ n, n = min len 12 := ⟨_, rfl⟩
  have n12 : n ≤ 12 := by omega
  rw [← hn] at hGd
  have HGd : Hid _ := hGd
  clear hS' hN' hW hS hN hGd
  go_enter Try.func8, Try.ntmps8
  go_wp2_with (rw [← Hw.out])
  refine (HAw.out _).mono ?_
  rintro e w1 ⟨rfl, hg1⟩
  have hb2 := (hg1.block _ (lt_of_heap hb1) (by simp)).trans hb1
  have c0 : w1.cell? ⟨w.heap.size, 0, none⟩ = some (num S) := cell_at hb2 rfl
  have c1 : w1.cell? ⟨w.heap.size, 1, none⟩ = some (num N) := cell_at hb2 rfl
  have c2 : w1.cell? ⟨w.heap.size, 2, none⟩ = some (num T) := cell_at hb2 rfl
  go_wp2_with fail
  refine (HSm.out _).mono ?_
  rintro e w2 ⟨rfl, hg2⟩
  have hb3 := (hg2.block _ (lt_of_heap hb2) (by simp)).trans hb2
  have hgw2 := grownBy_trans hgW (grownBy_trans hg1 hg2)
  clear c0 c1 c2
  have c0 : w2.cell? ⟨w.heap.size, 0, none⟩ = some (num S) := cell_at hb3 rfl
  have c1 : w2.cell? ⟨w.heap.size, 1, none⟩ = some (num N) := cell_at hb3 rfl
  have c2 : w2.cell? ⟨w.heap.size, 2, none⟩ = some (num T) := cell_at hb3 rfl
  have f0 : w2.frozen? ⟨w.heap.size, 0, none⟩ = false := free_at hb3
  have f1 : w2.frozen? ⟨w.heap.size, 1, none⟩ = false := free_at hb3
  have f2 : w2.frozen? ⟨w.heap.size, 2, none⟩ = false := free_at hb3
  obtain ⟨V, hV⟩ : ∃ V, V = ((w2.setCell ⟨w.heap.size, 0, none⟩ (num S')).setCell ⟨w.heap.size, 1, none⟩ (num N')).setCell ⟨w.heap.size, 2, none⟩ (num 1) := ⟨_, rfl⟩
  have hgV : w.grownBy V none := by rw [hV]; exact grownBy_set (grownBy_set (grownBy_set hgw2 (Nat.le_refl _) _) (Nat.le_refl _) _) (Nat.le_refl _) _
  have hbV : V.heap[w.heap.size]? = some (layL S' N' 1) := by
    rw [hV]
    exact setCell_row (L := [num S', num N', num T]) (i := 2) (setCell_row (L := [num S', num N, num T]) (i := 1) (setCell_row (L := [num S, num N, num T]) (i := 0) hb3 _) _) _
  have hxV := hx.more hgV
  have HR : Hid (Calls Try.prog 19 #[layV S' N' 1, .slice ao len cap] V (RightPost V S' N' len xs)) := right_ok hxV S' N' (by omega) (by omega) (by omega) 1
  have v0 : V.cell? ⟨w.heap.size, 0, none⟩ = some (num S') := cell_at hbV rfl
  have v1 : V.cell? ⟨w.heap.size, 1, none⟩ = some (num N') := cell_at hbV rfl
  have v2 : V.cell? ⟨w.heap.size, 2, none⟩ = some (num 1) := cell_at hbV rfl
  have Hv : Hid _ := hV
  clear hV hb1 hb2 hb3 hg1 hg2 hgw2 hgW hxV
  go_wp2_with (rw [← Hv.out])
  refine HR.out.mono ?_
  rintro e w6 ⟨lv, rfl, hg6, hlv⟩
  rw [← hn] at hlv
  have hst : Start w w6 S' N' n lv (rightS S' N' xs) := ⟨grownBy_trans hgV hg6, (hg6.block _ (lt_of_heap hbV) (by simp)).trans hbV, (hlv.sub fun _ _ => trivial).lo⟩
  obtain ⟨la, lc, rfl, l1, l2, _⟩ := id hlv
  have hXne : ∀ a, a < n → ∀ i, i < (rightS S' N' xs a).m → (rightS S' N' xs a).sec i ≠ [] := fun a _ i _ e => by
    have h1 : (rightSec S' (xs a) i).length = S' := by rw [rightSec, front_len]
    have h2 : rightSec S' (xs a) i = [] := e
    rw [h2] at h1
    simp at h1
    omega
  generalize rightS S' N' xs = X at hst HGd hXne
  have n12' : (n : Int) ≤ 12 := by omega
  clear hlv hg6 hgV hbV HR v0 v1 v2 c0 c1 c2 f0 f1 f2 Hv hn
  have HNe : Hid (∀ a, a < n → ∀ i, i < (X a).m → (X a).sec i ≠ []) := hXne
  have HSt : Hid _ := hst
  have hbx := hst.box
  have v0 : w6.cell? ⟨w.heap.size, 0, none⟩ = some (num S') := cell_at hbx rfl
  have v1 : w6.cell? ⟨w.heap.size, 1, none⟩ = some (num N') := cell_at hbx rfl
  have v2 : w6.cell? ⟨w.heap.size, 2, none⟩ = some (num 1) := cell_at hbx rfl
  have HSum0 : Hid (Calls Try.prog 12 #[layV S' N' 1, nilS] w6 (SumYes w6 S' N' 0 X)) := sum_yes (K := All) (Rows.nil _ _ _) (by omega) S' N' 1 ⟨HGd.out.1, fun a ha => by omega⟩
  clear hst hbx hXne
  go_wp2_with fail
  refine HSum0.out.mono ?_
  rintro e w7 ⟨gs, gb, gk, rfl, hg7, hO⟩
  obtain ⟨w8, hw8⟩ : ∃ w8, w8 = w7.alloc (leafL (sl0 gs N') (sl0 gb N')) := ⟨_, rfl⟩
  have hg78 : w7.grownBy w8 none := by rw [hw8]; exact World.grownBy_alloc w7 _ none
  have hbA : w8.heap[w7.heap.size]? = some (leafL (sl0 gs N') (sl0 gb N')) := by rw [hw8]; exact heap_alloc_new w7 _
  have hg68 := grownBy_trans hg7 hg78
  have hbx8 := (hg68.block _ (lt_of_heap HSt.out.box) (by simp)).trans HSt.out.box
  have HHold : Hid (∀ wx, w8.grownBy wx none → wx.cell? ⟨w7.heap.size, 0, none⟩ = some (sl0 gs N') ∧ wx.cell? ⟨w7.heap.size, 1, none⟩ = some (sl0 gb N') ∧ wx.cell? ⟨w.heap.size, 0, none⟩ = some (num S') ∧ wx.cell? ⟨w.heap.size, 1, none⟩ = some (num N') ∧ wx.cell? ⟨w.heap.size, 2, none⟩ = some (num 1)) := fun wx hg => by
    have e1 := (hg.block _ (lt_of_heap hbA) (by simp)).trans hbA
    have e2 := (hg.block _ (lt_of_heap hbx8) (by simp)).trans hbx8
    exact ⟨cell_at e1 rfl, cell_at e1 rfl, cell_at e2 rfl, cell_at e2 rfl, cell_at e2 rfl⟩
  have HO : Hid _ := hO
  have HG8 : Hid _ := hg68
  have Hw8 : Hid _ := hw8
  have nn : ((N' : Int) != (N' : Int)) = false := by simp
  have nN : (N' : Int) ≤ 4 := by omega
  obtain ⟨c0, c1, c2, c3, c4⟩ := HHold.out w8 (grownBy_refl _ _)
  clear v0 v1 v2 HSum0 hw8 hbA hbx8 hO
  go_wp2_with (rw [← Hw8.out])
  go_loopw [9] (fun i wr => ∃ k : Nat, k ≤ N' ∧ i = num k ∧ w8.grownBy wr none) (fun i _ => N' - (intOf i).toNat)
  case atStart => exact ⟨0, Nat.zero_le _, rfl, grownBy_refl _ _⟩
  case round =>
    clear c0 c1 c2 c3 c4
    obtain ⟨k, hk, rfl, hg⟩ := hrel
    obtain ⟨c0, c1, c2, c3, c4⟩ := HHold.out wr hg
    by_cases hkn : k < N'
    · have q1 : (k : Int) < (N' : Int) := by omega
      have hg7r := grownBy_trans hg78 hg
      have hkp := Kept.of_grown (K := All) hg7r
      obtain ⟨x0, x1, x2⟩ := HO.out.sl k hkn
      obtain ⟨y0, y1, _, _, _⟩ := HO.out.se k hkn
      have x0' : wr.cell? ⟨gs, k * 3, none⟩ = some (q32 0) := hkp.cell trivial x0
      have x1' : wr.cell? ⟨gs, k * 3 + 1, none⟩ = some (num 0) := hkp.cell trivial x1
      have x2' : wr.cell? ⟨gs, k * 3 + 2, none⟩ = some (q64 0) := hkp.cell trivial x2
      have y0' := hkp.cell trivial y0
      have hz : sumSec S' 0 X k = List.replicate S' 0 := xorRow_zero S' fun a => (X a).sec k
      have y1' : wr.heap[gk k]? = some (.cells (vals8 (List.replicate S' 0)).toArray 5) := by
        have := (hg7r.block _ (lt_of_heap y1) (by simp)).trans y1
        rw [← hz]
        exact this
      have hbm : ∀ (wx : World) (gx : Nat), wx.heap[gx]? = some (.cells (vals8 (List.replicate S' 0)).toArray 5) → (convert 49 9 (sl0 gx S')).run Try.prog wx = .ok (.string (strB (List.replicate S' 0))) wx := fun wx gx h => by
        have hb : BytesM wx All (.slice (some ⟨gx, 0, none⟩) (List.replicate S' 0).length S') (List.replicate S' 0) := ⟨fun i => by
          by_cases hi : i < S'
          · simp [nth, hi]
          · rw [nth_over _ (by simp; omega)]; omega, some ⟨gx, 0, none⟩, S', rfl, by simp, by omega, .inr ⟨gx, 0, rfl, trivial, fun j hj => by
            rw [Nat.zero_add, Nat.mul_one]
            exact cell_at h (by rw [List.getElem?_toArray]; exact vals8_at hj)⟩⟩
        have := conv_ok hb (by simp; omega)
        rw [List.length_replicate] at this
        exact this
      have hmk := fun w => make_8 w S' (by omega)
      have hne := slot_ne 0 0 0
      have hc2 : (convert 49 9 (sl0 wr.heap.size S')).run Try.prog (wr.alloc (.cells (vals8 (List.replicate S' 0)).toArray 5)).drew = .ok (.string (strB (List.replicate S' 0))) (wr.alloc (.cells (vals8 (List.replicate S' 0)).toArray 5)).drew := hbm _ _ (heap_alloc_new wr _)
      have HS0 : Hid (w8.grownBy wr.drew none ∧ wr.drew.cell? ⟨w7.heap.size, 0, none⟩ = some (sl0 gs N') ∧ wr.drew.cell? ⟨w7.heap.size, 1, none⟩ = some (sl0 gb N') ∧ wr.drew.cell? ⟨w.heap.size, 0, none⟩ = some (num S') ∧ wr.drew.cell? ⟨gs, k * 3, none⟩ = some (q32 0) ∧ wr.drew.cell? ⟨gs, k * 3 + 1, none⟩ = some (num 0) ∧ wr.drew.cell? ⟨gs, k * 3 + 2, none⟩ = some (q64 0) ∧ wr.drew.cell? ⟨gb, k, none⟩ = some (sl0 (gk k) S') ∧ wr.drew.heap[gk k]? = some (.cells (vals8 (List.replicate S' 0)).toArray 5)) := ⟨grownBy_drew hg, c0, c1, c2, x0', x1', x2', y0', y1'⟩
      have hc1 := fun (wx : World) (h : wx.heap[gk k]? = some (.cells (vals8 (List.replicate S' 0)).toArray 5)) => hbm wx (gk k) h
      clear hbm hg7r hkp x0 x1 x2 y0 y1 hz
      generalize strB (List.replicate S' 0) = ST at hc2 hc1
      have hs : (ST.toList != ST.toList) = false := by simp
      have S9 : (S' : Int) ≤ 9 := by omega
      have hlt := lt_of_heap y1'
      have hl2 : gs < wr.heap.size := lt_of_cell x0'
      have hl3 : gb < wr.heap.size := lt_of_cell y0'
      have hl4 : w7.heap.size < wr.heap.size := lt_of_cell c0
      have hl5 : w.heap.size < wr.heap.size := lt_of_cell c2
      have hc1' := hc1 wr.drew y1'
      have HGk : Hid _ := hg
      have hc3 := hc1 (wr.alloc (.cells (vals8 (List.replicate S' 0)).toArray 5)).drew (((World.grownBy_alloc wr _ none).block _ hlt (by simp)).trans y1')
      clear hc1
      go_wp2_with fail
      go_region
      all_goals
        go_wp2
        go_roundw
        case rel => exact ⟨k + 1, by omega, by go_num, grownBy_drew (grownBy_alloc' HGk.out _)⟩
        case measure => simp [intOf]; omega
    · obtain rfl : k = N' := by omega
      have q1 : ¬ (k : Int) < (k : Int) := by omega
      have HGw : Hid (w8.grownBy wr none) := hg
      clear hg
      go_wp2_with fail
      refine (add_nil _ _ _).mono ?_
      rintro e w9 ⟨rfl, hg9⟩
      clear c0 c1 c2 c3 c4
      go_wp2_with fail
      refine (parity_nil _).mono ?_
      rintro e wa ⟨rfl, hga⟩
      have hgwa := grownBy_trans HGw.out (grownBy_trans hg9 hga)
      have HL : Hid _ := left_nil
      clear hg9 hga
      obtain ⟨wb, hwb⟩ : ∃ wb, wb = wa.alloc (leafL nilS nilS) := ⟨_, rfl⟩
      have hgab : wa.grownBy wb none := by rw [hwb]; exact World.grownBy_alloc wa _ none
      have hgb := grownBy_trans hgwa hgab
      have hg6b := grownBy_trans HG8.out hgb
      have hgwb := grownBy_trans HSt.out.grown hg6b
      have Hwb : Hid _ := hwb
      clear hwb hgab hgwa
      by_cases hn0 : n = 0
      · have e0 : ((n : Int) == 0) = true := by simp; omega
        have HG : Hid _ := hgwb
        clear hgb hg6b hgwb
        go_wp2_with (go_at_call 21; rw [← Hwb.out]; refine (HL.out _).mono ?_; rintro e wb ⟨rfl, rfl⟩)
        go_ret
        exact ⟨rfl, HG.out⟩
      · have e0 : ((n : Int) == 0) = false := by simp; omega
        have h0 : 0 < n := by omega
        obtain ⟨g, off, rfl, _, _, _, hat⟩ := HSt.out.leaves.at h0
        obtain ⟨sv, bv, d1, d2, hLf⟩ := hat 0 h0
        obtain ⟨sa, sc, rfl, _, _, _⟩ := id hLf.sl
        obtain ⟨ba, bc, rfl, _, _, _⟩ := id hLf.se
        rw [Nat.zero_mul, Nat.add_zero] at d1 d2
        have hone : LeavesM w6 All (.slice (some ⟨g, off, none⟩) 1 lc) 1 X := ⟨_, lc, rfl, by omega, l2, .inr ⟨g, off, rfl, trivial, fun k hk => (hat k (by omega)).sub fun _ _ => trivial⟩⟩
        have hgood1 : Good S' k 1 X := ⟨HGd.out.1, fun a ha => HGd.out.2 a (by omega)⟩
        have HSum : Hid (∀ wx, w6.grownBy wx none → Calls Try.prog 12 #[layV S' k 1, .slice (some ⟨g, off, none⟩) 1 lc] wx (SumLeaf wx S' k 1 X)) := fun wx hgx => sum_leaf (hone.more hgx) (by omega) S' k (by omega) (by omega) 1 hgood1
        have HEq : Hid (LeafEq (sumS S' k 1 X) (X 0)) := sum_one (by omega) (HGd.out.2 0 h0) (HNe.out 0 h0)
        have HTh : Hid (∀ wx, w6.grownBy wx none → wx.cell? ⟨w.heap.size, 0, none⟩ = some (num S') ∧ wx.cell? ⟨w.heap.size, 1, none⟩ = some (num k) ∧ wx.cell? ⟨w.heap.size, 2, none⟩ = some (num 1)) := fun wx hg => by
          have e1 := (hg.block _ (lt_of_heap HSt.out.box) (by simp)).trans HSt.out.box
          exact ⟨cell_at e1 rfl, cell_at e1 rfl, cell_at e1 rfl⟩
        have HLf : Hid _ := hLf
        have HD : Hid (w6.cell? ⟨g, off, none⟩ = some (.slice sa (X 0).n sc) ∧ w6.cell? ⟨g, off + 1, none⟩ = some (.slice ba (X 0).m bc)) := ⟨d1, d2⟩
        have H6b : Hid (w6.grownBy wb none) := hg6b
        have HWb : Hid (w.grownBy wb none) := hgwb
        have HZ : Hid (w6.grownBy (wb.alloc (leafL nilS nilS)).drew none) := grownBy_drew (grownBy_alloc' hg6b _)
        have HZb : Hid ((wb.alloc (leafL nilS nilS)).drew.heap[wb.heap.size]? = some (leafL nilS nilS)) := heap_alloc_new wb _
        have HNum : Hid (w.heap.size < w6.heap.size ∧ w6.heap.size ≤ wb.heap.size ∧ g < w6.heap.size) := ⟨lt_of_heap HSt.out.box, hg6b.size, lt_of_cell d1⟩
        have l1' : (1 : Int) ≤ (lc : Int) := by omega
        have l0 : ¬ lc = 0 := by omega
        have hl0 : 0 < lc := by omega
        have HS0 : Hid (wb.drew.cell? ⟨w.heap.size, 0, none⟩ = some (num S') ∧ wb.drew.cell? ⟨w.heap.size, 1, none⟩ = some (num k) ∧ wb.drew.cell? ⟨w.heap.size, 2, none⟩ = some (num 1)) := HTh.out wb.drew (grownBy_drew hg6b)
        clear hgb hg6b hgwb hone hgood1 hat hLf d1 d2
        go_upto_region 21 with (go_at_call 21; rw [← Hwb.out]; refine (HL.out _).mono ?_; rintro e wb ⟨rfl, rfl⟩)
        go_cut [16, 17] (fun p e wx => ∃ gC gs3 gb3, p = ptr gC 0 ∧ e = num 0 ∧ Fin1 wb wx gC (sl0 gs3 k) (sl0 gb3 k) (sumS S' k 1 X))
        case first =>
          go_region_held3 (fun w' => w'.cell? ⟨w.heap.size, 0, none⟩ = some (num S') ∧ w'.cell? ⟨w.heap.size, 1, none⟩ = some (num k) ∧ w'.cell? ⟨w.heap.size, 2, none⟩ = some (num 1)) (first | assumption | exact HS0.out | exact HTh.out _ (grownBy_alloc' (grownBy_trans (grownBy_drew H6b.out) ‹_›) _) | exact HTh.out _ (grownBy_trans (grownBy_drew H6b.out) ‹_›) | exact HTh.out _ HZ.out | exact HTh.out _ (grownBy_trans HZ.out ‹_›) | exact HTh.out _ (grownBy_set (grownBy_set (grownBy_trans HZ.out ‹_›) HNum.out.2.1 _) HNum.out.2.1 _))
            (first | (go_at_call 12; refine (HSum.out _ HZ.out).mono ?_; rintro e wd ⟨gs3, gb3, rfl, hgd, hPd⟩; have hZd := (hgd.block _ (lt_of_heap HZb.out) (by simp)).trans HZb.out; have zc0 := cell_at (o := 0) hZd rfl; have zc1 := cell_at (o := 1) hZd rfl; have zf0 := free_at (o := 0) hZd; have zf1 := free_at (o := 1) hZd) | (go_at_call 12; refine (HSum.out _ (grownBy_drew H6b.out)).mono ?_; rintro e wd ⟨gs3, gb3, rfl, hgd, hPd⟩))
          all_goals
            go_wp2_with fail
            go_meet
            first
              | exact ⟨_, gs3, gb3, rfl, rfl, fin1_alloc (grownBy_trans (grownBy_drew (grownBy_refl wb none)) hgd) hPd⟩
              | exact ⟨_, gs3, gb3, rfl, rfl, fin1_set (grownBy_trans (grownBy_drew (World.grownBy_alloc wb _ none)) hgd) hZd (Nat.le_refl _) hPd⟩
        case rest =>
          obtain ⟨gC, gs3, gb3, rfl, rfl, hF⟩ := hcut
          obtain ⟨_, l3⟩ := hF.l3
          have hg6c := grownBy_trans H6b.out hF.grown
          have HSame : Hid (∀ wx, wc.grownBy wx none → Calls Try.prog 16 #[.agg #[sl0 gs3 k, sl0 gb3 k], .agg #[.slice sa (X 0).n sc, .slice ba (X 0).m bc]] wx fun e w' => e = .returned (.bool true) ∧ wx.grownBy w' none) := fun wx hgx => same_ok (l3.more hgx) (HLf.out.more (grownBy_trans hg6c hgx)) HEq.out
          have HG : Hid (∀ wx, wc.grownBy wx none → w.grownBy wx none) := fun wx hgx => grownBy_trans HWb.out (grownBy_trans hF.grown hgx)
          have HFo : Hid (∀ wx, wc.grownBy wx none → wx.cell? ⟨gC, 0, none⟩ = some (sl0 gs3 k) ∧ wx.cell? ⟨gC, 1, none⟩ = some (sl0 gb3 k) ∧ wx.cell? ⟨g, off, none⟩ = some (.slice sa (X 0).n sc) ∧ wx.cell? ⟨g, off + 1, none⟩ = some (.slice ba (X 0).m bc)) := fun wx hgx => by
            have e1 := (hgx.block _ (lt_of_heap hF.bC) (by simp)).trans hF.bC
            have kp := Kept.of_grown (K := All) (grownBy_trans hg6c hgx)
            exact ⟨cell_at e1 rfl, cell_at e1 rfl, kp.cell trivial HD.out.1, kp.cell trivial HD.out.2⟩
          have HS1 : Hid _ := HFo.out wc.drew (grownBy_drew (grownBy_refl wc none))
          clear hF l3 hg6c
          go_wp2_with fail
          go_region_held3 (fun w' => w'.cell? ⟨gC, 0, none⟩ = some (sl0 gs3 k) ∧ w'.cell? ⟨gC, 1, none⟩ = some (sl0 gb3 k) ∧ w'.cell? ⟨g, off, none⟩ = some (.slice sa (X 0).n sc) ∧ w'.cell? ⟨g, off + 1, none⟩ = some (.slice ba (X 0).m bc)) (first | assumption | exact HS1.out | exact HFo.out _ (grownBy_trans (grownBy_drew (grownBy_refl wc none)) ‹_›))
            (first | (go_at_call 16; refine (HSame.out _ (grownBy_drew (grownBy_refl wc none))).mono ?_; rintro e we ⟨rfl, hge⟩))
          all_goals
            have HG3 : Hid _ := HG.out _ (grownBy_trans (grownBy_drew (grownBy_refl wc none)) hge)
            go_wp2
            go_ret
            exact ⟨rfl, HG3.out⟩
end Sp
end Go.Proofs.Ytjokedggmhiklaa
