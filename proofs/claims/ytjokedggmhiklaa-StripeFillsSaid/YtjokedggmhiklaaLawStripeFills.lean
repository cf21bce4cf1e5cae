/- The walk of StripeFills. -/
import Derived.Test.YtjokedggmhiklaaTa
namespace Go.Proofs.Ytjokedggmhiklaa
open Go.ChangeShapes Go.WideShapes Go.ChangeAt Go.RowKit Go.Maps
namespace Sp
theorem grownR_set {w0 W : World} {r : Option Nat} (h : w0.grownBy W r) {g o : Nat} (hg : w0.heap.size ≤ g) (v : Value) : w0.grownBy (W.setCell ⟨g, o, none⟩ v) r :=
  ⟨h.os, h.tape, h.output, by simpa [World.setCell] using h.size, fun i hi hr => (setCell_else (by omega) v).trans (h.block i hi hr)⟩
theorem grownR_weak {w0 W : World} (h : w0.grownBy W none) (r : Option Nat) : w0.grownBy W r := ⟨h.os, h.tape, h.output, h.size, fun i hi _ => h.block i hi (by simp)⟩
theorem OpenM.congr {w : World} {g S N wd p k gs gb : Nat} {X Y : Nat → Leaf} (h : OpenM w g S N wd p k gs gb X) (e : ∀ a, a < k → X a = Y a) : OpenM w g S N wd p k gs gb Y := by
  have es : sumS S N k X = sumS S N k Y := by
    have e1 : sumSlot k X = sumSlot k Y := by
      funext i
      unfold sumSlot
      rw [xorN_congr k fun a ha => by rw [e a ha], xorN_congr k (f := fun a => ((X a).slot i).state.toNat) fun a ha => by rw [e a ha], xorN_congr k (f := fun a => ((X a).slot i).seq) fun a ha => by rw [e a ha]]
    have e2 : sumSec S k X = sumSec S k Y := by
      funext i
      unfold sumSec
      exact List.map_congr_left fun j _ => xorN_congr k fun a ha => by rw [e a ha]
    unfold sumS
    rw [e1, e2]
  exact ⟨h.box, by rw [← es]; exact h.leaf⟩
theorem made_slots (m : Nat) : (madeCells #[Value.int .u32 0, num 0, Value.int .u64 0] (m * 3)).toList = flat m (slotsE fun _ => ⟨0, 0, 0⟩) := by
  have l2 : (flat m (slotsE fun _ => ⟨0, 0, 0⟩)).length = m * 3 := flat_len m fun _ _ => rfl
  apply List.ext_getElem?
  intro i
  by_cases hi : i < m * 3
  · obtain ⟨q, r, rfl, hr⟩ : ∃ q r, i = q * 3 + r ∧ r < 3 := ⟨i / 3, i % 3, by omega, by omega⟩
    rw [flat_at (sz := 3) (fun _ _ => rfl) (by omega) hr, List.getElem?_eq_getElem (by simp [madeCells]; omega)]
    have e : (q * 3 + r) % 3 = r := by omega
    have hr3 : r = 0 ∨ r = 1 ∨ r = 2 := by omega
    rcases hr3 with rfl | rfl | rfl <;> simp [madeCells, e]
  · rw [List.getElem?_eq_none (by simp [madeCells]; omega), List.getElem?_eq_none (by rw [l2]; omega)]
theorem make_slots0 (n : Nat) (hn : n ≤ 1000) (w : World) : (Instr.makeSlice 29 (num (n : Int)) (num (n : Int))).run Try.prog w = .ok (.slice (some ⟨w.heap.size, 0, none⟩) n n) (w.alloc (.cells (flat n (slotsE fun _ => ⟨0, 0, 0⟩)).toArray 53)) := by
  obtain ⟨i0, hi, hz0, hz1, hz2⟩ := info_parts info53'
  have hr := run_make (P := Try.prog) w 29 53 i0 (.agg #[.int .u32 0, num 0, .int .u64 0]) Try.underlying29 hi hz0 .i64 .i64 n n (by omega) (Int.le_refl _) (by rw [hz2]; omega) (by omega)
  simp only [Int.toNat_natCast, hz1] at hr
  have e1 : madeCells (Value.agg #[.int .u32 0, num 0, .int .u64 0]).cells (n * 3) = (flat n (slotsE fun _ => ⟨0, 0, 0⟩)).toArray := by
    apply Array.toList_inj.1
    exact made_slots n
  rw [e1] at hr
  exact hr
/-- A leaf of too many slots. -/
theorem bad_leaf {w : World} {ga gb M N : Nat} (h1 : w.heap[ga]? = some (.cells (flat M (slotsE fun _ => ⟨0, 0, 0⟩)).toArray 53)) (h2 : w.heap[gb]? = some (.cells (nils N).toArray 49)) (hM : M ≤ 1000) (hN : N ≤ 1000) :
    LeafM w All (sl0 ga M) (sl0 gb N) ⟨M, fun _ => ⟨0, 0, 0⟩, N, fun _ => []⟩ := by
  refine ⟨⟨_, M, rfl, Nat.le_refl _, by omega, .inr ⟨ga, 0, rfl, trivial, fun i hi => ?_⟩⟩, ⟨_, N, rfl, Nat.le_refl _, by omega, .inr ⟨gb, 0, rfl, trivial, fun i hi => ?_⟩⟩, fun i _ => ⟨show (0 : Nat) < 4294967296 by decide, ⟨show (-9223372036854775808 : Int) ≤ 0 by decide, show (0 : Int) ≤ 9223372036854775807 by decide⟩, show (0 : Nat) < 18446744073709551616 by decide⟩⟩
  · have hc : ∀ j u, j < 3 → (slotsE (fun _ => ⟨0, 0, 0⟩) i)[j]? = some u → w.cell? ⟨ga, 0 + i * 3 + j, none⟩ = some u := fun j u hj hu => by
      rw [Nat.zero_add]
      exact cell_at h1 (by rw [List.getElem?_toArray, flat_at (sz := 3) (fun _ _ => rfl) hi hj]; exact hu)
    exact ⟨hc 0 _ (by decide) rfl, hc 1 _ (by decide) rfl, hc 2 _ (by decide) rfl⟩
  · refine ⟨nilS, cell_at h2 (by rw [List.getElem?_toArray]; show (List.replicate N _)[_]? = _; rw [List.getElem?_replicate, if_pos (by have : i < N := hi; omega)]), fun j => by rw [nth_over _ (by simp)]; omega, Rows.nil _ _ _⟩
theorem tri_g (w : World) (P Q R : Obj) : w.grownBy (((w.alloc P).alloc Q).alloc R).drew none := grownBy_drew (allocs_grown [P, Q, R] w)
theorem tri_at (w : World) (P Q R : Obj) : (((w.alloc P).alloc Q).alloc R).drew.heap[w.heap.size]? = some P ∧ (((w.alloc P).alloc Q).alloc R).drew.heap[w.heap.size + 1]? = some Q ∧ (((w.alloc P).alloc Q).alloc R).drew.heap[w.heap.size + 1 + 1]? = some R :=
  ⟨allocs_at [P, Q, R] w 0 rfl, allocs_at [P, Q, R] w 1 rfl, allocs_at [P, Q, R] w 2 rfl⟩
def headN (p k : Nat) : Nat := if k ≤ p then k else k + 1
theorem head_place (p k P : Nat) (h : P = headN p k) : (if P = p then P + 1 else P) = placeN p k ∧ placeN p k + 1 = headN p (k + 1) := by
  have h1 : headN p k = k ∧ k ≤ p ∨ headN p k = k + 1 ∧ p < k := by unfold headN; split <;> omega
  have h2 : headN p (k + 1) = k + 1 ∧ k + 1 ≤ p ∨ headN p (k + 1) = k + 2 ∧ p < k + 1 := by unfold headN; split <;> omega
  have h3 : placeN p k = k + 1 ∧ p ≤ k ∨ placeN p k = k ∧ k < p := by unfold placeN; split <;> omega
  generalize headN p k = a at h h1
  generalize headN p (k + 1) = b at h2
  generalize placeN p k = c at h3
  split <;> omega
theorem sum_refl {S N k : Nat} {X : Nat → Leaf} (hS : 1 ≤ S) : LeafEq (sumS S N k X) (sumS S N k X) := ⟨rfl, rfl, fun _ _ => rfl, fun i _ => ⟨rfl, by show 1 ≤ (sumSec S k X i).length; rw [sumSec_len]; exact hS⟩⟩
structure FinB (w0 w : World) (gC : Nat) (a1 : Option Addr) (n1 c1 : Nat) (a2 : Option Addr) (n2 c2 : Nat) (x : Leaf) : Prop where
  grown : w0.grownBy w none
  bC : w.heap[gC]? = some (leafL (.slice a1 n1 c1) (.slice a2 n2 c2))
  l3 : LeafM w (KT w w0.heap.size) (.slice a1 n1 c1) (.slice a2 n2 c2) x
  ge : w0.heap.size ≤ gC
theorem finb_set {w0 w : World} {gz n1 c1 n2 c2 B : Nat} {a1 a2 : Option Addr} {x : Leaf} (h : w0.grownBy w none) (hz : w.heap[gz]? = some (leafL nilS nilS)) (n0 : w0.heap.size ≤ gz) (hl : LeafM w (KT w B) (.slice a1 n1 c1) (.slice a2 n2 c2) x) (hB : w0.heap.size ≤ B) : FinB w0 ((w.setCell ⟨gz, 0, none⟩ (.slice a1 n1 c1)).setCell ⟨gz, 1, none⟩ (.slice a2 n2 c2)) gz a1 n1 c1 a2 n2 c2 x := by
  have z1 := box_put (o := 0) (v := .slice a1 n1 c1) hz (.inl rfl)
  have z2 := box_put (o := 1) (v := .slice a2 n2 c2) z1 (.inr rfl)
  exact ⟨grownBy_set (grownBy_set h n0 _) n0 _, z2, ((hl.box hz).box z1).sub fun _ hk => hk.low hB, n0⟩
theorem finb_alloc {w0 w : World} {n1 c1 n2 c2 B : Nat} {a1 a2 : Option Addr} {x : Leaf} (h : w0.grownBy w none) (hl : LeafM w (KT w B) (.slice a1 n1 c1) (.slice a2 n2 c2) x) (hB : w0.heap.size ≤ B) : FinB w0 (w.alloc (leafL (.slice a1 n1 c1) (.slice a2 n2 c2))) w.heap.size a1 n1 c1 a2 n2 c2 x :=
  ⟨grownBy_alloc' h _, heap_alloc_new w _, (hl.growN (World.grownBy_alloc w _ none)).sub fun _ hk => hk.low hB, h.size⟩
set_option maxHeartbeats 12800000 in
set_option maxRecDepth 4000 in
theorem law_StripeFills (S N T : Int) (hS : I64 S) (hN : I64 N) (_hT : I64 T) (row : Int) (hrow : I64 row) (width : Int) (_hwidth : I64 width) (ao : Option Addr) (len cap : Nat) (xs : Nat → Leaf) {w : World} (hx : LeavesM w All (.slice ao len cap) len xs) :
    Calls Try.prog 5 #[layV S N T, num row, num width, .slice ao len cap] w fun e w' => e = .returned (.bool true) ∧ w.grownBy w' none := by
  have hnn := hnot
  obtain ⟨W, hW⟩ : ∃ W, W = w.alloc (layL S N T) := ⟨_, rfl⟩
  have hgW : w.grownBy W none := by rw [hW]; exact World.grownBy_alloc w _ none
  have hb1 : W.heap[w.heap.size]? = some (layL S N T) := by rw [hW]; exact heap_alloc_new w _
  have Hw : Hid _ := hW
  have HSm : Hid (∀ w, Calls Try.prog 17 #[layV S N T] w fun e w' => e = .returned (layV (smallSec S) (smallSl N) 1) ∧ w.grownBy w' none) := fun w => small_ok S N T hS hN w
  have HAw : Hid (∀ w, Calls Try.prog 9 #[] w fun e w' => e = .returned (.bool true) ∧ w.grownBy w' none) := awake_ok
  have hGd := right_good (S := S) (N := N) (leaves_si hx)
  obtain ⟨S', hS'⟩ : ∃ S', S' = smallSec S := ⟨_, rfl⟩
  obtain ⟨N', hN'⟩ : ∃ N', N' = smallSl N := ⟨_, rfl⟩
  rw [← hS', ← hN'] at HSm hGd
  have s1 : 1 ≤ S' ∧ S' ≤ 9 := by rw [hS']; unfold smallSec; omega
  have s2 : 1 ≤ N' ∧ N' ≤ 4 := by rw [hN']; unfold smallSl; omega
  obtain ⟨n, hn⟩ : ∃ n, n = min len 12 := ⟨_, rfl⟩
  have n12 : n ≤ 12 := by omega
  rw [← hn] at hGd
  have HGd : Hid _ := hGd
  clear hS' hN' hW hS hN hGd
  go_enter Try.func5, Try.ntmps5
  go_wp2_with (rw [← Hw.out])
  refine (HAw.out _).mono ?_
  rintro e w1 ⟨rfl, hg1⟩
  have hb2 := (hg1.block _ (lt_of_heap hb1) (by simp)).trans hb1
  have c0 : w1.cell? ⟨w.heap.size, 0, none⟩ = some (num S) := cell_at hb2 rfl
  have c1 : w1.cell? ⟨w.heap.size, 1, none⟩ = some (num N) := cell_at hb2 rfl
  have c2 : w1.cell? ⟨w.heap.size, 2, none⟩ = some (num T) := cell_at hb2 rfl
  go_wp2_with fail
  refine (HSm.out _).mono ?_
  rintro e w2 ⟨rfl, hg2⟩
  have hb3 := (hg2.block _ (lt_of_heap hb2) (by simp)).trans hb2
  have hgw2 := grownBy_trans hgW (grownBy_trans hg1 hg2)
  clear c0 c1 c2
  have c0 : w2.cell? ⟨w.heap.size, 0, none⟩ = some (num S) := cell_at hb3 rfl
  have c1 : w2.cell? ⟨w.heap.size, 1, none⟩ = some (num N) := cell_at hb3 rfl
  have c2 : w2.cell? ⟨w.heap.size, 2, none⟩ = some (num T) := cell_at hb3 rfl
  have f0 : w2.frozen? ⟨w.heap.size, 0, none⟩ = false := free_at hb3
  have f1 : w2.frozen? ⟨w.heap.size, 1, none⟩ = false := free_at hb3
  have f2 : w2.frozen? ⟨w.heap.size, 2, none⟩ = false := free_at hb3
  obtain ⟨V, hV⟩ : ∃ V, V = ((w2.setCell ⟨w.heap.size, 0, none⟩ (num S')).setCell ⟨w.heap.size, 1, none⟩ (num N')).setCell ⟨w.heap.size, 2, none⟩ (num 1) := ⟨_, rfl⟩
  have hgV : w.grownBy V none := by rw [hV]; exact grownBy_set (grownBy_set (grownBy_set hgw2 (Nat.le_refl _) _) (Nat.le_refl _) _) (Nat.le_refl _) _
  have hbV : V.heap[w.heap.size]? = some (layL S' N' 1) := by
    rw [hV]
    exact setCell_row (L := [num S', num N', num T]) (i := 2) (setCell_row (L := [num S', num N, num T]) (i := 1) (setCell_row (L := [num S, num N, num T]) (i := 0) hb3 _) _) _
  have hlay : LayMay S' N' := by have := HGd.out.1; exact this
  have v0 : V.cell? ⟨w.heap.size, 0, none⟩ = some (num S') := cell_at hbV rfl
  have v1 : V.cell? ⟨w.heap.size, 1, none⟩ = some (num N') := cell_at hbV rfl
  have v2 : V.cell? ⟨w.heap.size, 2, none⟩ = some (num 1) := cell_at hbV rfl
  have Hv : Hid _ := hV
  have HbV : Hid (V.heap[w.heap.size]? = some (layL S' N' 1)) := hbV
  have HgV : Hid (w.grownBy V none) := hgV
  have HFo : Hid (Try.prog.follows .mixedOrders = true) := follows_mixed
  clear hV hb1 hb2 hb3 hg1 hg2 hgw2 hgW
  have row63 := hrow.2
  by_cases hp0 : placeS row width < 0
  · have HNo : Hid (Calls Try.prog 18 #[layV S' N' 1, num row, num width] V fun e w' => e = .returned (.tuple #[.pointer none, num 1]) ∧ V.grownBy w' none) := New_no V hlay row63 hp0
    have HPl : Hid (∀ w, Calls Try.prog 11 #[num row, num width] w fun e w' => e = .returned (num (placeS row width)) ∧ w' = w) := kplace_ok row width row63
    have hpn : ∀ w, (binOp .eql 40 (.pointer none) (.pointer none)).run Try.prog w = .ok (.bool true) w := fun _ => by kernel_rfl
    generalize placeS row width = P at HPl hp0
    clear hbV hgV hlay hrow
    go_wp2_with (rw [← Hv.out])
    refine HNo.out.mono ?_
    rintro e w5 ⟨rfl, hg5⟩
    have HE : Hid _ := grownBy_trans HgV.out hg5
    clear hg5 v0 v1 v2
    go_wp2_with fail
    refine (HPl.out _).mono ?_
    rintro e w5 ⟨rfl, rfl⟩
    go_wp2
    go_ret
    exact ⟨rfl, HE.out⟩
  · have hpar : ¬ (row < 0 ∨ width < 2 ∨ 255 < width) := fun h => hp0 (by unfold placeS; rw [if_pos h]; omega)
    obtain ⟨A, rfl⟩ : ∃ A : Nat, row = A := ⟨row.toNat, by omega⟩
    obtain ⟨M, rfl⟩ : ∃ M : Nat, width = M := ⟨width.toNat, by omega⟩
    have m2 : 2 ≤ M := by omega
    have m255 : M ≤ 255 := by omega
    obtain ⟨p, hp⟩ : ∃ p, p = M - 1 - A % M := ⟨_, rfl⟩
    have hpM : p < M := by omega
    have hpl : placeS (A : Int) (M : Int) = (p : Int) := by
      have hm : A % M < M := Nat.mod_lt _ (by omega)
      unfold placeS
      rw [if_neg hpar]
      have : ((A % M : Nat) : Int) = (A : Int) % (M : Int) := by simp
      omega
    have HNew : Hid (∀ X, Calls Try.prog 18 #[layV S' N' 1, num A, num M] V (NewPost V S' N' M p X)) := fun X => by
      rw [hp]; exact New_ok V X hlay row63 m2 m255
    have HPl : Hid (∀ w, Calls Try.prog 11 #[num A, num M] w fun e w' => e = .returned (num (p : Int)) ∧ w' = w) := by rw [← hpl]; exact kplace_ok (A : Int) (M : Int) row63
    have p0 : ¬ (p : Int) < 0 := by omega
    have HX1 : Hid (LeavesM w All (.slice ao len cap) len xs) := hx
    clear hpl hp hpar hp0 hrow hbV hgV
    go_wp2_with (rw [← Hv.out])
    refine (HNew.out (rightS S' N' xs)).mono ?_
    rintro e w5 ⟨g, gs, gb, rfl, hg5, hgg, hO⟩
    have hpt := ptr_some g
    go_wp2_with fail
    refine (HPl.out _).mono ?_
    rintro e w5 ⟨rfl, rfl⟩
    have hbx5 := (hg5.block _ (lt_of_heap HbV.out) (by simp)).trans HbV.out
    have hR : Calls Try.prog 19 #[layV S' N' 1, .slice ao len cap] w5 (RightPost w5 S' N' len xs) := right_ok ((HX1.out.more HgV.out).more hg5) S' N' (by omega) (by omega) (by omega) 1
    have HR : Hid _ := hR
    clear v0 v1 v2
    have v0 : w5.cell? ⟨w.heap.size, 0, none⟩ = some (num S') := cell_at hbx5 rfl
    have v1 : w5.cell? ⟨w.heap.size, 1, none⟩ = some (num N') := cell_at hbx5 rfl
    have v2 : w5.cell? ⟨w.heap.size, 2, none⟩ = some (num 1) := cell_at hbx5 rfl
    clear hbx5
    go_wp2_with fail
    refine (show Calls Try.prog 19 #[layV S' N' 1, .slice ao len cap] w5 (RightPost w5 S' N' len xs) from HR.out).mono ?_
    rintro e w6 ⟨lv, rfl, hg6, hlv⟩
    rw [← hn] at hlv
    obtain ⟨la, lc, rfl, l1, l2, _⟩ := id hlv
    have hXlen : ∀ a, a < n → ∀ i, i < N' → (((rightS S' N' xs) a).sec i).length = S' := fun a _ i _ => by show (rightSec S' (xs a) i).length = S'; rw [rightSec, front_len]
    have hO6 := hO.more hg6
    have hgl : g < w5.heap.size := lt_of_heap hO.box
    have hbx6 := (hg6.block _ (lt_of_heap ((hg5.block _ (lt_of_heap HbV.out) (by simp)).trans HbV.out)) (by simp)).trans ((hg5.block _ (lt_of_heap HbV.out) (by simp)).trans HbV.out)
    have hV6 := grownBy_trans hg5 hg6
    have hwg : w.heap.size < g := by have := lt_of_heap HbV.out; omega
    generalize rightS S' N' xs = X at hlv HGd hXlen hO6
    have hch : ∃ s b : Nat → Value, ∃ gl ol, (0 < n → la = some ⟨gl, ol, none⟩ ∧ gl ≠ g) ∧ ∀ k, k < n → w6.cell? ⟨gl, ol + k * 2, none⟩ = some (s k) ∧ w6.cell? ⟨gl, ol + k * 2 + 1, none⟩ = some (b k) ∧ LeafM w6 (fun b' => b' ≠ g) (s k) (b k) (X k) := by
      by_cases h0 : 0 < n
      · obtain ⟨gl, ol, rfl, hKl, _, _, hat⟩ := hlv.at h0
        obtain ⟨s, b, hsb⟩ := LeavesM.chosen hat
        refine ⟨s, b, gl, ol, fun _ => ⟨rfl, ?_⟩, fun k hk => ⟨(hsb k hk).1, (hsb k hk).2.1, (hsb k hk).2.2.sub fun b' hb => ?_⟩⟩
        · have h1 : w5.heap.size ≤ gl := hKl; omega
        · have h1 : w5.heap.size ≤ b' := hb; omega
      · exact ⟨fun _ => nilS, fun _ => nilS, 0, 0, fun h => absurd h h0, fun k hk => by omega⟩
    obtain ⟨s, b, gl, ol, hla, hsb⟩ := hch
    have HWg : Hid (∀ wx, w6.grownBy wx (some g) → w.grownBy wx none ∧ wx.heap[w.heap.size]? = some (layL S' N' 1)) := fun wx hg => ⟨grownBy_trans HgV.out (grown_new hV6 hg (by omega)), (hg.block _ (lt_of_heap hbx6) (fun e => by have := Option.some.inj e; omega)).trans hbx6⟩
    have HSb : Hid (∀ k, k < n → ∀ wx, w6.grownBy wx (some g) → wx.cell? ⟨gl, ol + k * 2, none⟩ = some (s k) ∧ wx.cell? ⟨gl, ol + k * 2 + 1, none⟩ = some (b k) ∧ LeafM wx All (s k) (b k) (X k)) := fun k hk wx hg => by
      obtain ⟨d1, d2, d3⟩ := hsb k hk
      have hne := (hla (by omega)).2
      have eb := hg.block gl (lt_of_cell d1) (fun e => hne (by have := Option.some.inj e; omega))
      exact ⟨(cell_of_block eb).trans d1, (cell_of_block eb).trans d2, (d3.kept fun b' hb hl => hg.block b' hl (fun e => hb (by have := Option.some.inj e; omega))).sub fun _ _ => trivial⟩
    have HXl : Hid _ := hXlen
    have HLa : Hid (0 < n → la = some ⟨gl, ol, none⟩) := fun h => (hla h).1
    have HSi : Hid (∀ a, a < n → ∀ i, i < N' → SlotI ((X a).slot i)) := fun a ha i hi => (hsb a ha).2.2.si i (by have := (HGd.out.2 a ha).n; omega)
    have n12' : (n : Int) ≤ 12 := by omega
    have HM : Hid (2 ≤ M ∧ M ≤ 255 ∧ p < M) := ⟨m2, m255, hpM⟩
    have mw1 : IntKind.i64.wrap ((M : Int) - 1) = (M : Int) - 1 := by rw [IntKind.wrap_i64]; omega
    have m2' : (2 : Int) ≤ (M : Int) := by omega
    have m255' : (M : Int) ≤ 255 := by omega
    have p255 : (p : Int) ≤ 255 := by omega
    have lcn : (n : Int) ≤ (lc : Int) := by omega
    have lc63 : (lc : Int) ≤ 9223372036854775807 := by omega
    have HL1 : Hid (n ≤ lc ∧ lc ≤ 9223372036854775807 ∧ n ≤ 12) := ⟨l1, by omega, by omega⟩
    clear hO hlv hXlen hla hsb hbx6 hV6 hg5 hg6 hgg hgl HR v0 v1 v2 hn l1 l2 m2 m255 hpM n12 hx HX1 HNew HPl
    go_wp2_with fail
    go_loopw [14, 15] (fun pl i wr => ∃ k P : Nat, k ≤ n ∧ i = num k ∧ pl = num P ∧ P ≤ 300 ∧ (k ≤ M - 1 → P = headN p k) ∧ w6.grownBy wr (some g) ∧ ∃ gs gb, OpenM wr g S' N' M p (min k (M - 1)) gs gb X) (fun _ i _ => n - (intOf i).toNat)
    case atStart => exact ⟨0, 0, Nat.zero_le _, rfl, rfl, by omega, fun _ => by simp [headN], grownBy_refl _ _, _, _, by simpa using hO6⟩
    case round =>
      clear hO6 hpt
      obtain ⟨k, P, hk, rfl, rfl, hP, hPh, hg, gs1, gb1, hO⟩ := hrel
      by_cases hkn : k < n
      · have q1 : (k : Int) < (n : Int) := by omega
        obtain ⟨P2, hP2⟩ : ∃ P2 : Nat, P2 = if P = p then P + 1 else P := ⟨_, rfl⟩
        have hP2b : P2 ≤ 300 := by have := HM.out; rw [hP2]; split <;> omega
        have HO : Hid (OpenM wr g S' N' M p (min k (M - 1)) gs1 gb1 X) := hO
        have Hg : Hid _ := hg
        have HPh : Hid (k ≤ M - 1 → P = headN p k) := hPh
        have HP2 : Hid _ := hP2
        have P300 : (P : Int) ≤ 300 := by omega
        clear hO hg hPh hP2
        go_upto_if 69 with fail
        go_cut [14] (fun v wx => wx = wr ∧ v = num (P2 : Int))
        case first =>
          by_cases e : P = p
          · have HE : Hid ((P : Int) + 1 = (P2 : Int)) := by rw [Hid, HP2.out, if_pos e]; omega
            subst e
            have e1 : ((P : Int) == (P : Int)) = true := by simp
            go_wp2_with (rw [HE.out])
            go_meet
            exact ⟨rfl, rfl⟩
          · have HE : Hid (P2 = P) := by rw [Hid, HP2.out, if_neg e]
            have e1 : ((P : Int) == (p : Int)) = false := by simp; omega
            have e2 : ¬ (P : Int) = (p : Int) := by omega
            clear e
            go_wp2
            go_meet
            exact ⟨rfl, by rw [HE.out]⟩
        case rest =>
          obtain ⟨hwx, rfl⟩ := hcut
          obtain ⟨wz, hwz⟩ : ∃ wz : World, wz = wc := ⟨_, rfl⟩
          have hzr : wz = wr := hwz.trans hwx
          rw [← hzr] at HO Hg
          rw [← hwz]
          clear hwx hwz hzr
          have h0n : 0 < n := by omega
          have hla' := HLa.out h0n
          subst hla'
          obtain ⟨d1, d2, hLf⟩ := HSb.out k hkn wz Hg.out
          obtain ⟨sa, sc, es, _⟩ := id hLf.sl
          obtain ⟨ba, bc, eb, _⟩ := id hLf.se
          rw [es] at d1 hLf
          rw [eb] at d2 hLf
          by_cases hkM : k < M - 1
          · have hmin : min k (M - 1) = k := by omega
            have hO : OpenM wz g S' N' M p k gs1 gb1 X := by have h := HO.out; rwa [hmin] at h
            have hsm0 : May S' N' (sumS S' N' k X) := sum_may (fun a ha => HSi.out a (by omega)) fun a ha => HGd.out.2 a (by omega)
            have hsm1 : May S' N' (sumS S' N' (k + 1) X) := sum_may (fun a ha => HSi.out a (by omega)) fun a ha => HGd.out.2 a (by omega)
            have HA : Hid (Calls Try.prog 20 #[.pointer (some ⟨g, 0, none⟩), .agg #[.slice sa (X k).n sc, .slice ba (X k).m bc]] wz (AddPost wz g S' N' M p k X)) := Add_ok hO HGd.out.1 HM.out.2.1 (by omega) hsm0 (HGd.out.2 k hkn) hLf
            have HPP : Hid (P2 = placeN p k ∧ P2 + 1 = headN p (k + 1)) := by
              have h := head_place p k P (HPh.out (by omega))
              rw [Hid, HP2.out, h.1]; exact ⟨rfl, h.2⟩
            have HSm1 : Hid (May S' N' (sumS S' N' (k + 1) X)) := hsm1
            have q2 : ¬ (M : Int) - 1 ≤ (k : Int) := by omega
            have HkM : Hid (k < M - 1) := hkM
            have Hkn : Hid (k < n) := hkn
            clear hO hsm0 hsm1 hmin hkM es eb hLf hkn HO
            go_wp2_with fail
            refine HA.out.mono ?_
            rintro e wa ⟨gs2, gb2, rfl, hga, hOa⟩
            rw [← HPP.out.1]
            have HOa : Hid (OpenM wa g S' N' M p (k + 1) gs2 gb2 X) := hOa
            have Hga : Hid (w6.grownBy wa (some g)) := grownBy_trans Hg.out hga
            have HPa : Hid (Calls Try.prog 22 #[.pointer (some ⟨g, 0, none⟩)] wa (ParOwn wa S' N' p (k + 1) X)) := parity_own hOa HGd.out.1 (by have := HM.out; omega) HSm1.out
            clear hga hOa d1 d2
            go_wp2_with fail
            refine HPa.out.mono ?_
            rintro e wp ⟨gs3, gb3, gk3, rfl, hgp, hown⟩
            obtain ⟨wq, hwq⟩ : ∃ wq, wq = wp.alloc (leafL (sl0 gs3 N') (sl0 gb3 N')) := ⟨_, rfl⟩
            have hgpq : wp.grownBy wq none := by rw [hwq]; exact World.grownBy_alloc wp _ none
            have hbq : wq.heap[wp.heap.size]? = some (leafL (sl0 gs3 N') (sl0 gb3 N')) := by rw [hwq]; exact heap_alloc_new wp _
            have HOwn : Hid (OwnLeaf wa.heap.size wq S' N' gs3 gb3 gk3 (sumS S' N' (k + 1) X)) := hown.more hgpq
            have Haq : Hid (wa.grownBy wq none) := grownBy_trans hgp hgpq
            have H6q : Hid (w6.grownBy wq (some g)) := grownBy_trans Hga.out (grownR_weak Haq.out _)
            have HSum : Hid (∀ wx, wq.grownBy wx none → Calls Try.prog 13 #[layV S' N' 1, .slice (some ⟨gl, ol, none⟩) (k + 1) lc] wx (fun e w' => ∃ a1 n1 c1 a2 n2 c2, e = .returned (.tuple #[.agg #[.slice a1 n1 c1, .slice a2 n2 c2], num 0]) ∧ wx.grownBy w' none ∧ LeafM w' (KT w' wx.heap.size) (.slice a1 n1 c1) (.slice a2 n2 c2) (sumS S' N' (k + 1) X))) := fun wx hgx => by
              have hkn := Hkn.out
              have h6x : w6.grownBy wx (some g) := grownBy_trans H6q.out (grownR_weak hgx _)
              have hL : LeavesM wx All (.slice (some ⟨gl, ol, none⟩) (k + 1) lc) (k + 1) X := ⟨_, lc, rfl, by have := HL1.out; omega, HL1.out.2.1, .inr ⟨gl, ol, rfl, trivial, fun a ha => ⟨s a, b a, (HSb.out a (by omega) wx h6x)⟩⟩⟩
              refine (ksum_okB hL S' N' 1).mono ?_
              rintro e w' ⟨a1, n1, c1, a2, n2, c2, er, rfl, hgw, h⟩
              rcases h with ⟨_, rfl, h3⟩ | ⟨h, _⟩
              · exact ⟨a1, n1, c1, a2, n2, c2, rfl, hgw, by simpa using h3⟩
              · exact absurd (⟨HGd.out.1, fun a ha => HGd.out.2 a (by omega)⟩ : Good S' N' (k + 1) X) h
            have HC : Hid (∀ wx, wq.grownBy wx none → Three wx w.heap.size (num S') (num N') (num 1)) := fun wx hgx => by
              have b := (HWg.out wx (grownBy_trans H6q.out (grownR_weak hgx _))).2
              exact ⟨cell_at b rfl, cell_at b rfl, cell_at b rfl⟩
            have HS0 := HC.out wq.drew (grownBy_drew (grownBy_refl wq none))
            have G4 : Hid (wq.grownBy (wq.alloc (leafL nilS nilS)).drew none) := grownBy_drew (World.grownBy_alloc wq _ none)
            have G0 : Hid (wq.grownBy wq.drew none) := grownBy_drew (grownBy_refl wq none)
            have Z4 : Hid ((wq.alloc (leafL nilS nilS)).drew.heap[wq.heap.size]? = some (leafL nilS nilS)) := heap_alloc_new wq _
            have hsl : ∀ wx, (Instr.slice 28 (.slice (some ⟨gl, ol, none⟩) n lc) none (some (num ((k : Int) + 1))) none).run Try.prog wx = .ok (.slice (some ⟨gl, ol, none⟩) (k + 1) lc) wx := fun wx => by
              have h := slice_lo wx gl ol n lc (k + 1) (by have := HL1.out; have := Hkn.out; omega)
              rw [← h]; rfl
            have wk : IntKind.i64.wrap ((k : Int) + 1) = (k : Int) + 1 := by rw [IntKind.wrap_i64]; omega
            have Hwq : Hid _ := hwq
            have Hbq : Hid (wq.heap[wp.heap.size]? = some (leafL (sl0 gs3 N') (sl0 gb3 N'))) := hbq
            clear hown hgpq hwq hbq hgp HPa HA
            go_upto_region 23 with (rw [← Hwq.out])
            go_cut [21, 22] (fun q e wx => ∃ gC a1 n1 c1 a2 n2 c2, q = ptr gC 0 ∧ e = num 0 ∧ FinB wq wx gC a1 n1 c1 a2 n2 c2 (sumS S' N' (k + 1) X))
            case first =>
              go_region_held3 (fun w' => w'.cell? ⟨w.heap.size, 0, none⟩ = some (num S') ∧ w'.cell? ⟨w.heap.size, 1, none⟩ = some (num N') ∧ w'.cell? ⟨w.heap.size, 2, none⟩ = some (num 1)) (first | assumption | exact HC.out _ G4.out | exact HC.out _ hgw3 | exact HC.out _ (grownBy_alloc' hgw3 _) | exact HC.out _ (grownBy_set (grownBy_set hgw3 (Nat.le_refl _) _) (Nat.le_refl _) _))
                (first | (go_at_call 13; refine Calls.mono (HSum.out _ (by first | exact G0.out | exact G4.out)) ?_; rintro e wd3 ⟨a1, n1, c1, a2, n2, c2, rfl, hgd, hPd⟩; have hgw3 : wq.grownBy wd3 none := (by first | exact grownBy_trans G0.out hgd | exact grownBy_trans G4.out hgd); (try (have hZd : wd3.heap[wq.heap.size]? = some (leafL nilS nilS) := Eq.trans (hgd.block wq.heap.size (lt_of_heap Z4.out) (by simp)) Z4.out)); try (have zc0 := cell_at (o := 0) hZd rfl; have zc1 := cell_at (o := 1) hZd rfl; have zf0 := free_at (o := 0) hZd; have zf1 := free_at (o := 1) hZd)))
              all_goals
                go_wp2_with fail
                go_meet
                have gz1 := G0.out.size
                have gz2 := G4.out.size
                first
                  | exact ⟨_, a1, n1, c1, a2, n2, c2, rfl, rfl, finb_alloc hgw3 hPd gz1⟩
                  | exact ⟨_, a1, n1, c1, a2, n2, c2, rfl, rfl, finb_set hgw3 hZd (Nat.le_refl _) hPd gz2⟩
            case rest =>
              obtain ⟨gC, a1, n1, c1, a2, n2, c2, rfl, rfl, hF⟩ := hcut
              have hS1 : 1 ≤ S' := s1.1
              have hN1 : 1 ≤ N' := s2.1
              have b18 := (hF.grown.block _ (lt_of_heap Hbq.out) (by simp)).trans Hbq.out
              have hle := hF.grown
              have HLf3 : Hid (LeafM wc All (sl0 gs3 N') (sl0 gb3 N') (sumS S' N' (k + 1) X)) := ((HOwn.out.more hle).leafT (by omega) (by omega)).sub fun _ _ => trivial
              have HSa : Hid (Calls Try.prog 16 #[.agg #[sl0 gs3 N', sl0 gb3 N'], .agg #[.slice a1 n1 c1, .slice a2 n2 c2]] wc fun e w' => e = .returned (.bool true) ∧ wc.grownBy w' none) := same_ok HLf3.out hF.l3 (sum_refl hS1)
              have HLe : Hid (∀ wx, wc.grownBy wx none → Calls Try.prog 21 #[.pointer (some ⟨g, 0, none⟩)] wx fun e w' => e = .returned (num ((M - 1 - (k + 1) : Nat) : Int)) ∧ wx.grownBy w' none) := fun wx hgx => left_ok (HOa.out.more (grownBy_trans Haq.out (grownBy_trans hle hgx))).box (by have := HkM.out; omega) HM.out.2.1
              obtain ⟨LF, hLF⟩ : ∃ LF : Nat, LF = M - 1 - (k + 1) := ⟨_, rfl⟩
              rw [← hLF] at HLe
              have mw2 : IntKind.i64.wrap ((M : Int) - 2) = (M : Int) - 2 := by rw [IntKind.wrap_i64]; omega
              have mw3 : IntKind.i64.wrap ((M : Int) - 2 - (k : Int)) = (LF : Int) := by have := HkM.out; rw [IntKind.wrap_i64]; omega
              have HF : Hid (FinB wq wc gC a1 n1 c1 a2 n2 c2 (sumS S' N' (k + 1) X)) := hF
              have x0 : wc.cell? ⟨wp.heap.size, 0, none⟩ = some (sl0 gs3 N') := cell_at b18 rfl
              have x1 : wc.cell? ⟨wp.heap.size, 1, none⟩ = some (sl0 gb3 N') := cell_at b18 rfl
              have x2 : wc.cell? ⟨gC, 0, none⟩ = some (.slice a1 n1 c1) := cell_at hF.bC rfl
              have x3 : wc.cell? ⟨gC, 1, none⟩ = some (.slice a2 n2 c2) := cell_at hF.bC rfl
              have e16 : ((P2 : Int) != (P2 : Int)) = false := by simp
              have e17 : ((p : Int) != (p : Int)) = false := by simp
              have e18 : ((LF : Int) != (LF : Int)) = false := by simp
              have HB18 : Hid (wc.heap[wp.heap.size]? = some (leafL (sl0 gs3 N') (sl0 gb3 N'))) := b18
              clear b18 hle hF hLF HS0 hsl
              go_wp2_with fail
              refine HSa.out.mono ?_
              rintro e wd ⟨rfl, hgd⟩
              have Hgd : Hid (wc.grownBy wd none) := hgd
              clear hgd x0 x1 x2 x3
              go_wp2_with fail
              refine (HLe.out _ Hgd.out).mono ?_
              rintro e we ⟨rfl, hge⟩
              have hce := grownBy_trans Hgd.out hge
              have HCe : Hid (wc.grownBy we none) := hce
              have hqe := grownBy_trans HF.out.grown hce
              have HQe : Hid (wq.grownBy we none) := hqe
              have hOe := HOwn.out.more hqe
              have b18 := (hce.block _ (lt_of_heap HB18.out) (by simp)).trans HB18.out
              obtain ⟨y0, y1, y2, y3, y4⟩ := hOe.se 0 (by omega)
              have hsz := (hOe.xs 0 (by omega)).1
              obtain ⟨OLD, hOLD⟩ : ∃ o, o = nth ((sumS S' N' (k + 1) X).sec 0) 0 := ⟨_, rfl⟩
              have hO8 : OLD < 2 ^ 8 := by rw [hOLD]; have := (hOe.xs 0 (by omega)).2 0; omega
              have c0 : we.cell? ⟨gk3 0, 0, none⟩ = some (q8 OLD) := by
                rw [hOLD]; exact cell_at y1 (by rw [List.getElem?_toArray]; exact vals8_at (by omega))
              have c0f : we.frozen? ⟨gk3 0, 0, none⟩ = false := free_at y1
              obtain ⟨t0, t1, t2⟩ := hOe.sl 0 (by omega)
              have hKY := (hOe.si 0 (by omega)).1.key
              obtain ⟨KY, hKYe⟩ : ∃ o, o = ((sumS S' N' (k + 1) X).slot 0).key := ⟨_, rfl⟩
              rw [← hKYe] at t0 hKY
              have g0f : we.frozen? ⟨gs3, 0, none⟩ = false := by obtain ⟨L, h1, _⟩ := hOe.os; exact free_at h1
              have HNeq : Hid (wa.heap.size ≤ gs3 ∧ wa.heap.size ≤ gk3 0 ∧ gk3 0 ≠ gs3 ∧ gk3 0 ≠ gb3 ∧ gs3 < wq.heap.size ∧ gk3 0 < wq.heap.size) := by
                obtain ⟨L1, _, h1, _⟩ := HOwn.out.lts gs3 (.inl rfl)
                obtain ⟨L2, _, h2, _⟩ := HOwn.out.lts (gk3 0) (.inr (.inr ⟨0, by omega, rfl⟩))
                exact ⟨hOe.es, y2, y3, y4, lt_of_heap h1, lt_of_heap h2⟩
              have hgb3 : gs3 ≠ gb3 := hOe.n1
              have hne18 : gs3 ≠ wp.heap.size ∧ gk3 0 ≠ wp.heap.size := by
                obtain ⟨L1, t1', h1, h1'⟩ := hOe.lts gs3 (.inl rfl)
                obtain ⟨L2, t2', h2, h2'⟩ := hOe.lts (gk3 0) (.inr (.inr ⟨0, by omega, rfl⟩))
                refine ⟨fun e => ?_, fun e => ?_⟩
                · rw [e, b18] at h1; simp only [Option.some.injEq, Obj.cells.injEq] at h1; exact h1' h1.2.1.symm
                · rw [e, b18] at h2; simp only [Option.some.injEq, Obj.cells.injEq] at h2; exact h2' h2.2.1.symm
              have X255 : bits .xor .u8 (OLD : Int) 255 = ((OLD ^^^ 255 : Nat) : Int) := by have := xor_u8 hO8 (show 255 < 2 ^ 8 by decide); simpa using this
              have X1 : bits .xor .u32 (KY : Int) 1 = ((KY ^^^ 1 : Nat) : Int) := by have := xor_u32 hKY (show 1 < 4294967296 by decide); simpa using this
              have y0' : we.cell? ⟨gb3, 0, none⟩ = some (sl0 (gk3 0) S') := y0
              have t0' : we.cell? ⟨gs3, 0, none⟩ = some (q32 KY) := by rw [Nat.zero_mul] at t0; exact t0
              have HAe : Hid (wa.grownBy we none) := grownBy_trans Haq.out hqe
              have HR1 : Hid (∀ wx, wx = we.drew.setCell ⟨gk3 0, 0, none⟩ (q8 (OLD ^^^ 255)) → wa.grownBy wx none ∧ (∀ b', b' ≠ gk3 0 → b' ≠ gs3 → wx.heap[b']? = we.heap[b']?) ∧ (wx.cell? ⟨wp.heap.size, 0, none⟩ = some (sl0 gs3 N') ∧ wx.cell? ⟨gs3, 0, none⟩ = some (q32 KY) ∧ wx.frozen? ⟨gs3, 0, none⟩ = false)) := fun wx h => by
                subst h
                have hb : (we.drew.setCell ⟨gk3 0, 0, none⟩ (q8 (OLD ^^^ 255))).heap[gs3]? = we.heap[gs3]? := setCell_else (by have := HNeq.out; omega) _
                refine ⟨grownBy_set (grownBy_drew HAe.out) HNeq.out.2.1 _, fun b' h1 _ => setCell_else h1 _, cell_else (cell_at b18 rfl) (fun e => hne18.2 e.symm), (cell_of_block hb).trans t0', ?_⟩
                have := g0f
                unfold World.frozen? at this ⊢
                rw [hb]; exact this
              have z0 : we.drew.cell? ⟨wp.heap.size, 0, none⟩ = some (sl0 gs3 N') := cell_at b18 rfl
              have z1 : we.drew.cell? ⟨wp.heap.size, 1, none⟩ = some (sl0 gb3 N') := cell_at b18 rfl
              have z2 : we.drew.cell? ⟨gb3, 0, none⟩ = some (sl0 (gk3 0) S') := y0
              have z3 : we.drew.cell? ⟨gk3 0, 0, none⟩ = some (q8 OLD) := c0
              have z4 : we.drew.frozen? ⟨gk3 0, 0, none⟩ = false := c0f
              have hB18e : Hid (we.heap[wp.heap.size]? = some (leafL (sl0 gs3 N') (sl0 gb3 N'))) := b18
              have HX1 : Hid (bits .xor .u32 (KY : Int) 1 = ((KY ^^^ 1 : Nat) : Int)) := X1
              have i1 : (1 : Int) ≤ (N' : Int) := by omega
              have i2 : (1 : Int) ≤ (S' : Int) := by omega
              have i3 : 0 < N' := hN1
              have i4 : 0 < S' := hS1
              generalize gk3 0 = gk at *
              clear y0 y1 y2 y3 y4 hsz hOLD hO8 t0 t1 t2 hKY hKYe hOe hqe hce hge X1 b18 g0f t0' hne18 hgb3
              go_upto_region 26 with fail
              clear mw2 mw3 e16 e17 e18
              go_cut [] (fun wx => wa.grownBy wx none ∧ (∀ b', b' ≠ gk → b' ≠ gs3 → wx.heap[b']? = we.heap[b']?) ∧ (wx.cell? ⟨wp.heap.size, 0, none⟩ = some (sl0 gs3 N') ∧ wx.cell? ⟨gs3, 0, none⟩ = some (q32 KY) ∧ wx.frozen? ⟨gs3, 0, none⟩ = false))
              case first =>
                go_still_tail 12, HFo.out
                change wpList _ _ _ _ _ (we.drew)
                go_wp2
                go_meet
                exact HR1.out _ rfl
              case rest =>
                obtain ⟨hgf, hsf, f0, f1, f2⟩ := hcut
                have HSf : Hid (∀ b', b' ≠ gk → b' ≠ gs3 → wc.heap[b']? = we.heap[b']?) := hsf
                have HGf : Hid (wa.grownBy wc none) := hgf
                have k0 : wc.drew.cell? ⟨wp.heap.size, 0, none⟩ = some (sl0 gs3 N') := f0
                have k1 : wc.drew.cell? ⟨gs3, 0, none⟩ = some (q32 KY) := f1
                have k2 : wc.drew.frozen? ⟨gs3, 0, none⟩ = false := f2
                have X1 := HX1.out
                have HR2 : Hid (∀ wx, wx = wc.drew.setCell ⟨gs3, 0, none⟩ (q32 (KY ^^^ 1)) → wa.grownBy wx none ∧ (∀ b', b' ≠ gk → b' ≠ gs3 → wx.heap[b']? = we.heap[b']?)) := fun wx h => by
                  subst h
                  exact ⟨grownBy_set (grownBy_drew HGf.out) HNeq.out.1 _, fun b' h1 h2 => (setCell_else h2 _).trans (HSf.out b' h1 h2)⟩
                clear hgf hsf z0 z1 z2 z3 z4 c0 c0f y0' X255
                go_upto_region 27 with fail
                go_cut [] (fun wx => wa.grownBy wx none ∧ (∀ b', b' ≠ gk → b' ≠ gs3 → wx.heap[b']? = we.heap[b']?))
                case first =>
                  go_still_tail 10, HFo.out
                  change wpList _ _ _ _ _ (wc.drew)
                  go_wp2
                  go_meet
                  exact HR2.out _ rfl
                case rest =>
                  obtain ⟨hgf, hsf⟩ := hcut
                  have hN := HNeq.out
                  have HPb : Hid (Calls Try.prog 22 #[.pointer (some ⟨g, 0, none⟩)] wc (ParPost wc S' N' p (k + 1) X)) := parity_ok (HOa.out.more hgf) HGd.out.1 (by have := HM.out; omega) HSm1.out
                  have hl1 := (HF.out.l3.sub (K' := fun b' => wq.heap.size ≤ b') fun b' hb => hb.1).more HCe.out
                  have hl2 : LeafM wc (fun b' => wq.heap.size ≤ b') (.slice a1 n1 c1) (.slice a2 n2 c2) (sumS S' N' (k + 1) X) := hl1.kept fun b' hb _ => hsf b' (by omega) (by omega)
                  have hge := HF.out.ge
                  have hbC := (hsf gC (by omega) (by omega)).trans ((HCe.out.block _ (lt_of_heap HF.out.bC) (by simp)).trans HF.out.bC)
                  have HL2 : Hid _ := hl2
                  have HbC : Hid (wc.heap[gC]? = some (leafL (.slice a1 n1 c1) (.slice a2 n2 c2))) := hbC
                  have HGf : Hid (wa.grownBy wc none) := hgf
                  have P2b : (P2 : Int) ≤ 300 := by omega
                  have HS1 : Hid (1 ≤ S') := hS1
                  clear hN hl1 hl2 hge hbC hgf hsf k0 k1 k2 X1 f0 f1 f2
                  go_wp2_with fail
                  refine HPb.out.mono ?_
                  rintro e wi ⟨gs5, gb5, rfl, hgi, hli⟩
                  obtain ⟨wj, hwj⟩ : ∃ wj, wj = wi.alloc (leafL (sl0 gs5 N') (sl0 gb5 N')) := ⟨_, rfl⟩
                  have hgij : wi.grownBy wj none := by rw [hwj]; exact World.grownBy_alloc wi _ none
                  have hbj : wj.heap[wi.heap.size]? = some (leafL (sl0 gs5 N') (sl0 gb5 N')) := by rw [hwj]; exact heap_alloc_new wi _
                  have hgcj := grownBy_trans hgi hgij
                  have hbCj := (hgcj.block _ (lt_of_heap HbC.out) (by simp)).trans HbC.out
                  have m0 : wj.cell? ⟨wi.heap.size, 0, none⟩ = some (sl0 gs5 N') := cell_at hbj rfl
                  have m1 : wj.cell? ⟨wi.heap.size, 1, none⟩ = some (sl0 gb5 N') := cell_at hbj rfl
                  have m2 : wj.cell? ⟨gC, 0, none⟩ = some (.slice a1 n1 c1) := cell_at hbCj rfl
                  have m3 : wj.cell? ⟨gC, 1, none⟩ = some (.slice a2 n2 c2) := cell_at hbCj rfl
                  have HSb2 : Hid (Calls Try.prog 16 #[.agg #[sl0 gs5 N', sl0 gb5 N'], .agg #[.slice a1 n1 c1, .slice a2 n2 c2]] wj fun e w' => e = .returned (.bool true) ∧ wj.grownBy w' none) := same_ok (hli.growN hgij) (HL2.out.more hgcj) (sum_refl HS1.out)
                  have Hwj : Hid _ := hwj
                  have Hcj : Hid (wa.grownBy wj none) := grownBy_trans HGf.out hgcj
                  clear hwj hgij hbj hgcj hbCj hgi hli HPb
                  go_wp2_with (rw [← Hwj.out])
                  refine HSb2.out.mono ?_
                  rintro e wl ⟨rfl, hgl⟩
                  have Hal : Hid (wa.grownBy wl none) := grownBy_trans Hcj.out hgl
                  clear hgl m0 m1 m2 m3
                  have HO5 : Hid (OpenM wl g S' N' M p (min (k + 1) (M - 1)) gs2 gb2 X) := by
                    rw [show min (k + 1) (M - 1) = k + 1 by have := HkM.out; omega]; exact HOa.out.more Hal.out
                  go_wp2
                  go_roundw
                  case rel => exact ⟨k + 1, P2 + 1, by have := Hkn.out; omega, by go_num, by go_num, by have := HkM.out; have := HM.out; have := HPP.out.1; unfold placeN at this; split at this <;> omega, fun _ => HPP.out.2, grownBy_trans Hga.out (grownR_weak Hal.out _), _, _, HO5.out⟩
                  case measure => have := Hkn.out; simp [intOf]; omega
          · have hmin : min k (M - 1) = M - 1 := by omega
            have hO : OpenM wz g S' N' M p (M - 1) gs1 gb1 (fun a => if a < M - 1 then X a else X k) := by
              have h := HO.out
              rw [hmin] at h
              exact h.congr fun a ha => by rw [if_pos ha]
            have hm1 : ∀ a, a < M - 1 → a < n := fun a ha => by omega
            have hsm : May S' N' (sumS S' N' (M - 1) (fun a => if a < M - 1 then X a else X k)) := sum_may (fun a ha i hi => by simp only [if_pos ha]; exact HSi.out a (hm1 a ha) i hi) fun a ha => by simp only [if_pos ha]; exact HGd.out.2 a (hm1 a ha)
            have HF : Hid (Calls Try.prog 20 #[.pointer (some ⟨g, 0, none⟩), .agg #[.slice sa (X k).n sc, .slice ba (X k).m bc]] wz fun e w' => e = .returned (.tuple #[num 0, num 90]) ∧ wz.grownBy w' none) :=
              Add_full hO HGd.out.1 HM.out.2.1 (by have := HM.out; omega) hsm (by simpa using HGd.out.2 k hkn) (by simpa using hLf)
            have HL : Hid (∀ wx, wz.grownBy wx none → Calls Try.prog 21 #[.pointer (some ⟨g, 0, none⟩)] wx fun e w' => e = .returned (num 0) ∧ wx.grownBy w' none) := fun wx hgx => by
              have h := left_ok (hO.more hgx).box (by have := HM.out; omega) HM.out.2.1
              rw [show M - 1 - (M - 1) = 0 by omega] at h
              exact h
            have hO2 : OpenM wz g S' N' M p (min (k + 1) (M - 1)) gs1 gb1 X := by
              rw [show min (k + 1) (M - 1) = min k (M - 1) by omega]; exact HO.out
            have HO2 : Hid (OpenM wz g S' N' M p (min (k + 1) (M - 1)) gs1 gb1 X) := hO2
            have q2 : (M : Int) - 1 ≤ (k : Int) := by omega
            have HkM : Hid (¬ k < M - 1) := hkM
            clear hO hm1 hsm hLf hO2 hmin hkM es eb
            go_wp2_with fail
            refine HF.out.mono ?_
            rintro e wa ⟨rfl, hga⟩
            have HGa : Hid _ := hga
            clear hga d1 d2
            go_wp2_with fail
            refine (HL.out _ HGa.out).mono ?_
            rintro e wb ⟨rfl, hgb⟩
            have HGb : Hid (wz.grownBy wb none) := grownBy_trans HGa.out hgb
            clear hgb
            go_wp2
            go_roundw
            case rel => exact ⟨k + 1, P2, by omega, by go_num, rfl, hP2b, fun h => absurd h (by have := HkM.out; omega), grownBy_trans Hg.out (grownR_weak HGb.out _), _, _, HO2.out.more HGb.out⟩
            case measure => simp [intOf]; omega
      · obtain rfl : k = n := by omega
        have q1 : ¬ (k : Int) < (k : Int) := by omega
        have hwr := HWg.out wr hg
        have c1 : wr.cell? ⟨w.heap.size, 1, none⟩ = some (num (N' : Int)) := cell_at hwr.2 rfl
        have hlt : w.heap.size < wr.heap.size := lt_of_heap hwr.2
        have HGr : Hid (w.grownBy wr none) := hwr.1
        have hN1 : (N' : Int) ≤ 4 := by omega
        have HN4 : Hid (N' ≤ 4) := s2.2
        have wn : IntKind.i64.wrap ((N' : Int) + 1) = (N' : Int) + 1 := by rw [IntKind.wrap_i64]; omega
        obtain ⟨A1, hA1⟩ : ∃ A1 : Obj, A1 = .cells (flat (N' + 1) (slotsE fun _ => ⟨0, 0, 0⟩)).toArray 53 := ⟨_, rfl⟩
        obtain ⟨A2, hA2⟩ : ∃ A2 : Obj, A2 = .cells (nils N').toArray 49 := ⟨_, rfl⟩
        have hmk1 : ∀ w : World, (Instr.makeSlice 29 (num ((N' : Int) + 1)) (num ((N' : Int) + 1))).run Try.prog w = .ok (.slice (some ⟨w.heap.size, 0, none⟩) (N' + 1) (N' + 1)) (w.alloc A1) := fun w => by
          have h := make_slots0 (N' + 1) (by omega) w
          rw [hA1, ← h]; rfl
        have hmk2 : ∀ w : World, (Instr.makeSlice 30 (num (N' : Int)) (num (N' : Int))).run Try.prog w = .ok (.slice (some ⟨w.heap.size, 0, none⟩) N' N') (w.alloc A2) := fun w => by
          rw [hA2]; exact make_secrows w N' (by omega)
        have HA1 : Hid _ := hA1
        have HA2 : Hid _ := hA2
        have HO : Hid (OpenM wr g S' N' M p (min k (M - 1)) gs1 gb1 X) := hO
        have c1' : wr.drew.cell? ⟨w.heap.size, 1, none⟩ = some (num (N' : Int)) := c1
        clear hwr hg hO hA1 hA2
        go_upto_region 32 with fail
        go_cut [26] (fun q wx => ∃ gC ga gb, q = ptr gC 0 ∧ wr.grownBy wx none ∧ wx.heap[gC]? = some (leafL (sl0 ga (N' + 1)) (sl0 gb N')) ∧ wx.heap[ga]? = some A1 ∧ wx.heap[gb]? = some A2)
        case first =>
          go_region
          all_goals
            go_wp2_with fail
            go_meet
            first
              | exact ⟨_, wr.heap.size, wr.heap.size + 1, rfl, tri_g wr _ _ _, (tri_at wr _ _ _).2.2, (tri_at wr _ _ _).1, (tri_at wr _ _ _).2.1⟩
              | exact ⟨_, wr.heap.size, wr.heap.size + 1 + 1, rfl, tri_g wr _ _ _, (tri_at wr _ _ _).2.1, (tri_at wr _ _ _).1, (tri_at wr _ _ _).2.2⟩
              | exact ⟨_, wr.heap.size + 1, wr.heap.size, rfl, tri_g wr _ _ _, (tri_at wr _ _ _).2.2, (tri_at wr _ _ _).2.1, (tri_at wr _ _ _).1⟩
              | exact ⟨_, wr.heap.size + 1 + 1, wr.heap.size, rfl, tri_g wr _ _ _, (tri_at wr _ _ _).2.1, (tri_at wr _ _ _).2.2, (tri_at wr _ _ _).1⟩
              | exact ⟨_, wr.heap.size + 1, wr.heap.size + 1 + 1, rfl, tri_g wr _ _ _, (tri_at wr _ _ _).1, (tri_at wr _ _ _).2.1, (tri_at wr _ _ _).2.2⟩
              | exact ⟨_, wr.heap.size + 1 + 1, wr.heap.size + 1, rfl, tri_g wr _ _ _, (tri_at wr _ _ _).1, (tri_at wr _ _ _).2.2, (tri_at wr _ _ _).2.1⟩
        case rest =>
          obtain ⟨gC, ga, gb, rfl, hgc, hbc, h1, h2⟩ := hcut
          rw [HA1.out] at h1
          rw [HA2.out] at h2
          have x0 : wc.cell? ⟨gC, 0, none⟩ = some (sl0 ga (N' + 1)) := cell_at hbc rfl
          have x1 : wc.cell? ⟨gC, 1, none⟩ = some (sl0 gb N') := cell_at hbc rfl
          have HBa : Hid (Calls Try.prog 20 #[.pointer (some ⟨g, 0, none⟩), .agg #[sl0 ga (N' + 1), sl0 gb N']] wc fun e w' => e = .returned (.tuple #[num 0, num 1]) ∧ wc.grownBy w' none) :=
            Add_bad (HO.out.more hgc) HGd.out.1 HM.out.2.1 (by have := HM.out; omega) (fun hm => by have h := hm.n; have e : (((N' + 1 : Nat) : Int)) = (N' : Int) := h; omega) (bad_leaf h1 h2 (by have := HN4.out; omega) (by have := HN4.out; omega))
          have HE : Hid (w.grownBy wc none) := grownBy_trans HGr.out hgc
          clear hgc hbc h1 h2 c1 c1' hmk1 hmk2 wn
          go_wp2_with fail
          refine HBa.out.mono ?_
          rintro e wd ⟨rfl, hgd⟩
          have HE2 : Hid _ := grownBy_trans HE.out hgd
          clear hgd x0 x1
          go_wp2
          go_ret
          exact ⟨rfl, HE2.out⟩
end Sp
end Go.Proofs.Ytjokedggmhiklaa
