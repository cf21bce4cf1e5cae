/- The walk of StripeMends. -/
import Derived.Test.YtjokedggmhiklaaSz
namespace Go.Proofs.Ytjokedggmhiklaa
open Go.ChangeShapes Go.WideShapes Go.ChangeAt Go.RowKit Go.Maps
namespace Sp
def idx (p j : Nat) : Nat := if j < p then j else j - 1
def rowV (p k : Nat) (s : Nat → Value) (j : Nat) : Value := if j = p then nilS else if idx p j < k then s (idx p j) else nilS
theorem rowV_p (p k : Nat) (s : Nat → Value) : rowV p k s p = nilS := by simp [rowV]
theorem rowV_zero (p : Nat) (s : Nat → Value) : rowV p 0 s = fun _ => nilS := by
  funext j
  simp [rowV]
theorem rowV_next (p k : Nat) (s : Nat → Value) : (fun i => if i = placeN p k then s k else rowV p k s i) = rowV p (k + 1) s := by
  funext j
  have hq : placeN p k = k + 1 ∧ p ≤ k ∨ placeN p k = k ∧ k < p := by unfold placeN; split <;> omega
  generalize placeN p k = q at hq
  unfold rowV
  by_cases h1 : j = p
  · rw [if_pos h1, if_pos h1, if_neg (by omega)]
  · rw [if_neg h1, if_neg h1]
    have hi : idx p j = j ∧ j < p ∨ idx p j = j - 1 ∧ p < j := by unfold idx; split <;> omega
    generalize idx p j = r at hi
    by_cases h2 : j = q
    · obtain rfl : r = k := by omega
      rw [if_pos h2, if_pos (by omega)]
    · rw [if_neg h2]
      by_cases h3 : r < k
      · rw [if_pos h3, if_pos (by omega)]
      · rw [if_neg h3, if_neg (by omega)]
theorem rowV_all {p k : Nat} (s : Nat → Value) {j : Nat} (hj : j < k + 1) (hp : p ≤ k) (hne : j ≠ p) : rowV p k s j = s (idx p j) := by
  have hi : idx p j = j ∧ j < p ∨ idx p j = j - 1 ∧ p < j := by unfold idx; split <;> omega
  unfold rowV
  rw [if_neg hne, if_pos (by omega)]
theorem rowZ_idx {S N n p : Nat} {X : Nat → Leaf} {j : Nat} (hne : j ≠ p) : rowZ S N n p X j = X (idx p j) := by
  unfold rowZ idx
  rw [if_neg hne]
  split <;> rfl
theorem kt_ne {w : World} {ga b : Nat} {L : Array Value} (hk : KT w 0 b) (hr : w.heap[ga]? = some (.cells L 32)) : b ≠ ga := fun e => by
  obtain ⟨_, L', t, h2, h3⟩ := hk
  rw [e, hr] at h2
  simp only [Option.some.injEq, Obj.cells.injEq] at h2
  exact h3 h2.2.1.symm
theorem leaf0_nil (w : World) : LeafM w (fun _ => True) nilS nilS ⟨0, fun _ => ⟨0, 0, 0⟩, 0, fun _ => []⟩ := ⟨Rows.nil _ _ _, Rows.nil _ _ _, fun i hi => by cases hi⟩
set_option maxHeartbeats 12800000 in
set_option maxRecDepth 4000 in
theorem law_StripeMends (S N T : Int) (hS : I64 S) (hN : I64 N) (_hT : I64 T) (row : Int) (hrow : I64 row) (ao : Option Addr) (len cap : Nat) (xs : Nat → Leaf) {w : World} (hx : LeavesM w All (.slice ao len cap) len xs) (lost : Int) (hlost : I64 lost) :
    Calls Try.prog 6 #[layV S N T, num row, .slice ao len cap, num lost] w fun e w' => e = .returned (.bool true) ∧ w.grownBy w' none := by
  have hnn := hnot
  obtain ⟨i32, hi, hz0, hz1, hz2⟩ := info_parts info32
  obtain ⟨W, hW⟩ : ∃ W, W = w.alloc (layL S N T) := ⟨_, rfl⟩
  have hgW : w.grownBy W none := by rw [hW]; exact World.grownBy_alloc w _ none
  have hb1 : W.heap[w.heap.size]? = some (layL S N T) := by rw [hW]; exact heap_alloc_new w _
  have Hw : Hid _ := hW
  have HSm : Hid (∀ w, Calls Try.prog 17 #[layV S N T] w fun e w' => e = .returned (layV (smallSec S) (smallSl N) 1) ∧ w.grownBy w' none) := fun w => small_ok S N T hS hN w
  have HAw : Hid (∀ w, Calls Try.prog 9 #[] w fun e w' => e = .returned (.bool true) ∧ w.grownBy w' none) := awake_ok
  have hGd := right_good (S := S) (N := N) (leaves_si hx)
  obtain ⟨S', hS'⟩ : ∃ S', S' = smallSec S := ⟨_, rfl⟩
  obtain ⟨N', hN'⟩ : ∃ N', N' = smallSl N := ⟨_, rfl⟩
  rw [← hS', ← hN'] at HSm hGd
  have s1 : 1 ≤ S' ∧ S' ≤ 9 := by rw [hS']; unfold smallSec; omega
  have s2 : 1 ≤ N' ∧ N' ≤ 4 := by rw [hN']; unfold smallSl; omega
  obtain ⟨n, hn⟩ : ∃ n, n = min len 12 := ⟨_, rfl⟩
  have n12 : n ≤ 12 := by omega
  rw [← hn] at hGd
  have HGd : Hid _ := hGd
  clear hS' hN' hW hS hN hGd
  go_enter Try.func6, Try.ntmps6
  go_wp2_with (rw [← Hw.out])
  refine (HAw.out _).mono ?_
  rintro e w1 ⟨rfl, hg1⟩
  have hb2 := (hg1.block _ (lt_of_heap hb1) (by simp)).trans hb1
  have c0 : w1.cell? ⟨w.heap.size, 0, none⟩ = some (num S) := cell_at hb2 rfl
  have c1 : w1.cell? ⟨w.heap.size, 1, none⟩ = some (num N) := cell_at hb2 rfl
  have c2 : w1.cell? ⟨w.heap.size, 2, none⟩ = some (num T) := cell_at hb2 rfl
  go_wp2_with fail
  refine (HSm.out _).mono ?_
  rintro e w2 ⟨rfl, hg2⟩
  have hb3 := (hg2.block _ (lt_of_heap hb2) (by simp)).trans hb2
  have hgw2 := grownBy_trans hgW (grownBy_trans hg1 hg2)
  clear c0 c1 c2
  have c0 : w2.cell? ⟨w.heap.size, 0, none⟩ = some (num S) := cell_at hb3 rfl
  have c1 : w2.cell? ⟨w.heap.size, 1, none⟩ = some (num N) := cell_at hb3 rfl
  have c2 : w2.cell? ⟨w.heap.size, 2, none⟩ = some (num T) := cell_at hb3 rfl
  have f0 : w2.frozen? ⟨w.heap.size, 0, none⟩ = false := free_at hb3
  have f1 : w2.frozen? ⟨w.heap.size, 1, none⟩ = false := free_at hb3
  have f2 : w2.frozen? ⟨w.heap.size, 2, none⟩ = false := free_at hb3
  obtain ⟨V, hV⟩ : ∃ V, V = ((w2.setCell ⟨w.heap.size, 0, none⟩ (num S')).setCell ⟨w.heap.size, 1, none⟩ (num N')).setCell ⟨w.heap.size, 2, none⟩ (num 1) := ⟨_, rfl⟩
  have hgV : w.grownBy V none := by rw [hV]; exact grownBy_set (grownBy_set (grownBy_set hgw2 (Nat.le_refl _) _) (Nat.le_refl _) _) (Nat.le_refl _) _
  have hbV : V.heap[w.heap.size]? = some (layL S' N' 1) := by
    rw [hV]
    exact setCell_row (L := [num S', num N', num T]) (i := 2) (setCell_row (L := [num S', num N, num T]) (i := 1) (setCell_row (L := [num S, num N, num T]) (i := 0) hb3 _) _) _
  have hxV := hx.more hgV
  have HR : Hid (Calls Try.prog 19 #[layV S' N' 1, .slice ao len cap] V (RightPost V S' N' len xs)) := right_ok hxV S' N' (by omega) (by omega) (by omega) 1
  have v0 : V.cell? ⟨w.heap.size, 0, none⟩ = some (num S') := cell_at hbV rfl
  have v1 : V.cell? ⟨w.heap.size, 1, none⟩ = some (num N') := cell_at hbV rfl
  have v2 : V.cell? ⟨w.heap.size, 2, none⟩ = some (num 1) := cell_at hbV rfl
  have Hv : Hid _ := hV
  clear hV hb1 hb2 hb3 hg1 hg2 hgw2 hgW hxV
  go_wp2_with (rw [← Hv.out])
  refine HR.out.mono ?_
  rintro e w6 ⟨lv, rfl, hg6, hlv⟩
  rw [← hn] at hlv
  have hst : Start w w6 S' N' n lv (rightS S' N' xs) := ⟨grownBy_trans hgV hg6, (hg6.block _ (lt_of_heap hbV) (by simp)).trans hbV, (hlv.sub fun _ _ => trivial).lo⟩
  obtain ⟨la, lc, rfl, l1, l2, _⟩ := id hlv
  have hXlen : ∀ a, a < n → ∀ i, i < N' → (((rightS S' N' xs) a).sec i).length = S' := fun a _ i _ => by show (rightSec S' (xs a) i).length = S'; rw [rightSec, front_len]
  generalize rightS S' N' xs = X at hst HGd hXlen
  have n12' : (n : Int) ≤ 12 := by omega
  clear hlv hg6 hgV hbV HR v0 v1 v2 c0 c1 c2 f0 f1 f2 Hv hn
  obtain ⟨M, hM⟩ : ∃ M : Nat, M = n + 1 := ⟨_, rfl⟩
  have HM : Hid (M = n + 1) := hM
  have HMw : Hid ((n : Int) + 1 = (M : Int)) := by rw [Hid]; omega
  have ha1 := absS_le hrow
  have ha2 := absS_le hlost
  have HAb1 : Hid (∀ w, Calls Try.prog 23 #[num row] w fun e w' => e = .returned (num (absS row)) ∧ w' = w) := fun w => abs_ok row hrow w
  have HAb2 : Hid (∀ w, Calls Try.prog 23 #[num lost] w fun e w' => e = .returned (num (absS lost)) ∧ w' = w) := fun w => abs_ok lost hlost w
  obtain ⟨A, hA⟩ : ∃ A : Nat, A = absS row := ⟨_, rfl⟩
  obtain ⟨B, hB⟩ : ∃ B : Nat, B = absS lost := ⟨_, rfl⟩
  rw [← hA] at HAb1 ha1
  rw [← hB] at HAb2 ha2
  have HSt : Hid _ := hst
  have HXl : Hid _ := hXlen
  have v0 : w6.cell? ⟨w.heap.size, 0, none⟩ = some (num S') := cell_at hst.box rfl
  have v1 : w6.cell? ⟨w.heap.size, 1, none⟩ = some (num N') := cell_at hst.box rfl
  have v2 : w6.cell? ⟨w.heap.size, 2, none⟩ = some (num 1) := cell_at hst.box rfl
  have M13 : (M : Int) ≤ 13 := by omega
  have A63 : (A : Int) ≤ 9223372036854775807 := by omega
  have B63 : (B : Int) ≤ 9223372036854775807 := by omega
  clear hst hXlen hM hA hB ha1 ha2 hrow hlost
  go_wp2_with (rw [HMw.out])
  refine (HAb1.out _).mono ?_
  rintro e w6 ⟨rfl, rfl⟩
  by_cases hn0 : n = 0
  · have e0 : (M : Int) < 2 := by have := HM.out; omega
    have HG : Hid _ := HSt.out.grown
    clear hn0
    go_wp2
    go_ret
    exact ⟨rfl, HG.out⟩
  · have e0 : ¬ (M : Int) < 2 := by have := HM.out; omega
    have hM := HM.out
    obtain ⟨p, hp⟩ : ∃ p, p = M - 1 - A % M := ⟨_, rfl⟩
    have hpn : p ≤ n := by omega
    have HNew : Hid (Calls Try.prog 18 #[layV S' N' 1, num A, num M] w6 (NewPost w6 S' N' M p X)) := by
      rw [hp]; exact New_ok w6 X HGd.out.1 A63 (by omega) (by omega)
    obtain ⟨gl, ol, rfl, _, _, _, hat⟩ := HSt.out.leaves.at (k := 0) (by omega)
    obtain ⟨s, b, hsb⟩ := LeavesM.chosen hat
    have HSb : Hid _ := hsb
    have HPn : Hid (p ≤ n ∧ 0 < n) := ⟨hpn, by omega⟩
    clear hp hM hat hsb hn0 hpn
    go_wp2_with fail
    refine HNew.out.mono ?_
    rintro e w7 ⟨g, gs, gb, rfl, hg7, hgg, hO⟩
    have hpt := ptr_some g
    obtain ⟨w8, hw8⟩ : ∃ w8, w8 = w7.alloc (.cells (flat M (twoE (fun _ => nilS) fun _ => nilS)).toArray 32) := ⟨_, rfl⟩
    have hmk := make_leaves M (by omega) w7
    rw [← hw8] at hmk
    have hg78 : w7.grownBy w8 none := by rw [hw8]; exact World.grownBy_alloc w7 _ none
    have hR8 : RowA w8 w7.heap.size M (rowV p 0 s) (rowV p 0 b) := by rw [rowV_zero, rowV_zero, hw8]; exact heap_alloc_new w7 _
    have hg68 := grownBy_trans hg7 hg78
    have hO8 := hO.more hg78
    have HGa : Hid (g < w7.heap.size ∧ w6.heap.size ≤ g ∧ w6.heap.size ≤ w7.heap.size) := ⟨lt_of_heap hO.box, hgg, hg7.size⟩
    obtain ⟨ga, hga⟩ : ∃ ga, ga = w7.heap.size := ⟨_, rfl⟩
    rw [← hga] at hmk hR8 HGa
    have l2' : 0 ≤ (M : Int) := by omega
    clear hw8 hg7 hg78 hO hgg v0 v1 v2 hga
    go_wp2_with fail
    go_loopw [15] (fun i wr => ∃ k : Nat, k ≤ n ∧ i = num k ∧ w6.grownBy wr none ∧ (∃ gs gb, OpenM wr g S' N' M p k gs gb X) ∧ RowA wr ga M (rowV p k s) (rowV p k b)) (fun i _ => n - (intOf i).toNat)
    case atStart => exact ⟨0, Nat.zero_le _, rfl, hg68, ⟨_, _, hO8⟩, hR8⟩
    case round =>
      clear hg68 hO8 hR8 hmk hpt
      obtain ⟨k, hk, rfl, hg, ⟨gs1, gb1, hO⟩, hR⟩ := hrel
      by_cases hkn : k < n
      · have q1 : (k : Int) < (n : Int) := by omega
        obtain ⟨d1, d2, hLf⟩ := HSb.out k hkn
        obtain ⟨sa, sc, es, _⟩ := id hLf.sl
        obtain ⟨ba, bc, eb, _⟩ := id hLf.se
        have HEs : Hid (s k = .slice sa (X k).n sc ∧ b k = .slice ba (X k).m bc) := ⟨es, eb⟩
        rw [es] at d1
        rw [eb] at d2
        have d1' := (Kept.of_grown (K := All) hg).cell trivial d1
        have d2' := (Kept.of_grown (K := All) hg).cell trivial d2
        have HD : Hid (∀ wx, w6.grownBy wx none → wx.cell? ⟨gl, ol + k * 2, none⟩ = some (.slice sa (X k).n sc) ∧ wx.cell? ⟨gl, ol + k * 2 + 1, none⟩ = some (.slice ba (X k).m bc)) := fun wx hgx => ⟨(Kept.of_grown (K := All) hgx).cell trivial d1, (Kept.of_grown (K := All) hgx).cell trivial d2⟩
        have hSI : ∀ a, a < n → ∀ i, i < N' → SlotI ((X a).slot i) := fun a ha i hi => (HSb.out a ha).2.2.si i (by have := (HGd.out.2 a ha).n; omega)
        have hsm : May S' N' (sumS S' N' k X) := sum_may (fun a ha => hSI a (by omega)) fun a ha => HGd.out.2 a (by omega)
        have HAdd : Hid (Calls Try.prog 20 #[.pointer (some ⟨g, 0, none⟩), .agg #[.slice sa (X k).n sc, .slice ba (X k).m bc]] wr (AddPost wr g S' N' M p k X)) :=
          Add_ok hO HGd.out.1 (by omega) (by have := HM.out; omega) hsm (HGd.out.2 k hkn) (by
            have := hLf
            rw [es, eb] at this
            exact (this.more hg).sub fun _ _ => trivial)
        obtain ⟨Q, hQ⟩ : ∃ Q : Nat, Q = placeN p k := ⟨_, rfl⟩
        have hQM : Q < M := by have := HM.out; rw [hQ]; unfold placeN; split <;> omega
        have HNx : Hid ((fun i => if i = Q then s k else rowV p k s i) = rowV p (k + 1) s ∧ (fun i => if i = Q then b k else rowV p k b i) = rowV p (k + 1) b) := by
          rw [hQ]; exact ⟨rowV_next p k s, rowV_next p k b⟩
        have HQ : Hid (Q = placeN p k) := hQ
        have Hg : Hid _ := hg
        have HR : Hid (RowA wr ga M (rowV p k s) (rowV p k b)) := hR
        have Q0 : (0 : Int) ≤ (Q : Int) := by omega
        have Q1 : ¬ (M : Int) ≤ (Q : Int) := by omega
        have Q2 : (Q : Int) < (M : Int) := by omega
        have Q3 : ¬ (Q : Int) < 0 := by omega
        clear hQ es eb d1 d2 hLf hSI hsm hO hR hg
        go_wp2_with fail
        refine HAdd.out.mono ?_
        rintro e wa ⟨gs2, gb2, rfl, hga2, hO2⟩
        rw [← HQ.out]
        have hg6a : w6.grownBy wa none := grown_new Hg.out hga2 HGa.out.2.1
        have hRa : RowA wa ga M (rowV p k s) (rowV p k b) := HR.out.same (hga2.block ga HR.out.lt (fun e => by have := Option.some.inj e; have := HGa.out; omega))
        obtain ⟨r1, r2, f1, f2⟩ := hRa.at hQM
        obtain ⟨c1, c2⟩ := HD.out wa hg6a
        have HX : Hid (∀ wx, wx = (wa.setCell ⟨ga, Q * 2, none⟩ (.slice sa (X k).n sc)).setCell ⟨ga, Q * 2 + 1, none⟩ (.slice ba (X k).m bc) → w6.grownBy wx none ∧ (∃ gs gb, OpenM wx g S' N' M p (k + 1) gs gb X) ∧ RowA wx ga M (rowV p (k + 1) s) (rowV p (k + 1) b)) := fun wx hx => by
          subst hx
          have hs := hRa.set hQM (.slice sa (X k).n sc) (.slice ba (X k).m bc)
          rw [← HEs.out.1, ← HEs.out.2, HNx.out.1, HNx.out.2] at hs
          rw [HEs.out.1, HEs.out.2] at hs
          exact ⟨grownBy_set (grownBy_set hg6a HGa.out.2.2 _) HGa.out.2.2 _, ⟨_, _, hO2.setRow hRa fun b hb => by rw [setCell_else hb, setCell_else hb]⟩, hs⟩
        generalize rowV p k s Q = OS at r1
        generalize rowV p k b Q = OB at r2
        clear hRa hO2 hga2 hg6a d1' d2'
        go_wp2
        go_roundw
        case rel => exact ⟨k + 1, by omega, by go_num, HX.out _ rfl⟩
        case measure => simp [intOf]; omega
      · obtain rfl : k = n := by omega
        have q1 : ¬ (k : Int) < (k : Int) := by omega
        have HM' := HM.out
        have hpk := HPn.out.1
        have hSI : ∀ a, a < k → ∀ i, i < N' → SlotI ((X a).slot i) := fun a ha i hi => (HSb.out a ha).2.2.si i (by have := (HGd.out.2 a ha).n; omega)
        have hsm : May S' N' (sumS S' N' k X) := sum_may hSI HGd.out.2
        have HPa : Hid (Calls Try.prog 22 #[.pointer (some ⟨g, 0, none⟩)] wr (ParPost wr S' N' p k X)) := parity_ok hO HGd.out.1 (by omega) hsm
        have hrz := rowZ_may (S := S') (N := N') (n := k) (p := p) (X := X) HGd.out.2 hsm hpk HXl.out
        have HRz : Hid _ := hrz
        have Hg : Hid _ := hg
        have HR : Hid (RowA wr ga M (rowV p k s) (rowV p k b)) := hR
        have pM : p < M := by omega
        have P0 : (0 : Int) ≤ (p : Int) := by omega
        have P1 : ¬ (M : Int) ≤ (p : Int) := by omega
        have P2 : (p : Int) < (M : Int) := by omega
        have P3 : ¬ (p : Int) < 0 := by omega
        obtain ⟨L, hL⟩ : ∃ L, L = B % M := ⟨_, rfl⟩
        have HLm : Hid ((B : Int) % (M : Int) = (L : Int)) := by rw [Hid, hL]; simp
        have lM : L < M := by rw [hL]; exact Nat.mod_lt _ (by omega)
        have L0 : (0 : Int) ≤ (L : Int) := by omega
        have L2 : (L : Int) < (M : Int) := by omega
        have M1 : (1 : Int) ≤ (M : Int) := by omega
        clear hg hR hO hSI hsm hrz hpk HM' hL
        go_wp2_with fail
        refine HPa.out.mono ?_
        rintro e wp ⟨gs3, gb3, rfl, hgp, hlp⟩
        obtain ⟨wq, hwq⟩ : ∃ wq, wq = wp.alloc (leafL (sl0 gs3 N') (sl0 gb3 N')) := ⟨_, rfl⟩
        have hgpq : wp.grownBy wq none := by rw [hwq]; exact World.grownBy_alloc wp _ none
        have hbq : wq.heap[wp.heap.size]? = some (leafL (sl0 gs3 N') (sl0 gb3 N')) := by rw [hwq]; exact heap_alloc_new wp _
        have hgrq := grownBy_trans hgp hgpq
        have hg6q := grownBy_trans Hg.out hgrq
        have hRq : RowA wq ga M (rowV p k s) (rowV p k b) := HR.out.same (hgrq.block ga HR.out.lt (by simp))
        have hlq := hlp.growN hgpq
        obtain ⟨r1, r2, f1, f2⟩ := hRq.at pM
        rw [rowV_p] at r1 r2
        have c0 : wq.cell? ⟨wp.heap.size, 0, none⟩ = some (sl0 gs3 N') := cell_at hbq rfl
        have c1 : wq.cell? ⟨wp.heap.size, 1, none⟩ = some (sl0 gb3 N') := cell_at hbq rfl
        obtain ⟨wv, hwv⟩ : ∃ wv, wv = (wq.setCell ⟨ga, p * 2, none⟩ (sl0 gs3 N')).setCell ⟨ga, p * 2 + 1, none⟩ (sl0 gb3 N') := ⟨_, rfl⟩
        have hsame : ∀ b', b' ≠ ga → wv.heap[b']? = wq.heap[b']? := fun b' hb => by rw [hwv, setCell_else hb, setCell_else hb]
        have hg6v : w6.grownBy wv none := by rw [hwv]; exact grownBy_set (grownBy_set hg6q HGa.out.2.2 _) HGa.out.2.2 _
        have hRv : RowA wv ga M (fun i => if i = p then sl0 gs3 N' else rowV p k s i) (fun i => if i = p then sl0 gb3 N' else rowV p k b i) := by rw [hwv]; exact hRq.set pM _ _
        have hall : ∀ j, j < M → LeafM wv (fun b' => b' ≠ ga) (if j = p then sl0 gs3 N' else rowV p k s j) (if j = p then sl0 gb3 N' else rowV p k b j) (rowZ S' N' k p X j) := fun j hj => by
          have hMk := HM.out
          by_cases e : j = p
          · rw [if_pos e, if_pos e]
            have e2 : rowZ S' N' k p X j = sumS S' N' k X := by unfold rowZ; rw [if_pos e]
            rw [e2]
            exact (hlq.setRow hRq hsame).sub fun b' hb => kt_ne hb hRv
          · rw [if_neg e, if_neg e, rowV_all s (by omega) HPn.out.1 e, rowV_all b (by omega) HPn.out.1 e, rowZ_idx e]
            have hi : idx p j = j ∧ j < p ∨ idx p j = j - 1 ∧ p < j := by unfold idx; split <;> omega
            have := HPn.out.1
            exact ((HSb.out (idx p j) (by omega)).2.2.more hg6v).sub fun b' hb => by have := hb.2; have := HGa.out; omega
        obtain ⟨zs, hzs⟩ : ∃ zs : Nat → Value, zs = fun i => if i = p then sl0 gs3 N' else rowV p k s i := ⟨_, rfl⟩
        obtain ⟨zb, hzb⟩ : ∃ zb : Nat → Value, zb = fun i => if i = p then sl0 gb3 N' else rowV p k b i := ⟨_, rfl⟩
        have hall2 : ∀ j, j < M → LeafM wv (fun b' => b' ≠ ga) (zs j) (zb j) (rowZ S' N' k p X j) := fun j hj => by rw [hzs, hzb]; exact hall j hj
        rw [← hzs, ← hzb] at hRv
        have HRv : Hid (RowA wv ga M zs zb) := hRv
        have HAll : Hid _ := hall2
        have Hg6v : Hid _ := hg6v
        have Hwq : Hid _ := hwq
        have Hwv : Hid _ := hwv
        have hlt : wp.heap.size < wq.heap.size := lt_of_heap hbq
        have hgaq := hRq.lt
        have hgne : ga ≠ wp.heap.size := by have := HR.out.lt; have := hgp.size; omega
        clear hall hall2 hRv hzs hzb hg6v hsame hlq hRq hg6q hgrq hbq hgpq hwq hwv hlp hgp HPa
        go_upto_region 25 with (rw [← Hwq.out])
        rw [← Hwv.out]
        clear r1 r2 f1 f2 c0 c1 Hwv Hwq hlt hgaq hgne
        go_wp2_with fail
        refine (HAb2.out _).mono ?_
        rintro e wv ⟨rfl, rfl⟩
        obtain ⟨sa, sc, es, _⟩ := id (HAll.out L lM).sl
        obtain ⟨ba, bc, eb, _⟩ := id (HAll.out L lM).se
        obtain ⟨r1, r2, _, _⟩ := HRv.out.at lM
        rw [es] at r1
        rw [eb] at r2
        obtain ⟨wa, hwa⟩ : ∃ wa, wa = wv.alloc (leafL (.slice sa (rowZ S' N' k p X L).n sc) (.slice ba (rowZ S' N' k p X L).m bc)) := ⟨_, rfl⟩
        have hgva : wv.grownBy wa none := by rw [hwa]; exact World.grownBy_alloc wv _ none
        have hba : wa.heap[wv.heap.size]? = some (leafL (.slice sa (rowZ S' N' k p X L).n sc) (.slice ba (rowZ S' N' k p X L).m bc)) := by rw [hwa]; exact heap_alloc_new wv _
        have hRa : RowA wa ga M zs zb := HRv.out.same (hgva.block ga HRv.out.lt (by simp))
        obtain ⟨r3, r4, f3, f4⟩ := hRa.at lM
        rw [es] at r3
        rw [eb] at r4
        obtain ⟨wb, hwb⟩ : ∃ wb, wb = (wa.setCell ⟨ga, L * 2, none⟩ nilS).setCell ⟨ga, L * 2 + 1, none⟩ nilS := ⟨_, rfl⟩
        have hg6b : w6.grownBy wb none := by rw [hwb]; exact grownBy_set (grownBy_set (grownBy_trans Hg6v.out hgva) HGa.out.2.2 _) HGa.out.2.2 _
        have hsame : ∀ b', b' ≠ ga → wb.heap[b']? = wa.heap[b']? := fun b' hb => by rw [hwb, setCell_else hb, setCell_else hb]
        have hgav : ga < wv.heap.size := HRv.out.lt
        have hbb := (hsame wv.heap.size (by omega)).trans hba
        have hRb : RowA wb ga M (fun i => if i = L then nilS else zs i) (fun i => if i = L then nilS else zb i) := by rw [hwb]; exact hRa.set lM _ _
        have hkeep : ∀ {sv bv : Value} {x : Leaf}, LeafM wv (fun b' => b' ≠ ga) sv bv x → LeafM wb All sv bv x := fun h => ((h.more hgva).kept fun b' hb _ => hsame b' hb).sub fun _ _ => trivial
        obtain ⟨Z, hZ⟩ : ∃ Z : Nat → Leaf, Z = fun j => if j = L then ⟨0, fun _ => ⟨0, 0, 0⟩, 0, fun _ => []⟩ else rowZ S' N' k p X j := ⟨_, rfl⟩
        have hLv : LeavesM wb All (.slice (some ⟨ga, 0, none⟩) M M) M Z := hRb.leaves (by omega) fun j hj => by
          rw [hZ]
          by_cases e : j = L
          · simp only [e, if_pos]; exact leaf0_nil wb
          · simp only [if_neg e]; exact hkeep (HAll.out j hj)
        have hMk := HM.out
        have hMg : MendGood S' N' M Z L := ⟨by omega, by omega, by have := HPn.out.2; omega, HGd.out.1, fun a ha => by
          have hx : others Z ((L : Int).toNat) a = rowZ S' N' k p X (if a < L then a else a + 1) := by
            unfold others
            rw [Int.toNat_natCast, hZ]
            by_cases e : a < L
            · simp only [if_pos e]; rw [if_neg (by omega)]
            · simp only [if_neg e]; rw [if_neg (by omega)]
          rw [hx]
          exact (HRz.out _ (by split <;> omega)).1⟩
        have HEq : Hid (LeafEq (MendS S' N' M Z L) (rowZ S' N' k p X L)) := by
          have h := mend_eq (S := S') (N := N') (n := k) (p := p) (m := L) (X := X) (Z := Z) (by have := HGd.out.1; unfold LayMay at this; omega) HPn.out.1 (by omega) (fun j hj => HRz.out j (by omega)) (fun j hj e => by rw [hZ]; simp only [if_neg e])
          have e1 : MendS S' N' M Z L = sumS S' N' k (others Z L) := by
            simp only [MendS, Int.toNat_natCast]
            rw [show M - 1 = k by omega]
          rw [Hid, e1]
          exact h
        have HMd : Hid (Calls Try.prog 14 #[layV S' N' 1, .slice (some ⟨ga, 0, none⟩) M M, num L] wb fun e w' => ∃ a1 n1 k1 a2 n2 k2, e = .returned (.tuple #[.agg #[.slice a1 n1 k1, .slice a2 n2 k2], num 0]) ∧ wb.grownBy w' none ∧ LeafM w' All (.slice a1 n1 k1) (.slice a2 n2 k2) (MendS S' N' M Z L)) := by
          refine (mend_ok hLv (by omega) S' N' 1 L).mono ?_
          rintro e w' ⟨a1, n1, k1, a2, n2, k2, er, rfl, hgm, h⟩
          rcases h with ⟨_, rfl, B', hl⟩ | ⟨h, _⟩
          · exact ⟨a1, n1, k1, a2, n2, k2, rfl, hgm, hl.sub fun _ _ => trivial⟩
          · exact absurd hMg h
        have HWas : Hid (LeafM wb All (.slice sa (rowZ S' N' k p X L).n sc) (.slice ba (rowZ S' N' k p X L).m bc) (rowZ S' N' k p X L)) := by
          have := hkeep (HAll.out L lM)
          rw [es, eb] at this
          exact this
        have hbl := (hg6b.block _ (lt_of_heap HSt.out.box) (by simp)).trans HSt.out.box
        have v0 : wb.cell? ⟨w.heap.size, 0, none⟩ = some (num S') := cell_at hbl rfl
        have v1 : wb.cell? ⟨w.heap.size, 1, none⟩ = some (num N') := cell_at hbl rfl
        have v2 : wb.cell? ⟨w.heap.size, 2, none⟩ = some (num 1) := cell_at hbl rfl
        have Hwa : Hid _ := hwa
        have Hwb : Hid _ := hwb
        have Hbb : Hid (wb.heap[wv.heap.size]? = some (leafL (.slice sa (rowZ S' N' k p X L).n sc) (.slice ba (rowZ S' N' k p X L).m bc))) := hbb
        have HG6b : Hid _ := grownBy_trans HSt.out.grown hg6b
        clear hMk hZ hLv hMg hkeep hRb hbb hsame hg6b hRa hgva hwa hwb hba hbl es eb HAll HRv
        generalize rowZ S' N' k p X L = R at *
        go_upto_region 28 with (first | (rw [HLm.out]) | (rw [← Hwa.out]))
        rw [← Hwb.out]
        clear r1 r2 r3 r4 f3 f4 Hwa Hwb
        go_wp2_with fail
        refine HMd.out.mono ?_
        rintro e wm ⟨a1, n1, k1, a2, n2, k2, rfl, hgm, hlm⟩
        obtain ⟨wn, hwn⟩ : ∃ wn, wn = wm.alloc (leafL (.slice a1 n1 k1) (.slice a2 n2 k2)) := ⟨_, rfl⟩
        have hgmn : wm.grownBy wn none := by rw [hwn]; exact World.grownBy_alloc wm _ none
        have hbn : wn.heap[wm.heap.size]? = some (leafL (.slice a1 n1 k1) (.slice a2 n2 k2)) := by rw [hwn]; exact heap_alloc_new wm _
        have hgbn := grownBy_trans hgm hgmn
        have hbo := (hgbn.block _ (lt_of_heap Hbb.out) (by simp)).trans Hbb.out
        have c0 : wn.cell? ⟨wm.heap.size, 0, none⟩ = some (.slice a1 n1 k1) := cell_at hbn rfl
        have c1 : wn.cell? ⟨wm.heap.size, 1, none⟩ = some (.slice a2 n2 k2) := cell_at hbn rfl
        have c2 : wn.cell? ⟨wv.heap.size, 0, none⟩ = some (.slice sa R.n sc) := cell_at hbo rfl
        have c3 : wn.cell? ⟨wv.heap.size, 1, none⟩ = some (.slice ba R.m bc) := cell_at hbo rfl
        have HSame : Hid (Calls Try.prog 16 #[.agg #[.slice a1 n1 k1, .slice a2 n2 k2], .agg #[.slice sa R.n sc, .slice ba R.m bc]] wn fun e w' => e = .returned (.bool true) ∧ wn.grownBy w' none) := same_ok (hlm.more hgmn) (HWas.out.more hgbn) HEq.out
        have HGn : Hid (w.grownBy wn none) := grownBy_trans HG6b.out hgbn
        have Hwn : Hid _ := hwn
        clear hwn hgmn hbn hgbn hbo hgm hlm v0 v1 v2
        go_wp2_with (rw [← Hwn.out])
        refine HSame.out.mono ?_
        rintro e wz ⟨rfl, hgz⟩
        have HGz : Hid _ := grownBy_trans HGn.out hgz
        clear hgz c0 c1 c2 c3
        go_wp2
        go_ret
        exact ⟨rfl, HGz.out⟩
end Sp
end Go.Proofs.Ytjokedggmhiklaa
