/- The walk of StripeTurned. -/
import Derived.Test.YtjokedggmhiklaaSp
namespace Go.Proofs.Ytjokedggmhiklaa
open Go.ChangeShapes Go.WideShapes Go.ChangeAt Go.RowKit Go.Maps
namespace Sp
/-- What holds behind small and right: the layout's box, the leaves. -/
structure Start (w w6 : World) (S N n : Nat) (lv : Value) (X : Nat → Leaf) : Prop where
  grown : w.grownBy w6 none
  box : w6.heap[w.heap.size]? = some (layL S N 1)
  leaves : LeavesM w6 (Lo All w6.heap.size) lv n X
set_option maxHeartbeats 12800000 in
set_option maxRecDepth 4000 in
theorem law_StripeTurned (S N T : Int) (hS : I64 S) (hN : I64 N) (_hT : I64 T) (ao : Option Addr) (len cap : Nat) (xs : Nat → Leaf) {w : World} (hx : LeavesM w All (.slice ao len cap) len xs) (turn : Int) (hturn : I64 turn) :
    Calls Try.prog 7 #[layV S N T, .slice ao len cap, num turn] w fun e w' => e = .returned (.bool true) ∧ w.grownBy w' none := by
  have hnn := hnot
  obtain ⟨i32, hi, hz0, hz1, hz2⟩ := info_parts info32
  obtain ⟨W, hW⟩ : ∃ W, W = w.alloc (layL S N T) := ⟨_, rfl⟩
  have hgW : w.grownBy W none := by rw [hW]; exact World.grownBy_alloc w _ none
  have hb1 : W.heap[w.heap.size]? = some (layL S N T) := by rw [hW]; exact heap_alloc_new w _
  have Hw : Hid _ := hW
  have HSm : Hid (∀ w, Calls Try.prog 17 #[layV S N T] w fun e w' => e = .returned (layV (smallSec S) (smallSl N) 1) ∧ w.grownBy w' none) := fun w => small_ok S N T hS hN w
  have HAw : Hid (∀ w, Calls Try.prog 9 #[] w fun e w' => e = .returned (.bool true) ∧ w.grownBy w' none) := awake_ok
  have hGd := right_good (S := S) (N := N) (leaves_si hx)
  obtain ⟨S', hS'⟩ : ∃ S', S' = smallSec S := ⟨_, rfl⟩
  obtain ⟨N', hN'⟩ : ∃ N', N' = smallSl N := ⟨_, rfl⟩
  rw [← hS', ← hN'] at HSm hGd
  have s1 : 1 ≤ S' ∧ S' ≤ 9 := by rw [hS']; unfold smallSec; omega
  have s2 : 1 ≤ N' ∧ N' ≤ 4 := by rw [hN']; unfold smallSl; omega
  obtain ⟨n, hn⟩ : ∃ n, n = min len 12 := ⟨_, rfl⟩
  have n12 : n ≤ 12 := by omega
  rw [← hn] at hGd
  have HGd : Hid _ := hGd
  clear hS' hN' hW hS hN hGd
  go_enter Try.func7, Try.ntmps7
  go_wp2_with (rw [← Hw.out])
  refine (HAw.out _).mono ?_
  rintro e w1 ⟨rfl, hg1⟩
  have hb2 := (hg1.block _ (lt_of_heap hb1) (by simp)).trans hb1
  have c0 : w1.cell? ⟨w.heap.size, 0, none⟩ = some (num S) := cell_at hb2 rfl
  have c1 : w1.cell? ⟨w.heap.size, 1, none⟩ = some (num N) := cell_at hb2 rfl
  have c2 : w1.cell? ⟨w.heap.size, 2, none⟩ = some (num T) := cell_at hb2 rfl
  go_wp2_with fail
  refine (HSm.out _).mono ?_
  rintro e w2 ⟨rfl, hg2⟩
  have hb3 := (hg2.block _ (lt_of_heap hb2) (by simp)).trans hb2
  have hgw2 := grownBy_trans hgW (grownBy_trans hg1 hg2)
  clear c0 c1 c2
  have c0 : w2.cell? ⟨w.heap.size, 0, none⟩ = some (num S) := cell_at hb3 rfl
  have c1 : w2.cell? ⟨w.heap.size, 1, none⟩ = some (num N) := cell_at hb3 rfl
  have c2 : w2.cell? ⟨w.heap.size, 2, none⟩ = some (num T) := cell_at hb3 rfl
  have f0 : w2.frozen? ⟨w.heap.size, 0, none⟩ = false := free_at hb3
  have f1 : w2.frozen? ⟨w.heap.size, 1, none⟩ = false := free_at hb3
  have f2 : w2.frozen? ⟨w.heap.size, 2, none⟩ = false := free_at hb3
  obtain ⟨V, hV⟩ : ∃ V, V = ((w2.setCell ⟨w.heap.size, 0, none⟩ (num S')).setCell ⟨w.heap.size, 1, none⟩ (num N')).setCell ⟨w.heap.size, 2, none⟩ (num 1) := ⟨_, rfl⟩
  have hgV : w.grownBy V none := by rw [hV]; exact grownBy_set (grownBy_set (grownBy_set hgw2 (Nat.le_refl _) _) (Nat.le_refl _) _) (Nat.le_refl _) _
  have hbV : V.heap[w.heap.size]? = some (layL S' N' 1) := by
    rw [hV]
    exact setCell_row (L := [num S', num N', num T]) (i := 2) (setCell_row (L := [num S', num N, num T]) (i := 1) (setCell_row (L := [num S, num N, num T]) (i := 0) hb3 _) _) _
  have hxV := hx.more hgV
  have HR : Hid (Calls Try.prog 19 #[layV S' N' 1, .slice ao len cap] V (RightPost V S' N' len xs)) := right_ok hxV S' N' (by omega) (by omega) (by omega) 1
  have v0 : V.cell? ⟨w.heap.size, 0, none⟩ = some (num S') := cell_at hbV rfl
  have v1 : V.cell? ⟨w.heap.size, 1, none⟩ = some (num N') := cell_at hbV rfl
  have v2 : V.cell? ⟨w.heap.size, 2, none⟩ = some (num 1) := cell_at hbV rfl
  have Hv : Hid _ := hV
  clear hV hb1 hb2 hb3 hg1 hg2 hgw2 hgW hxV
  go_wp2_with (rw [← Hv.out])
  refine HR.out.mono ?_
  rintro e w6 ⟨lv, rfl, hg6, hlv⟩
  rw [← hn] at hlv
  have hst : Start w w6 S' N' n lv (rightS S' N' xs) := ⟨grownBy_trans hgV hg6, (hg6.block _ (lt_of_heap hbV) (by simp)).trans hbV, (hlv.sub fun _ _ => trivial).lo⟩
  obtain ⟨la, lc, rfl, l1, l2, _⟩ := id hlv
  generalize rightS S' N' xs = X at hst HGd
  have n12' : (n : Int) ≤ 12 := by omega
  clear hlv hg6 hgV hbV HR v0 v1 v2 c0 c1 c2 f0 f1 f2 Hv hn
  by_cases hn0 : n = 0
  · have e0 : ((n : Int) == 0) = true := by simp; omega
    have HG : Hid _ := hst.grown
    clear hst
    go_wp2
    go_ret
    exact ⟨rfl, HG.out⟩
  · have e0 : ((n : Int) == 0) = false := by simp; omega
    have HAb : Hid (∀ w, Calls Try.prog 23 #[num turn] w fun e w' => e = .returned (num (absS turn)) ∧ w' = w) := fun w => abs_ok turn hturn w
    have ha := absS_le hturn
    obtain ⟨t, ht⟩ : ∃ t, t = absS turn % n := ⟨_, rfl⟩
    have htn : t < n := by rw [ht]; exact Nat.mod_lt _ (by omega)
    obtain ⟨A, hA⟩ : ∃ A : Nat, A = absS turn := ⟨_, rfl⟩
    rw [← hA] at HAb ha ht
    have HT : Hid ((A : Int) % (n : Int) = (t : Int)) := by rw [Hid, ht]; simp
    have a1 : (A : Int) ≤ 9223372036854775807 := by omega
    have n1 : (1 : Int) ≤ (n : Int) := by omega
    have t1 : (t : Int) < (n : Int) := by omega
    have t1' : t < n := htn
    have HSt : Hid _ := hst
    clear hst hA ht ha hturn hn0
    go_wp2_with fail
    refine (HAb.out _).mono ?_
    rintro e w6 ⟨rfl, rfl⟩
    go_wp2_with (rw [HT.out])
    go_loopw [10, 11] (fun o i wr => ∃ (k : Nat) (s b : Nat → Value), k ≤ n ∧ i = num k ∧ w6.grownBy wr none ∧ wr.ownsRow w6.heap.size 32 2 o k (flat k (twoE s b)) ∧ ∀ a, a < k → LeafM w6 All (s a) (b a) (X ((a + t) % n))) (fun _ i _ => n - (intOf i).toNat)
    case atStart => exact ⟨0, fun _ => nilS, fun _ => nilS, Nat.zero_le _, rfl, grownBy_refl _ _, World.ownsRow_nil _ _ _ _, fun a ha => by omega⟩
    case round =>
      obtain ⟨k, s, b, hk, rfl, hg, hown, hall⟩ := hrel
      by_cases hkn : k < n
      · have q1 : (k : Int) < (n : Int) := by omega
        obtain ⟨j, hj⟩ : ∃ j, j = (k + t) % n := ⟨_, rfl⟩
        have hjn : j < n := by rw [hj]; exact Nat.mod_lt _ (by omega)
        have HJ : Hid (((k : Int) + (t : Int)) % (n : Int) = (j : Int)) := by rw [Hid, hj]; simp
        have j1 : (j : Int) < (n : Int) := by omega
        obtain ⟨g, off, rfl, _, _, _, hat⟩ := HSt.out.leaves.at hjn
        obtain ⟨sv, bv, d1, d2, hLf⟩ := hat j hjn
        obtain ⟨sa, sc, rfl, _, _, _⟩ := id hLf.sl
        obtain ⟨ba, bc, rfl, _, _, _⟩ := id hLf.se
        have hkp := Kept.of_grown (K := All) hg
        have d1' := hkp.cell trivial d1
        have d2' := hkp.cell trivial d2
        obtain ⟨V6, hV6⟩ : ∃ V6, V6 = wr.alloc (leafL (.slice sa (X j).n sc) (.slice ba (X j).m bc)) := ⟨_, rfl⟩
        have hgV6 : wr.grownBy V6 none := by rw [hV6]; exact World.grownBy_alloc wr _ none
        have HNe6 : Hid (∀ y z, [Value.slice sa (X j).n sc, Value.slice ba (X j).m bc][y]? = some z → V6.cell? ((⟨wr.heap.size, 0, none⟩ : Addr).add y) = some z) := by rw [hV6]; exact cell_two' wr _ _ _
        have HO6 : Hid _ := own_more hown hgV6
        have hg66 := grownBy_trans hg hgV6
        have HSz6 : Hid (w6.heap.size ≤ V6.heap.size) := hg66.size
        have HAll : Hid (∀ (v' : Value) (w1 : World), V6.grownBy w1 u10.ownBlock → w1.ownsRow w6.heap.size 32 2 v' (k + 1) (flat k (twoE s b) ++ [Value.slice sa (X j).n sc, Value.slice ba (X j).m bc]) → ∃ (s' b' : Nat → Value), w6.grownBy w1 none ∧ w1.ownsRow w6.heap.size 32 2 v' (k + 1) (flat (k + 1) (twoE s' b')) ∧ ∀ a, a < k + 1 → LeafM w6 All (s' a) (b' a) (X ((a + t) % n))) := fun v' w1 hg1 ho1 => by
          refine ⟨fun a => if a = k then .slice sa (X j).n sc else s a, fun a => if a = k then .slice ba (X j).m bc else b a, own_grown HO6.out hg66 (Nat.le_refl _) hg1, ?_, fun a ha => ?_⟩
          · rw [flat_succ, flat_congr k (E' := twoE s b) fun a ha => by simp [twoE, show a ≠ k by omega]]
            simpa [twoE] using ho1
          · by_cases e : a = k
            · subst e
              simp only [if_pos]
              rw [← hj]
              exact hLf.sub fun _ _ => trivial
            · simp only [if_neg e]
              exact hall a (by omega)
        have Hv6 : Hid _ := hV6
        have k1 : k + 1 ≤ 13 := by omega
        clear hV6 hgV6 hg66 hg hall hat hLf d1 d2 hkp hj hown
        go_upto_region 13 with (first | (rw [HJ.out]) | (rw [← Hv6.out]) | (at_builtin; refine wpList_append_own _ rfl (.tmp 39) (.tmp 48) 28 rfl w6.heap.size 32 i32 (.agg #[nilS, nilS]) 2 48 Try.underlying28 hi hz0 hz1 hz2 rfl (by decide) u10 k (flat k (twoE s b)) rfl HO6.out ⟨wr.heap.size, 0, none⟩ 1 1 [Value.slice sa (X j).n sc, Value.slice ba (X j).m bc] rfl rfl HNe6.out (by intro z hz; simp at hz; rcases hz with rfl | rfl <;> rfl) (by unfold maxLen; omega) (by omega) HSz6.out ?_; intro v7 w7 ho7 hg7 _))
        obtain ⟨s', b', r1, r2, r3⟩ := HAll.out v7 w7 hg7 ho7
        have HR1 : Hid _ := r1
        have HR2 : Hid _ := r2
        have HR3 : Hid _ := r3
        clear ho7 hg7 HAll r1 r2 r3 HO6 HSz6 HNe6
        go_wp2
        go_roundw
        case rel => exact ⟨k + 1, s', b', by omega, by go_num, HR1.out, HR2.out, HR3.out⟩
        case measure => simp [intOf]; omega
      · obtain rfl : k = n := by omega
        have q1 : ¬ (k : Int) < (k : Int) := by omega
        have HG7 : Hid _ := hg
        have HO7 : Hid _ := hown
        have HA7 : Hid _ := hall
        have hlv := HSt.out.leaves.more hg
        have hbx := (hg.block _ (lt_of_heap HSt.out.box) (by simp)).trans HSt.out.box
        have HSum1 : Hid (Calls Try.prog 12 #[layV S' N' 1, .slice la k lc] wr (SumYes wr S' N' k X)) := sum_yes hlv (by omega) S' N' 1 HGd.out
        have v0 : wr.cell? ⟨w.heap.size, 0, none⟩ = some (num S') := cell_at hbx rfl
        have v1 : wr.cell? ⟨w.heap.size, 1, none⟩ = some (num N') := cell_at hbx rfl
        have v2 : wr.cell? ⟨w.heap.size, 2, none⟩ = some (num 1) := cell_at hbx rfl
        have HBx : Hid _ := hbx
        obtain ⟨oa, oc, rfl, _, _⟩ := own_len hown
        clear hg hown hall hlv hbx
        go_wp2_with fail
        refine HSum1.out.mono ?_
        rintro e w8 ⟨gs, gb, gk, rfl, hg8, hO8⟩
        have hL8 := hO8.leafT (by omega) (by omega)
        obtain ⟨w9, hw9⟩ : ∃ w9, w9 = w8.alloc (leafL (sl0 gs N') (sl0 gb N')) := ⟨_, rfl⟩
        have hg89 : w8.grownBy w9 none := by rw [hw9]; exact World.grownBy_alloc w8 _ none
        have hbA : w9.heap[w8.heap.size]? = some (leafL (sl0 gs N') (sl0 gb N')) := by rw [hw9]; exact heap_alloc_new w8 _
        have hg79 := grownBy_trans hg8 hg89
        have hg69 := grownBy_trans HG7.out hg79
        have hL9 := hL8.growN hg89
        have hO9 := own_more HO7.out hg79
        have hbx9 := (hg79.block _ (lt_of_heap HBx.out) (by simp)).trans HBx.out
        have hT9 : LeavesM w9 All (.slice oa k oc) k (fun a => X ((a + t) % k)) := leaves_of_own hO9 (fun _ _ _ _ => trivial) fun a ha => (HA7.out a ha).more hg69
        have HGd2 : Hid (Good S' N' k (fun a => X ((a + t) % k))) := ⟨HGd.out.1, fun a ha => HGd.out.2 _ (Nat.mod_lt _ (by omega))⟩
        have HSum2 : Hid (Calls Try.prog 12 #[layV S' N' 1, .slice oa k oc] w9 (SumYes w9 S' N' k (fun a => X ((a + t) % k)))) := sum_yes hT9 (by omega) S' N' 1 HGd2.out
        clear v0 v1 v2
        have v0 : w9.cell? ⟨w.heap.size, 0, none⟩ = some (num S') := cell_at hbx9 rfl
        have v1 : w9.cell? ⟨w.heap.size, 1, none⟩ = some (num N') := cell_at hbx9 rfl
        have v2 : w9.cell? ⟨w.heap.size, 2, none⟩ = some (num 1) := cell_at hbx9 rfl
        have Hw9 : Hid _ := hw9
        have Hb9 : Hid (w8.heap.size < w9.heap.size ∧ wr.heap.size ≤ w8.heap.size) := ⟨lt_of_heap hbA, hg8.size⟩
        clear HSum1 hL8 hw9 hg8 hO8 hT9
        go_wp2_with (rw [← Hw9.out])
        refine HSum2.out.mono ?_
        rintro e wa ⟨gs2, gb2, gk2, rfl, hga, hOa⟩
        have hLa2 := hOa.leafT (by omega) (by omega)
        obtain ⟨wb, hwb⟩ : ∃ wb, wb = wa.alloc (leafL (sl0 gs2 N') (sl0 gb2 N')) := ⟨_, rfl⟩
        have hgab : wa.grownBy wb none := by rw [hwb]; exact World.grownBy_alloc wa _ none
        have hbB : wb.heap[wa.heap.size]? = some (leafL (sl0 gs2 N') (sl0 gb2 N')) := by rw [hwb]; exact heap_alloc_new wa _
        have hg9b := grownBy_trans hga hgab
        have hbA2 := (hg9b.block _ (lt_of_heap hbA) (by simp)).trans hbA
        have hLb1 := hL9.growN hg9b
        have hLb2 := hLa2.growN hgab
        have hOb := own_more hO9 hg9b
        have hg6b := grownBy_trans hg69 hg9b
        have hbxb := (hg9b.block _ (lt_of_heap hbx9) (by simp)).trans hbx9
        obtain ⟨g, off, rfl, _, _, _, hat⟩ := HSt.out.leaves.at t1'
        obtain ⟨sv, bv, d1, d2, hLf⟩ := hat t t1'
        obtain ⟨sa, sc, rfl, _, _, _⟩ := id hLf.sl
        obtain ⟨ba, bc, rfl, _, _, _⟩ := id hLf.se
        have d1' := (Kept.of_grown (K := All) hg6b).cell trivial d1
        have d2' := (Kept.of_grown (K := All) hg6b).cell trivial d2
        obtain ⟨Vb, hVb⟩ : ∃ Vb, Vb = wb.alloc (leafL (.slice sa (X t).n sc) (.slice ba (X t).m bc)) := ⟨_, rfl⟩
        have hgVb : wb.grownBy Vb none := by rw [hVb]; exact World.grownBy_alloc wb _ none
        have HNeb : Hid (∀ y z, [Value.slice sa (X t).n sc, Value.slice ba (X t).m bc][y]? = some z → Vb.cell? ((⟨wb.heap.size, 0, none⟩ : Addr).add y) = some z) := by rw [hVb]; exact cell_two' wb _ _ _
        have HOb : Hid _ := own_more hOb hgVb
        have hg6V := grownBy_trans hg6b hgVb
        have HSzb : Hid (w6.heap.size ≤ Vb.heap.size) := hg6V.size
        have Hwb : Hid _ := hwb
        have HVb : Hid _ := hVb
        have hga9 := hga
        clear HSum2 v0 v1 v2 hwb hVb hga hOa
        go_upto_region 18 with (first | (rw [← Hwb.out]) | (rw [← HVb.out]) | (at_builtin; refine wpList_append_own _ rfl (.tmp 62) (.tmp 67) 28 rfl w6.heap.size 32 i32 (.agg #[nilS, nilS]) 2 48 Try.underlying28 hi hz0 hz1 hz2 rfl (by decide) (.slice oa k oc) k (flat k (twoE s b)) rfl HOb.out ⟨wb.heap.size, 0, none⟩ 1 1 [Value.slice sa (X t).n sc, Value.slice ba (X t).m bc] rfl rfl HNeb.out (by intro z hz; simp at hz; rcases hz with rfl | rfl <;> rfl) (by unfold maxLen; omega) (by omega) HSzb.out ?_; intro v7 w7 ho7 hg7 _))
        -- behind the first of the two appends
        have hg67 : w6.grownBy w7 none := own_grown HOb.out hg6V (Nat.le_refl _) hg7
        have hlow : ∀ x, x < w8.heap.size + 0 → True := fun _ _ => trivial
        clear hlow
        have hob : ∀ gx (o : Obj), wr.heap.size ≤ gx → Vb.heap[gx]? = some o → w7.heap[gx]? = some o := fun gx o h1 h2 => by
          rw [hg7.block gx (lt_of_heap h2) (fun e => by have := (World.ownsRow.lt HO7.out gx e.symm).2; omega)]; exact h2
        have hbA7 := hob _ _ (by have := Hb9.out; omega) ((hgVb.block _ (lt_of_heap hbA2) (by simp)).trans hbA2)
        have hbB7 := hob _ _ (by have := Hb9.out; have := hg9b.size; have := hgab.size; have hz := lt_of_heap hbB; have := hga9.size; omega) ((hgVb.block _ (lt_of_heap hbB) (by simp)).trans hbB)
        have hL1 := (hLb1.growN hgVb).grow HOb.out hg7
        have hL2 := (hLb2.growN hgVb).grow HOb.out hg7
        have hbx7 : w7.heap[w.heap.size]? = some (layL S' N' 1) := (hg67.block _ (lt_of_heap HSt.out.box) (by simp)).trans HSt.out.box
        have ho7' : w7.ownsRow w6.heap.size 32 2 v7 (k + 1) (flat (k + 1) (twoE (fun a => if a = k then .slice sa (X t).n sc else s a) (fun a => if a = k then .slice ba (X t).m bc else b a))) := by
          rw [flat_succ, flat_congr k (E' := twoE s b) fun a ha => by simp [twoE, show a ≠ k by omega]]
          simpa [twoE] using ho7
        obtain ⟨gv, cv, cuv, rfl, hgv, hvr, _, _, _⟩ := own_parts ho7' (by omega)
        have HV7 : Hid (gv < w7.heap.size) := lt_of_heap hvr
        have HO7b : Hid _ := ho7'
        have HPre : Hid (∀ wy v' wz, w7.grownBy wy none → wy.grownBy wz (Value.slice (some ⟨gv, 0, none⟩) (k + 1) cv).ownBlock → wz.ownsRow w6.heap.size 32 2 v' (k + 1 + 1) (flat (k + 1) (twoE (fun a => if a = k then .slice sa (X t).n sc else s a) (fun a => if a = k then .slice ba (X t).m bc else b a)) ++ [Value.slice sa (X t).n sc, Value.slice ba (X t).m bc]) →
            ∃ gw cw, v' = .slice (some ⟨gw, 0, none⟩) (k + 1 + 1) cw ∧ w7.heap.size ≤ wz.heap.size ∧ w6.grownBy wz none ∧ (∀ gx (o : Obj), w7.heap.size ≤ gx → wy.heap[gx]? = some o → wz.heap[gx]? = some o) ∧
            ∀ wq, wz.grownBy wq none → Calls Try.prog 12 #[layV S' N' 1, v'] wq (fun e w' => ∃ gs3 gb3, e = .returned (.tuple #[.agg #[sl0 gs3 N', sl0 gb3 N'], num 0]) ∧ wq.grownBy w' none ∧ Pre w6 w' w8.heap.size wa.heap.size (sl0 gs N') (sl0 gb N') (sl0 gs2 N') (sl0 gb2 N') (sl0 gs3 N') (sl0 gb3 N') (sumS S' N' k X) (sumS S' N' k (fun a => X ((a + t) % k))) (sumS S' N' (k + 2) (fun a => if a < k then X ((a + t) % k) else X t)))) := fun wy v' wz hy hz ho => by
          have hoy := own_more HO7b.out hy
          have hg6y := grownBy_trans hg67 hy
          have hg6z : w6.grownBy wz none := own_grown hoy hg6y (Nat.le_refl _) hz
          obtain ⟨gw, cw, _, rfl, _, _, _, _, _⟩ := own_parts ho (by omega)
          refine ⟨gw, cw, rfl, Nat.le_trans hy.size hz.size, hg6z, fun gx o h1 h2 => ?_, fun wq hq => ?_⟩
          · rw [hz.block gx (lt_of_heap h2) (fun e => by have := HV7.out; simp [Value.ownBlock] at e; omega)]; exact h2
          · have hbAy := (hy.block _ (lt_of_heap hbA7) (by simp)).trans hbA7
            have hbBy := (hy.block _ (lt_of_heap hbB7) (by simp)).trans hbB7
            have hbAz := (hz.block _ (lt_of_heap hbAy) (fun e => own_not_small hoy hbAy (by show 2 < _; omega) e.symm)).trans hbAy
            have hbBz := (hz.block _ (lt_of_heap hbBy) (fun e => own_not_small hoy hbBy (by show 2 < _; omega) e.symm)).trans hbBy
            have hL1z := ((hL1.growN hy).grow hoy hz).growN hq
            have hL2z := ((hL2.growN hy).grow hoy hz).growN hq
            have hT : LeavesM wq All (.slice (some ⟨gw, 0, none⟩) (k + 2) cw) (k + 2) (fun a => if a < k then X ((a + t) % k) else X t) := by
              have ho2 : wz.ownsRow w6.heap.size 32 2 (.slice (some ⟨gw, 0, none⟩) (k + 2) cw) (k + 2) (flat (k + 2) (twoE (fun a => if a < k then s a else .slice sa (X t).n sc) (fun a => if a < k then b a else .slice ba (X t).m bc))) := by
                have e : flat (k + 2) (twoE (fun a => if a < k then s a else .slice sa (X t).n sc) (fun a => if a < k then b a else .slice ba (X t).m bc)) = flat (k + 1) (twoE (fun a => if a = k then .slice sa (X t).n sc else s a) (fun a => if a = k then .slice ba (X t).m bc else b a)) ++ [Value.slice sa (X t).n sc, Value.slice ba (X t).m bc] := by
                  rw [flat_succ, flat_congr (k + 1) (E' := twoE (fun a => if a = k then .slice sa (X t).n sc else s a) (fun a => if a = k then .slice ba (X t).m bc else b a)) fun a ha => by
                    by_cases e : a = k
                    · simp [twoE, e]
                    · simp [twoE, e, show a < k by omega]]
                  simp [twoE, show ¬ k + 1 < k by omega]
                rw [e]
                exact ho
              refine leaves_of_own (own_more ho2 hq) (fun _ _ _ _ => trivial) fun a ha => ?_
              by_cases e : a < k
              · simp only [if_pos e]
                exact (HA7.out a e).more (grownBy_trans hg6z hq)
              · simp only [if_neg e]
                exact (hLf.sub fun _ _ => trivial).more (grownBy_trans hg6z hq)
            have hgd3 : Good S' N' (k + 2) (fun a => if a < k then X ((a + t) % k) else X t) := ⟨HGd.out.1, fun a _ => by
              by_cases e : a < k
              · simp only [if_pos e]
                exact HGd2.out.2 a e
              · simp only [if_neg e]
                exact HGd.out.2 t t1'⟩
            refine (sum_yes hT (by omega) S' N' 1 hgd3).mono ?_
            rintro e w' ⟨gs3, gb3, gk3, rfl, hgq, hO3⟩
            exact ⟨gs3, gb3, rfl, hgq, grownBy_trans (grownBy_trans hg6z hq) hgq, (hgq.block _ (lt_of_heap ((hq.block _ (lt_of_heap hbAz) (by simp)).trans hbAz)) (by simp)).trans ((hq.block _ (lt_of_heap hbAz) (by simp)).trans hbAz), (hgq.block _ (lt_of_heap ((hq.block _ (lt_of_heap hbBz) (by simp)).trans hbBz)) (by simp)).trans ((hq.block _ (lt_of_heap hbBz) (by simp)).trans hbBz), ⟨_, hL1z.growN hgq⟩, ⟨_, hL2z.growN hgq⟩, ⟨_, hO3.leafT (by omega) (by omega)⟩⟩
        have e7' := (Kept.of_grown (K := All) hg67).cell trivial d1
        have e8' := (Kept.of_grown (K := All) hg67).cell trivial d2
        have HS0 : Hid (Five w7.drew w.heap.size (num S') (num N') (num 1) g (off + t * 2) (.slice sa (X t).n sc) (.slice ba (X t).m bc)) := ⟨cell_at hbx7 rfl, cell_at hbx7 rfl, cell_at hbx7 rfl, e7', e8'⟩
        have HFv : Hid (∀ wx, w6.grownBy wx none → Five wx w.heap.size (num S') (num N') (num 1) g (off + t * 2) (.slice sa (X t).n sc) (.slice ba (X t).m bc)) := fun wx hg => by
          have e1 := (hg.block _ (lt_of_heap HSt.out.box) (by simp)).trans HSt.out.box
          exact ⟨cell_at e1 rfl, cell_at e1 rfl, cell_at e1 rfl, (Kept.of_grown (K := All) hg).cell trivial d1, (Kept.of_grown (K := All) hg).cell trivial d2⟩
        have hL67 : w6.heap.size ≤ w7.heap.size := hg67.size
        have HNum : Hid (w8.heap.size < w7.heap.size ∧ wa.heap.size < w7.heap.size ∧ w.heap.size < w6.heap.size ∧ g < w6.heap.size) := ⟨lt_of_heap hbA7, lt_of_heap hbB7, lt_of_heap HSt.out.box, lt_of_cell d1⟩
        obtain ⟨Xo, hXo⟩ : ∃ Xo, Xo = leafL (.slice sa (X t).n sc) (.slice ba (X t).m bc) := ⟨_, rfl⟩
        have hX1 : (w7.alloc Xo).drew.heap[w7.heap.size]? = some Xo := heap_alloc_new w7 Xo
        have hX2 : ((w7.alloc Xo).alloc (leafL nilS nilS)).drew.heap[w7.heap.size]? = some Xo := ((World.grownBy_alloc (w7.alloc Xo) (leafL nilS nilS) none).block _ (lt_of_heap (heap_alloc_new w7 Xo)) (by simp)).trans (heap_alloc_new w7 Xo)
        have hX3 : ((w7.alloc (leafL nilS nilS)).alloc Xo).drew.heap[w7.heap.size + 1]? = some Xo := by
          have h := heap_alloc_new (w7.alloc (leafL nilS nilS)) Xo
          have e : (w7.alloc (leafL nilS nilS)).heap.size = w7.heap.size + 1 := by simp
          rw [e] at h
          exact h
        have cX : ∀ (wx : World) (gx : Nat), wx.heap[gx]? = some Xo → ∀ y z, [Value.slice sa (X t).n sc, Value.slice ba (X t).m bc][y]? = some z → wx.cell? ((⟨gx, 0, none⟩ : Addr).add y) = some z := fun wx gx h y z hy => by
          rw [addr_add', Nat.zero_add]
          rw [hXo] at h
          exact cell_at h (by simpa using hy)
        have HN1 : Hid _ := cX _ _ hX1
        have HN2 : Hid _ := cX _ _ hX2
        have HN3 : Hid _ := cX _ _ hX3
        have G1 : Hid (w7.grownBy (w7.alloc Xo).drew none) := grownBy_drew (World.grownBy_alloc w7 _ none)
        have G2 : Hid (w7.grownBy ((w7.alloc Xo).alloc (leafL nilS nilS)).drew none) := grownBy_drew (grownBy_alloc' (World.grownBy_alloc w7 _ none) _)
        have G3 : Hid (w7.grownBy ((w7.alloc (leafL nilS nilS)).alloc Xo).drew none) := grownBy_drew (grownBy_alloc' (World.grownBy_alloc w7 _ none) _)
        have O1 : Hid _ := own_more HO7b.out G1.out
        have O2 : Hid _ := own_more HO7b.out G2.out
        have O3 : Hid _ := own_more HO7b.out G3.out
        have Z2 : Hid (((w7.alloc Xo).alloc (leafL nilS nilS)).drew.heap[w7.heap.size + 1]? = some (leafL nilS nilS)) := by
          have h := heap_alloc_new (w7.alloc Xo) (leafL nilS nilS)
          have e : (w7.alloc Xo).heap.size = w7.heap.size + 1 := by simp
          rw [e] at h
          exact h
        have Z3 : Hid (((w7.alloc (leafL nilS nilS)).alloc Xo).drew.heap[w7.heap.size]? = some (leafL nilS nilS)) := ((World.grownBy_alloc (w7.alloc (leafL nilS nilS)) Xo none).block _ (lt_of_heap (heap_alloc_new w7 _)) (by simp)).trans (heap_alloc_new w7 _)
        clear hX1 hX2 hX3 cX hbx7 e7' e8' hob hbA7 hbB7 hL1 hL2 ho7' hvr ho7 hg7 hg67 hg6V HOb HNeb HSzb hgVb hgab hg9b hg6b hbA hbA2 hbB hbxb hLb1 hLb2 hLa2 hL9 hOb hO9 hbx9 hg79 hg69 hg89 hga9 d1' d2' d1 d2 hat hLf hgv
        have SZ1 : Hid (w6.heap.size ≤ (w7.alloc Xo).drew.heap.size) := Nat.le_trans hL67 G1.out.size
        have SZ2 : Hid (w6.heap.size ≤ ((w7.alloc Xo).alloc (leafL nilS nilS)).drew.heap.size) := Nat.le_trans hL67 G2.out.size
        have SZ3 : Hid (w6.heap.size ≤ ((w7.alloc (leafL nilS nilS)).alloc Xo).drew.heap.size) := Nat.le_trans hL67 G3.out.size
        subst hXo
        go_upto_region 18 with fail
        go_cut [16, 17] (fun p e wx => ∃ gC gs3 gb3, p = ptr gC 0 ∧ e = num 0 ∧ Fin3 w6 wx w8.heap.size wa.heap.size gC (sl0 gs N') (sl0 gb N') (sl0 gs2 N') (sl0 gb2 N') (sl0 gs3 N') (sl0 gb3 N') (sumS S' N' k X) (sumS S' N' k (fun a => X ((a + t) % k))) (sumS S' N' (k + 2) (fun a => if a < k then X ((a + t) % k) else X t)))
        case first =>
          go_region_held3 (fun w' => w'.cell? ⟨w.heap.size, 0, none⟩ = some (num S') ∧ w'.cell? ⟨w.heap.size, 1, none⟩ = some (num N') ∧ w'.cell? ⟨w.heap.size, 2, none⟩ = some (num 1) ∧ w'.cell? ⟨g, off + t * 2, none⟩ = some (.slice sa (X t).n sc) ∧ w'.cell? ⟨g, off + t * 2 + 1, none⟩ = some (.slice ba (X t).m bc)) (first | assumption | exact HS0.out | exact HFv.out _ (grownBy_alloc' hPd.grown _) | exact five_keep ‹_› (World.grownBy_alloc _ _ _) | exact five_keep ‹_› ‹_› | exact five_set (five_set ‹_› (by have := HNum.out; have := hg6c.size; omega)) (by have := HNum.out; have := hg6c.size; omega))
            (first | (rw [if_pos (by rfl)]; refine wp_append_own _ (.tmp 71) (.tmp 76) 28 rfl w6.heap.size 32 i32 (.agg #[nilS, nilS]) 2 48 Try.underlying28 hi hz0 hz1 hz2 rfl (by decide) (.slice (some ⟨gv, 0, none⟩) (k + 1) cv) (k + 1) _ rfl O3.out ⟨w7.heap.size + 1, 0, none⟩ 1 1 [Value.slice sa (X t).n sc, Value.slice ba (X t).m bc] rfl rfl HN3.out (by intro z hz; simp at hz; rcases hz with rfl | rfl <;> rfl) (by unfold maxLen; omega) (by omega) SZ3.out ?_; intro vc wc hoc hgc _; obtain ⟨gw, cw, rfl, h7c, hg6c, hzk, hSum⟩ := HPre.out _ _ _ G3.out hgc hoc; have hF := HFv.out _ hg6c; have hZc := hzk _ _ (Nat.le_refl _) Z3.out) | (rw [if_pos (by rfl)]; refine wp_append_own _ (.tmp 71) (.tmp 76) 28 rfl w6.heap.size 32 i32 (.agg #[nilS, nilS]) 2 48 Try.underlying28 hi hz0 hz1 hz2 rfl (by decide) (.slice (some ⟨gv, 0, none⟩) (k + 1) cv) (k + 1) _ rfl O2.out ⟨w7.heap.size, 0, none⟩ 1 1 [Value.slice sa (X t).n sc, Value.slice ba (X t).m bc] rfl rfl HN2.out (by intro z hz; simp at hz; rcases hz with rfl | rfl <;> rfl) (by unfold maxLen; omega) (by omega) SZ2.out ?_; intro vc wc hoc hgc _; obtain ⟨gw, cw, rfl, h7c, hg6c, hzk, hSum⟩ := HPre.out _ _ _ G2.out hgc hoc; have hF := HFv.out _ hg6c; have hZc := hzk _ _ (Nat.le_succ _) Z2.out) | (rw [if_pos (by rfl)]; refine wp_append_own _ (.tmp 71) (.tmp 76) 28 rfl w6.heap.size 32 i32 (.agg #[nilS, nilS]) 2 48 Try.underlying28 hi hz0 hz1 hz2 rfl (by decide) (.slice (some ⟨gv, 0, none⟩) (k + 1) cv) (k + 1) _ rfl O1.out ⟨w7.heap.size, 0, none⟩ 1 1 [Value.slice sa (X t).n sc, Value.slice ba (X t).m bc] rfl rfl HN1.out (by intro z hz; simp at hz; rcases hz with rfl | rfl <;> rfl) (by unfold maxLen; omega) (by omega) SZ1.out ?_; intro vc wc hoc hgc _; obtain ⟨gw, cw, rfl, h7c, hg6c, hzk, hSum⟩ := HPre.out _ _ _ G1.out hgc hoc; have hF := HFv.out _ hg6c) | (go_at_call 12; have hZc' := hZc; refine (hSum _ (grownBy_refl _ _)).mono ?_; rintro e wd ⟨gs3, gb3, rfl, hgd, hPd⟩; have hZd := (hgd.block _ (lt_of_heap hZc') (by simp)).trans hZc'; have zc0 := cell_at (o := 0) hZd rfl; have zc1 := cell_at (o := 1) hZd rfl; have zf0 := free_at (o := 0) hZd; have zf1 := free_at (o := 1) hZd) | (go_at_call 12; refine (hSum _ (World.grownBy_alloc _ (leafL nilS nilS) none)).mono ?_; rintro e wd ⟨gs3, gb3, rfl, hgd, hPd⟩; have hZd := (hgd.block _ (lt_of_heap (heap_alloc_new _ (leafL nilS nilS))) (by simp)).trans (heap_alloc_new _ _); have zc0 := cell_at (o := 0) hZd rfl; have zc1 := cell_at (o := 1) hZd rfl; have zf0 := free_at (o := 0) hZd; have zf1 := free_at (o := 1) hZd) | (go_at_call 12; refine (hSum _ (grownBy_refl _ _)).mono ?_; rintro e wd ⟨gs3, gb3, rfl, hgd, hPd⟩))
          all_goals
            go_wp2_with fail
            go_meet
            have hz3 := hg6c.size
            have hz4 := HNum.out
            first
              | exact ⟨_, gs3, gb3, rfl, rfl, hPd.fin_alloc⟩
              | exact ⟨_, gs3, gb3, rfl, rfl, hPd.fin_set hZd (by omega) (by omega) (by omega)⟩
        case rest =>
          obtain ⟨gC, gs3, gb3, rfl, rfl, hF⟩ := hcut
          have hz : ∀ f : Leaf → Nat, xorN k (fun a => f (X a)) = xorN k fun a => f (X ((a + t) % k)) := fun f => (xorN_turn t1' fun a => f (X a)).symm
          have hz2 : ∀ f : Leaf → Nat, xorN k (fun a => f (X a)) = xorN (k + 2) fun a => f (if a < k then X ((a + t) % k) else X t) := fun f => by
            rw [xorN_twice k (fun a => f (if a < k then X ((a + t) % k) else X t)) (by simp [show ¬ k + 1 < k by omega]), hz f]
            exact xorN_congr k fun a ha => by simp only [if_pos ha]
          obtain ⟨_, l1⟩ := hF.pre.l1
          obtain ⟨_, l2⟩ := hF.pre.l2
          obtain ⟨_, l3⟩ := hF.pre.l3
          have HSa1 : Hid (Calls Try.prog 16 #[.agg #[sl0 gs N', sl0 gb N'], .agg #[sl0 gs2 N', sl0 gb2 N']] wc fun e w' => e = .returned (.bool true) ∧ wc.grownBy w' none) := same_ok l1 l2 (sum_eq (by omega) hz)
          have HSa2 : Hid (∀ wx, wc.grownBy wx none → Calls Try.prog 16 #[.agg #[sl0 gs N', sl0 gb N'], .agg #[sl0 gs3 N', sl0 gb3 N']] wx fun e w' => e = .returned (.bool true) ∧ wx.grownBy w' none) := fun wx hgx => same_ok (l1.more hgx) (l3.more hgx) (sum_eq (by omega) hz2)
          have a0 : wc.cell? ⟨w8.heap.size, 0, none⟩ = some (sl0 gs N') := cell_at hF.pre.bA rfl
          have a1 : wc.cell? ⟨w8.heap.size, 1, none⟩ = some (sl0 gb N') := cell_at hF.pre.bA rfl
          have b0 : wc.cell? ⟨wa.heap.size, 0, none⟩ = some (sl0 gs2 N') := cell_at hF.pre.bB rfl
          have b1 : wc.cell? ⟨wa.heap.size, 1, none⟩ = some (sl0 gb2 N') := cell_at hF.pre.bB rfl
          have HG : Hid (w.grownBy wc none) := grownBy_trans HSt.out.grown hF.pre.grown
          have HBs : Hid (∀ wx, wc.grownBy wx none → wx.cell? ⟨w8.heap.size, 0, none⟩ = some (sl0 gs N') ∧ wx.cell? ⟨w8.heap.size, 1, none⟩ = some (sl0 gb N') ∧ wx.cell? ⟨gC, 0, none⟩ = some (sl0 gs3 N') ∧ wx.cell? ⟨gC, 1, none⟩ = some (sl0 gb3 N')) := fun wx hgx => by
            have e1 := (hgx.block _ (lt_of_heap hF.pre.bA) (by simp)).trans hF.pre.bA
            have e2 := (hgx.block _ (lt_of_heap hF.bC) (by simp)).trans hF.bC
            exact ⟨cell_at e1 rfl, cell_at e1 rfl, cell_at e2 rfl, cell_at e2 rfl⟩
          clear hF l1 l2 l3 hz hz2
          go_wp2_with fail
          refine HSa1.out.mono ?_
          rintro e wd ⟨rfl, hgd⟩
          obtain ⟨a0', a1', c0', c1'⟩ := HBs.out wd hgd
          have HSa3 : Hid (Calls Try.prog 16 #[.agg #[sl0 gs N', sl0 gb N'], .agg #[sl0 gs3 N', sl0 gb3 N']] wd fun e w' => e = .returned (.bool true) ∧ wd.grownBy w' none) := HSa2.out wd hgd
          have HG2 := grownBy_trans HG.out hgd
          clear a0 a1 b0 b1 HSa1 HSa2 HBs hgd
          go_wp2_with fail
          refine (HSa3.out).mono ?_
          rintro e we ⟨rfl, hge⟩
          have HG3 := grownBy_trans HG2 hge
          clear a0' a1' c0' c1' HG2 hge HSa3
          go_wp2
          go_ret
          exact ⟨rfl, HG3⟩
end Sp
end Go.Proofs.Ytjokedggmhiklaa
