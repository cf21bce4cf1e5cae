/- Layer 6 (stripe): the walk of Sum. -/
import Derived.Test.YtjokedggmhiklaaSf
namespace Go.Proofs.Ytjokedggmhiklaa
open Go.RowKit Go.Maps
namespace Sp
abbrev noLeaf : Value := .agg #[nilS, nilS]
/-- What Sum answers. -/
def Good (S N : Int) (n : Nat) (xs : Nat → Leaf) : Prop := LayMay S N ∧ ∀ a, a < n → May S N (xs a)
def SumPost (w : World) (S N : Int) (n : Nat) (xs : Nat → Leaf) (e : Ending) (w' : World) : Prop :=
  (Good S N n xs ∧ ∃ gs gb gk, e = .returned (.tuple #[.agg #[sl0 gs N.toNat, sl0 gb N.toNat], num 0]) ∧ w.grownBy w' none ∧ OwnLeaf w.heap.size w' S.toNat N.toNat gs gb gk (sumS S.toNat N.toNat n xs)) ∨
  (¬ Good S N n xs ∧ e = .returned (.tuple #[noLeaf, num 1]) ∧ w.grownBy w' none)
theorem set_two0 {w : World} {g : Nat} {u : Value} (h : w.cell? ⟨g, 0, none⟩ = some u) (a : Value) : (w.setCell ⟨g, 0, none⟩ a).cell? ⟨g, 0, none⟩ = some a := World.cell?_setCell_same w ⟨g, 0, none⟩ a h
theorem set_two1 {w : World} {g : Nat} {u v : Value} (h : w.cell? ⟨g, 1, none⟩ = some v) (b : Value) : ((w.setCell ⟨g, 0, none⟩ u).setCell ⟨g, 1, none⟩ b).cell? ⟨g, 1, none⟩ = some b :=
  World.cell?_setCell_same _ ⟨g, 1, none⟩ b (cell_off h (by decide))
theorem two_keep {w w' : World} {a b : Addr} {u v : Value} (h : w.cell? a = some u ∧ w.cell? b = some v) (hg : w.grownBy w' none) : w'.cell? a = some u ∧ w'.cell? b = some v := by
  have e : ∀ (a : Addr) (u : Value), w.cell? a = some u → w'.cell? a = some u := fun a u ha => by
    rw [World.cell?_of_block (w := w) (a := a) (hg.block a.block (World.block_lt_of_cell? w a ha) (by simp))]; exact ha
  exact ⟨e _ _ h.1, e _ _ h.2⟩
theorem two_set {w : World} {g1 o1 g2 o2 g o : Nat} {u v x : Value} (h : w.cell? ⟨g1, o1, none⟩ = some u ∧ w.cell? ⟨g2, o2, none⟩ = some v) (hn : g1 ≠ g ∧ g2 ≠ g) : (w.setCell ⟨g, o, none⟩ x).cell? ⟨g1, o1, none⟩ = some u ∧ (w.setCell ⟨g, o, none⟩ x).cell? ⟨g2, o2, none⟩ = some v := ⟨cell_else h.1 hn.1, cell_else h.2 hn.2⟩
set_option maxHeartbeats 6400000 in
set_option maxRecDepth 4000 in
theorem sum_ok {w : World} {K : Nat → Prop} {v : Value} {n : Nat} {xs : Nat → Leaf} (h : LeavesM w K v n xs) (hn : n ≤ 2932031007402) (S N T : Int) :
    Calls Try.prog 12 #[layV S N T, v] w (SumPost w S N n xs) := by
  have hnn := hnot
  obtain ⟨ao, cap, rfl, s1, s2, _⟩ := id h
  have n1 : (n : Int) ≤ 2932031007402 := by omega
  obtain ⟨W, hW⟩ : ∃ W, W = (w.alloc (layL S N T)).alloc (leafL nilS nilS) := ⟨_, rfl⟩
  have hgW : w.grownBy W none := by rw [hW]; exact grownBy_alloc' (World.grownBy_alloc w _ none) _
  have hb1 : W.heap[w.heap.size]? = some (layL S N T) := by rw [hW, (World.grownBy_alloc (w.alloc (layL S N T)) _ none).block _ (lt_of_heap (heap_alloc_new w _)) (by simp)]; exact heap_alloc_new w _
  have hb2 : W.heap[w.heap.size + 1]? = some (leafL nilS nilS) := by
    have := heap_alloc_new (w.alloc (layL S N T)) (leafL nilS nilS)
    rw [hW]; simpa using this
  have hsz : W.heap.size = w.heap.size + 2 := by rw [hW]; simp
  have Hw : Hid _ := hW
  have c0 : W.cell? ⟨w.heap.size, 0, none⟩ = some (num S) := cell_at hb1 rfl
  have c1 : W.cell? ⟨w.heap.size, 1, none⟩ = some (num N) := cell_at hb1 rfl
  have c2 : W.cell? ⟨w.heap.size, 2, none⟩ = some (num T) := cell_at hb1 rfl
  have HRet : Hid (∀ wr : World, W.grownBy wr none → wr.cell? ⟨w.heap.size + 1, 0, none⟩ = some nilS ∧ wr.cell? ⟨w.heap.size + 1, 1, none⟩ = some nilS ∧ wr.frozen? ⟨w.heap.size + 1, 0, none⟩ = false ∧ wr.frozen? ⟨w.heap.size + 1, 1, none⟩ = false ∧ wr.cell? ⟨w.heap.size, 0, none⟩ = some (num S) ∧ wr.cell? ⟨w.heap.size, 1, none⟩ = some (num N) ∧ wr.cell? ⟨w.heap.size, 2, none⟩ = some (num T)) := fun wr hg => by
    have e1 : wr.heap[w.heap.size + 1]? = some (leafL nilS nilS) := by rw [hg.block _ (lt_of_heap hb2) (by simp)]; exact hb2
    have e2 : wr.heap[w.heap.size]? = some (layL S N T) := by rw [hg.block _ (lt_of_heap hb1) (by simp)]; exact hb1
    exact ⟨cell_at e1 rfl, cell_at e1 rfl, free_at e1, free_at e1, cell_at e2 rfl, cell_at e2 rfl, cell_at e2 rfl⟩
  by_cases hL : LayMay S N
  · have HL : Hid (Calls Try.prog 24 #[layV S N T] W fun e w' => e = .returned (.bool true) ∧ W.grownBy w' none) := layout_yes hL T W
    have HLm : Hid _ := hL
    obtain ⟨l1, l2, l3, l4⟩ := hL
    clear hW
    go_enter Try.func12, Try.ntmps12
    go_wp2_with (rw [← Hw.out])
    refine HL.out.mono ?_
    rintro e w1 ⟨rfl, hg1⟩
    clear c0 c1 c2
    go_wp2_with fail
    go_loopw [18] (fun j wr => ∃ k : Nat, k ≤ n ∧ j = num k ∧ (∀ a, a < k → May S N (xs a)) ∧ W.grownBy wr none) (fun j _ => n - (intOf j).toNat)
    case atStart => exact ⟨0, Nat.zero_le _, rfl, fun a ha => by omega, hg1⟩
    case round =>
      clear HL hg1
      obtain ⟨k, hk, rfl, hall, hg⟩ := hrel
      obtain ⟨r0, r1, r2, r3, c0, c1, c2⟩ := HRet.out wr hg
      by_cases hkn : k < n
      · have q1 : (k : Int) < (n : Int) := by omega
        obtain ⟨g, off, rfl, _, _, _, hat⟩ := (LeavesM.more h (grownBy_trans hgW hg)).at hkn
        obtain ⟨sv, bv, d1, d2, hLf⟩ := hat k hkn
        obtain ⟨sa, sc, rfl, t1, t2, _⟩ := id hLf.sl
        obtain ⟨ba, bc, rfl, t3, t4, _⟩ := id hLf.se
        obtain ⟨V, hV⟩ : ∃ V, V = wr.alloc (leafL (.slice sa (xs k).n sc) (.slice ba (xs k).m bc)) := ⟨_, rfl⟩
        have hgV : wr.grownBy V none := by rw [hV]; exact World.grownBy_alloc wr _ none
        have hbx : V.heap[wr.heap.size]? = some (leafL (.slice sa (xs k).n sc) (.slice ba (xs k).m bc)) := by rw [hV]; exact heap_alloc_new wr _
        have HM : Hid (Calls Try.prog 25 #[layV S N T, .agg #[.slice sa (xs k).n sc, .slice ba (xs k).m bc]] V (MayPost V S N (xs k))) := leafMay_ok (hLf.more hgV) S N T
        have hgWV := grownBy_trans hg hgV
        obtain ⟨r0', r1', r2', r3', c0', c1', c2'⟩ := HRet.out V hgWV
        have b0 : V.cell? ⟨wr.heap.size, 0, none⟩ = some (.slice sa (xs k).n sc) := cell_at hbx rfl
        have b1 : V.cell? ⟨wr.heap.size, 1, none⟩ = some (.slice ba (xs k).m bc) := cell_at hbx rfl
        have Hv : Hid _ := hV
        have HA : Hid _ := hall
        clear hat hLf hV hgV hbx r0 r1 r2 r3 c0 c1 c2 hall
        go_wp2_with (rw [← Hv.out])
        refine HM.out.mono ?_
        rintro e w2 ⟨b, rfl, hb, hg2⟩
        have hgW2 := grownBy_trans hgWV hg2
        obtain ⟨x0, x1, x2, x3, _, _, _⟩ := HRet.out w2 hgW2
        clear b0 b1 r0' r1' r2' r3' c0' c1' c2' HM
        by_cases hmay : May S N (xs k)
        · obtain rfl : b = true := hb.2 hmay
          have HA2 : Hid (∀ a, a < k + 1 → May S N (xs a)) := fun a ha => by
            by_cases e : a = k
            · rw [e]; exact hmay
            · exact HA.out a (by omega)
          clear hb hmay
          go_wp2
          go_roundw
          case rel => exact ⟨k + 1, by omega, by go_num, HA2.out, hgW2⟩
          case measure => simp [intOf]; omega
        · obtain rfl : b = false := by
            cases b with
            | false => rfl
            | true => exact absurd (hb.1 rfl) hmay
          have HNo : Hid (¬ Good S N n xs) := fun hgd => hmay (hgd.2 k hkn)
          have HG : Hid (w.grownBy ((w2.setCell ⟨w.heap.size + 1, 0, none⟩ nilS).setCell ⟨w.heap.size + 1, 1, none⟩ nilS) none) := grownBy_set (grownBy_set (grownBy_trans hgW hgW2) (by omega) _) (by omega) _
          clear hb hmay
          go_wp2
          have q0 := set_two0 x0 nilS
          have q1 := set_two1 (u := nilS) x1 nilS
          exact bodyPost_ret (v := .tuple #[noLeaf, num 1]) (by simp [results, Try.results12, go_sem, q0, q1]) rfl (.inr ⟨HNo.out, rfl, HG.out⟩)
      · obtain rfl : k = n := by omega
        have q1 : ¬ (k : Int) < (k : Int) := by omega
        obtain ⟨N', rfl⟩ : ∃ N' : Nat, N = N' := ⟨N.toNat, by omega⟩
        obtain ⟨S', rfl⟩ : ∃ S' : Nat, S = S' := ⟨S.toNat, by omega⟩
        obtain ⟨L, hLl, hmk⟩ := make_slots N' (by omega)
        have hmb := fun w => make_secrows w N' (by omega)
        have HGood : Hid (Good S' N' k xs) := ⟨HLm.out, hall⟩
        obtain ⟨wo, rfl⟩ : ∃ wo, wo = wr := ⟨_, rfl⟩
        have hlt : w.heap.size < wo.heap.size := lt_of_cell c0
        have HBo : Hid (w.grownBy wo none ∧ wo.heap[w.heap.size]? = some (layL S' N' T) ∧ wo.heap[w.heap.size + 1]? = some (leafL nilS nilS)) := ⟨grownBy_trans hgW hg, (hg.block _ (lt_of_heap hb1) (by simp)).trans hb1, (hg.block _ (lt_of_heap hb2) (by simp)).trans hb2⟩
        go_upto_region 9 with fail
        go_cut [8] (fun p wx => ∃ gs gb gx, p = ptr gx 0 ∧ SumRel w wx S' N' k T gs gb gx 0 0 (fun _ => 0) xs)
        case first =>
          go_region
          all_goals
            go_wp2_with fail
            go_meet
            first
              | exact ⟨wo.heap.size, wo.heap.size + 1, wo.heap.size + 1 + 1, rfl, sum_start xs HBo.out.1 HBo.out.2.1 HBo.out.2.2 hLl (th_grown _ _ _ _) (th0 _ _ _ _) (th1 _ _ _ _) (th2 _ _ _ _) (by omega) (by omega) (by omega) (by omega) (by omega) (by omega)⟩
              | exact ⟨wo.heap.size, wo.heap.size + 1 + 1, wo.heap.size + 1, rfl, sum_start xs HBo.out.1 HBo.out.2.1 HBo.out.2.2 hLl (th_grown _ _ _ _) (th0 _ _ _ _) (th2 _ _ _ _) (th1 _ _ _ _) (by omega) (by omega) (by omega) (by omega) (by omega) (by omega)⟩
              | exact ⟨wo.heap.size + 1, wo.heap.size, wo.heap.size + 1 + 1, rfl, sum_start xs HBo.out.1 HBo.out.2.1 HBo.out.2.2 hLl (th_grown _ _ _ _) (th1 _ _ _ _) (th0 _ _ _ _) (th2 _ _ _ _) (by omega) (by omega) (by omega) (by omega) (by omega) (by omega)⟩
              | exact ⟨wo.heap.size + 1 + 1, wo.heap.size, wo.heap.size + 1, rfl, sum_start xs HBo.out.1 HBo.out.2.1 HBo.out.2.2 hLl (th_grown _ _ _ _) (th2 _ _ _ _) (th0 _ _ _ _) (th1 _ _ _ _) (by omega) (by omega) (by omega) (by omega) (by omega) (by omega)⟩
              | exact ⟨wo.heap.size + 1, wo.heap.size + 1 + 1, wo.heap.size, rfl, sum_start xs HBo.out.1 HBo.out.2.1 HBo.out.2.2 hLl (th_grown _ _ _ _) (th1 _ _ _ _) (th2 _ _ _ _) (th0 _ _ _ _) (by omega) (by omega) (by omega) (by omega) (by omega) (by omega)⟩
              | exact ⟨wo.heap.size + 1 + 1, wo.heap.size + 1, wo.heap.size, rfl, sum_start xs HBo.out.1 HBo.out.2.1 HBo.out.2.2 hLl (th_grown _ _ _ _) (th2 _ _ _ _) (th1 _ _ _ _) (th0 _ _ _ _) (by omega) (by omega) (by omega) (by omega) (by omega) (by omega)⟩
        case rest =>
          obtain ⟨gs, gb, gx, rfl, hR⟩ := hcut
          have c1 : wc.cell? ⟨w.heap.size, 1, none⟩ = some (num (N' : Int)) := cell_at hR.lay rfl
          have hgi : ∀ a, a < k → ∀ i, i < N' → i < (xs a).n ∧ i < (xs a).m ∧ SlotMay ((xs a).slot i) := fun a ha i hi => by
            have hm := HGood.out.2 a ha
            have e1 := hm.n
            have e2 := hm.m
            exact ⟨by omega, by omega, hm.slot i (by omega)⟩
          have hmem : ∀ a, a < k → ∀ i, i < N' → SlotI ((xs a).slot i) ∧ (∀ j, nth ((xs a).sec i) j ≤ 255) ∧ (xs a).sec i = [] ∨ SlotI ((xs a).slot i) ∧ (∀ j, nth ((xs a).sec i) j ≤ 255) ∧ ((xs a).sec i).length = S' := fun a ha i hi => by
            obtain ⟨g, off, _, _, _, _, hat⟩ := h.at ha
            obtain ⟨sv, bv, _, _, hLf⟩ := hat a ha
            obtain ⟨i1, i2, _⟩ := hgi a ha i hi
            have h1 := hLf.si i i1
            obtain ⟨bo, bcp, rfl, _⟩ := id hLf.se
            obtain ⟨g2, off2, _, _, _, _, hat2⟩ := hLf.se.at i2
            obtain ⟨_, _, hby⟩ := hat2 i i2
            rcases (HGood.out.2 a ha).sec i i2 with e | e
            · exact .inl ⟨h1, hby.1, e⟩
            · exact .inr ⟨h1, hby.1, by omega⟩
          have HGi : Hid _ := hgi
          have HMem : Hid _ := hmem
          clear c2 c0 r0 r1 r2 r3 hmk hmb hgi hmem hg
          have n8 : (N' : Int) ≤ 8 := l4
          go_wp2_with fail
          go_loopw [37] (fun j wr => ∃ (i : Nat) (gk : Nat → Nat), i ≤ N' ∧ j = num i ∧ SumRel w wr S' N' k T gs gb gx i i gk xs) (fun j _ => N' - (intOf j).toNat)
          case atStart => exact ⟨0, _, Nat.zero_le _, rfl, hR⟩
          case round =>
            clear hR c1
            obtain ⟨i, gk, hi, rfl, hR⟩ := hrel
            by_cases hin : i < N'
            · have q2 : (i : Int) < (N' : Int) := by omega
              have HRow : Hid (Calls Try.prog 26 #[.slice ao k cap, num i] wr fun e w' => ∃ nv sv, e = .returned (.tuple #[nv, sv]) ∧ wr.grownBy w' none ∧ NumRowsM w' All nv k (fun a => numsOf ((xs a).slot i)) ∧ SecsM w' (fun g => Lo K w.heap.size g ∨ wr.heap.size ≤ g) sv k (fun a => (xs a).sec i)) := rowsAt_ok (LeavesM.more h.lo hR.grown) hn i (fun a ha => HGi.out a ha i hin)
              go_wp2_with fail
              refine HRow.out.mono ?_
              rintro e w5 ⟨nv, sv, rfl, hg5, hnv, hsv⟩
              have hR5 := hR.more hg5
              have hval : (sumSlot k xs i).key < 4294967296 ∧ (∃ st : Nat, (sumSlot k xs i).state = st ∧ st ≤ 3 ∧ xorRow 3 k (fun a => numsOf ((xs a).slot i)) = [(sumSlot k xs i).key, st, (sumSlot k xs i).seq]) := by
                have hs := sumSlot_i (n := k) (xs := xs) (i := i) (fun a ha => by rcases HMem.out a ha i hin with e | e <;> exact e.1) (fun a ha => (HGi.out a ha i hin).2.2)
                refine ⟨hs.1.key, _, rfl, ?_, xorRow3 k xs i⟩
                have := hs.2.hi
                have e : (sumSlot k xs i).state = ((xorN k fun a => ((xs a).slot i).state.toNat : Nat) : Int) := rfl
                rw [e] at this
                omega
              obtain ⟨v1, st, v2, v3, v4⟩ := hval
              have hslot := fun (w' : World) (hg : w5.grownBy w' none) => (hR5.more hg).slot (k := i) (m := i) hin
              have hosl := fun (w' : World) (hg : w5.grownBy w' none) (o : Nat) (ho : o < N' * 3) => ((hR5.more hg).os).at ho
              rw [v2] at hslot
              have hsecr : xorRow S' k (fun a => (xs a).sec i) = sumSec S' k xs i := rfl
              have HSlot : Hid _ := hslot
              have HOs : Hid _ := hosl
              have HA64 : Hid (∀ w6 : World, w5.grownBy w6 none → Calls Try.prog 28 #[num 3, nv] w6 fun e w' => e = .returned (.slice (some ⟨w6.heap.size, 0, none⟩) 3 3) ∧ w6.grownBy w' none ∧ w'.heap[w6.heap.size]? = some (.cells #[q64 (sumSlot k xs i).key, q64 st, q64 (sumSlot k xs i).seq] 51)) := fun w6 hg6 => by
                refine (added64_ok (size := 3) (NumRowsM.kept (.of_grown hg6) hnv) (by decide) (fun a _ => by simp [numsOf])).mono ?_
                rintro e w' ⟨h1, h2, h3⟩
                rw [v4] at h3
                exact ⟨h1, h2, h3⟩
              have HA8 : Hid (∀ V w6 : World, Kept (fun g => Lo K w.heap.size g ∨ wr.heap.size ≤ g) w5 V → V.grownBy w6 none → Calls Try.prog 29 #[num S', sv] w6 fun e w' => e = .returned (.slice (some ⟨w6.heap.size, 0, none⟩) S' S') ∧ w6.grownBy w' none ∧ w'.heap[w6.heap.size]? = some (.cells (vals8 (sumSec S' k xs i)).toArray 5)) := fun V w6 hk6 hg6 =>
                added8_ok (size := S') (SecsM.kept (.of_grown hg6) (SecsM.kept hk6 hsv)) (by omega) (fun a ha => by
                  rcases HMem.out a ha i hin with e | e
                  · rw [e.2.2]; simp
                  · omega)
              have HGsK : Hid (∀ g, Lo K w.heap.size g ∨ wr.heap.size ≤ g → g ≠ gs) := fun g hgg => by
                have h1 := hR.es
                have h2 := hR.os.lt
                rcases hgg with e | e
                · have := e.2; omega
                · omega
              have HSl : Hid (∀ (w7 : World) (g : Nat), w5.grownBy w7 none → w7.heap[g]? = some (.cells #[q64 (sumSlot k xs i).key, q64 st, q64 (sumSlot k xs i).seq] 51) → Calls Try.prog 27 #[.slice (some ⟨g, 0, none⟩) 3 3] w7 fun e w' => e = .returned (.agg #[q32 (sumSlot k xs i).key, num st, q64 (sumSlot k xs i).seq]) ∧ w7.grownBy w' none ∧
                  (∃ v, w'.cell? ⟨gs, i * 3, none⟩ = some v) ∧ w'.frozen? ⟨gs, i * 3, none⟩ = false ∧ (∃ v, w'.cell? ⟨gs, i * 3 + 1, none⟩ = some v) ∧ w'.frozen? ⟨gs, i * 3 + 1, none⟩ = false ∧ (∃ v, w'.cell? ⟨gs, i * 3 + 2, none⟩ = some v) ∧ w'.frozen? ⟨gs, i * 3 + 2, none⟩ = false ∧
                  SumRel w (((w'.setCell ⟨gs, i * 3, none⟩ (q32 (sumSlot k xs i).key)).setCell ⟨gs, i * 3 + 1, none⟩ (num st)).setCell ⟨gs, i * 3 + 2, none⟩ (q64 (sumSlot k xs i).seq)) S' N' k T gs gb gx (i + 1) i gk xs) := fun w7 g hg7 hb7 => by
                refine (slotOf_ok hb7 v1 v3).mono ?_
                rintro e w' ⟨rfl, hg⟩
                have hgd := grownBy_trans hg7 hg
                obtain ⟨x1, x2⟩ := HOs.out w' hgd (i * 3) (by omega)
                obtain ⟨x3, x4⟩ := HOs.out w' hgd (i * 3 + 1) (by omega)
                obtain ⟨x5, x6⟩ := HOs.out w' hgd (i * 3 + 2) (by omega)
                exact ⟨rfl, hg, x1, x2, x3, x4, x5, x6, HSlot.out w' hgd⟩
              have HS0 : Hid (w5.grownBy w5.drew none ∧ w5.drew.cell? ⟨gx, 0, none⟩ = some (sl0 gs N')) := ⟨grownBy_drew (grownBy_refl _ _), cell_at (o := 0) hR5.box rfl⟩
              have HNe : Hid (gx ≠ gs) := hR5.n2.symm
              have HLe : Hid (w5.heap.size ≤ gs → False) := fun e => by have := hR5.os.lt; omega
              generalize (sumSlot k xs i).key = KY at *
              generalize (sumSlot k xs i).seq = SQ at *
              clear hslot hosl hR hnv hsv v4 v2 hsecr HRow hR5
              go_wp2_with fail
              go_region_held3 (fun w' => w'.cell? ⟨gx, 0, none⟩ = some (sl0 gs N')) (first | assumption | exact HS0.out.2 | exact (Kept.of_grown (K := All) ‹_›).cell trivial ‹_› | exact cell_else (cell_else (cell_else ((Kept.of_grown (K := All) (grownBy_trans hg6 hg7)).cell trivial HS0.out.2) HNe.out) HNe.out) HNe.out)
                (first | (go_at_call 28; refine (HA64.out _ (by first | assumption | exact HS0.out.1)).mono ?_; rintro e w6 ⟨rfl, hg6, hb6⟩) | (go_at_call 27; refine (HSl.out _ _ (grownBy_trans HS0.out.1 hg6) hb6).mono ?_; rintro e w7 ⟨rfl, hg7, ⟨z1, y1⟩, y2, ⟨z3, y3⟩, y4, ⟨z5, y5⟩, y6, hR7⟩))
              obtain ⟨V, hV⟩ : ∃ V, V = (((w7.setCell ⟨gs, i * 3, none⟩ (q32 KY)).setCell ⟨gs, i * 3 + 1, none⟩ (num st)).setCell ⟨gs, i * 3 + 2, none⟩ (q64 SQ)) := ⟨_, rfl⟩
              have hKV : Kept (fun g => Lo K w.heap.size g ∨ wr.heap.size ≤ g) w5 V := fun g hgg hl => by
                have hne := HGsK.out g hgg
                rw [hV, setCell_else hne, setCell_else hne, setCell_else hne]
                exact ((grownBy_trans (grownBy_trans HS0.out.1 hg6) hg7).block g hl (by simp))
              rw [← hV] at hR7 ⊢
              have Hv : Hid _ := hV
              have hHeld0 := hR7
              clear hV hb6 hg6 hg7 y1 y2 y3 y4 y5 y6 HS0 HSl HSlot HOs HA64
              have p0 : V.cell? ⟨gx, 1, none⟩ = some (sl0 gb N') := cell_at hR7.box rfl
              have p1 : V.cell? ⟨w.heap.size, 0, none⟩ = some (num (S' : Int)) := cell_at hR7.lay rfl
              have HS0 : Hid (V.grownBy V.drew none ∧ V.drew.cell? ⟨gx, 1, none⟩ = some (sl0 gb N') ∧ V.drew.cell? ⟨w.heap.size, 0, none⟩ = some (num (S' : Int))) := ⟨grownBy_drew (grownBy_refl _ _), p0, p1⟩
              have HNx : Hid (∀ (w6 w7 : World), V.grownBy w6 none → w6.grownBy w7 none → w7.heap[w6.heap.size]? = some (.cells (vals8 (sumSec S' k xs i)).toArray 5) → (∃ v, w7.cell? ⟨gb, i, none⟩ = some v) ∧ w7.frozen? ⟨gb, i, none⟩ = false ∧ SumRel w (w7.setCell ⟨gb, i, none⟩ (sl0 w6.heap.size S')) S' N' k T gs gb gx (i + 1) (i + 1) (fun a => if a = i then w6.heap.size else gk a) xs) := fun w6 w7 hg6 hg7 hb7 => by
                have hm7 := hR7.more (grownBy_trans hg6 hg7)
                have hz := hg6.size
                have z1 := hR7.os.lt
                have z2 := hR7.ob.lt
                have z3 := lt_of_heap hR7.box
                have z4 := hR7.grown.size
                have z5 := hR7.es
                exact ⟨(hm7.ob.at hin).1, (hm7.ob.at hin).2, hm7.sec hin hb7 (by omega) (by omega) (by omega) (by omega)⟩
              have HNe3 : Hid (gx ≠ gb ∧ w.heap.size ≠ gb) := ⟨hR7.n3.symm, by have := hR7.eb; omega⟩
              clear hR7 hHeld0 p0 p1
              go_wp2_with fail
              go_region_held3 (fun w' => w'.cell? ⟨gx, 1, none⟩ = some (sl0 gb N') ∧ w'.cell? ⟨w.heap.size, 0, none⟩ = some (num (S' : Int))) (first | assumption | exact HS0.out.2 | exact two_keep ‹_› ‹_› | exact two_set (two_keep HS0.out.2 hg8) HNe3.out)
                (first | (go_at_call 29; refine (HA8.out V _ hKV (by first | assumption | exact HS0.out.1)).mono ?_; rintro e w8 ⟨rfl, hg8, hb8⟩; obtain ⟨⟨z1, y1⟩, y2, hR8⟩ := HNx.out _ _ HS0.out.1 hg8 hb8))
              have HR8 : Hid _ := hR8
              clear hR8 hg8 hb8 y1 y2 HS0 HA8 HNx
              go_wp2
              go_roundw
              case rel => exact ⟨i + 1, _, by omega, by go_num, HR8.out⟩
              case measure => simp [intOf]; omega
            · obtain rfl : i = N' := by omega
              have q2 : ¬ (i : Int) < (i : Int) := by omega
              have x0 : wr.cell? ⟨gx, 0, none⟩ = some (sl0 gs i) := cell_at hR.box rfl
              have x1 : wr.cell? ⟨gx, 1, none⟩ = some (sl0 gb i) := cell_at hR.box rfl
              have y0 : wr.cell? ⟨w.heap.size + 1, 0, none⟩ = some nilS := cell_at hR.res rfl
              have y1 : wr.cell? ⟨w.heap.size + 1, 1, none⟩ = some nilS := cell_at hR.res rfl
              have f0 : wr.frozen? ⟨w.heap.size + 1, 0, none⟩ = false := free_at hR.res
              have f1 : wr.frozen? ⟨w.heap.size + 1, 1, none⟩ = false := free_at hR.res
              have ho := hR.fin (fun a ha j hj => ⟨by rcases HMem.out a ha j hj with e | e <;> exact e.1, (HGi.out a ha j hj).2.2⟩) (fun a ha j hj => by rcases HMem.out a ha j hj with e | e <;> exact e.2.1) (sl0 gs i) (sl0 gb i)
              have HO : Hid _ := ho
              have HG : Hid (w.grownBy ((wr.setCell ⟨w.heap.size + 1, 0, none⟩ (sl0 gs i)).setCell ⟨w.heap.size + 1, 1, none⟩ (sl0 gb i)) none) := grownBy_set (grownBy_set hR.grown (by omega) _) (by omega) _
              clear hR ho
              go_wp2
              have z0 := set_two0 y0 (sl0 gs i)
              have z1 := set_two1 (u := sl0 gs i) y1 (sl0 gb i)
              refine bodyPost_ret (v := .tuple #[.agg #[sl0 gs i, sl0 gb i], num 0]) (by simp [results, Try.results12, go_sem, z0, z1]) rfl (.inl ⟨HGood.out, gs, gb, gk, rfl, HG.out, ?_⟩)
              exact HO.out
  · have HL : Hid (Calls Try.prog 24 #[layV S N T] W fun e w' => e = .returned (.bool false) ∧ W.grownBy w' none) := layout_no hL T W
    have HNo : Hid (¬ Good S N n xs) := fun hgd => hL hgd.1
    clear hW hL
    go_enter Try.func12, Try.ntmps12
    go_wp2_with (rw [← Hw.out])
    refine HL.out.mono ?_
    rintro e w1 ⟨rfl, hg1⟩
    obtain ⟨r0, r1, r2, r3, _, _, _⟩ := HRet.out w1 hg1
    have HG : Hid (w.grownBy ((w1.setCell ⟨w.heap.size + 1, 0, none⟩ nilS).setCell ⟨w.heap.size + 1, 1, none⟩ nilS) none) := grownBy_set (grownBy_set (grownBy_trans hgW hg1) (by omega) _) (by omega) _
    clear c0 c1 c2
    go_wp2
    have q0 := set_two0 r0 nilS
    have q1 := set_two1 (u := nilS) r1 nilS
    exact bodyPost_ret (v := .tuple #[noLeaf, num 1]) (by simp [results, Try.results12, go_sem, q0, q1]) rfl (.inr ⟨HNo.out, rfl, HG.out⟩)
end Sp
end Go.Proofs.Ytjokedggmhiklaa
