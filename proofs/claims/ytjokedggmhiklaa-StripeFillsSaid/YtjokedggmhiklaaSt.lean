/- Layer 6 (stripe): Sum of the reference. -/
import Derived.Test.YtjokedggmhiklaaSs
import Derived.Deep.CutBlock
namespace Go.Proofs.Ytjokedggmhiklaa
open Go.RowKit Go.Maps
namespace Sp
theorem xor_i64 (a b : Nat) (ha : a < 4294967296) (hb : b < 4294967296) : bits .xor .i64 (a : Int) (b : Int) = ((a ^^^ b : Nat) : Int) := by
  have hx : a ^^^ b < 2 ^ 32 := Nat.xor_lt_two_pow (by omega) (by omega)
  have h1 : (BitVec.ofInt 64 (a : Int)).toNat = a := by
    rw [BitVec.ofInt_natCast, BitVec.toNat_ofNat]; exact Nat.mod_eq_of_lt (by omega)
  have h2 : (BitVec.ofInt 64 (b : Int)).toNat = b := by
    rw [BitVec.ofInt_natCast, BitVec.toNat_ofNat]; exact Nat.mod_eq_of_lt (by omega)
  show IntKind.i64.wrap ((BitVec.ofInt 64 (a : Int) ^^^ BitVec.ofInt 64 (b : Int)).toNat : Int) = _
  rw [BitVec.toNat_xor, h1, h2, IntKind.wrap_i64]
  omega
theorem xor_u32 {a b : Nat} (ha : a < 4294967296) (hb : b < 4294967296) : bits .xor .u32 (a : Int) (b : Int) = ((a ^^^ b : Nat) : Int) := u32_xor_nat a b ha hb
theorem lay_no {S N : Int} (h : ¬ LayMay S N) : S < 1 ∨ ¬ S < 1 ∧ 256 < S ∨ ¬ S < 1 ∧ ¬ 256 < S ∧ N < 1 ∨ ¬ S < 1 ∧ ¬ 256 < S ∧ ¬ N < 1 ∧ 8 < N := by
  unfold LayMay at h
  omega
/-- The three blocks that Sum of the reference lays first. -/
structure Head (w W : World) (S N T : Int) : Prop where
  grown : w.grownBy W none
  lay : W.heap[w.heap.size]? = some (layL S N T)
  res : W.heap[w.heap.size + 1]? = some (leafL nilS nilS)
  out : W.heap[w.heap.size + 2]? = some (leafL nilS nilS)
theorem head_made (w : World) (S N T : Int) : Head w (((w.alloc (layL S N T)).alloc (leafL nilS nilS)).alloc (leafL nilS nilS)) S N T := by
  have at_ := fun i {o} (h : ([layL S N T, leafL nilS nilS, leafL nilS nilS] : List Obj)[i]? = some o) => allocs_at [layL S N T, leafL nilS nilS, leafL nilS nilS] w i h
  exact ⟨allocs_grown [layL S N T, leafL nilS nilS, leafL nilS nilS] w, at_ 0 rfl, at_ 1 rfl, at_ 2 rfl⟩
theorem Head.more {w W W' : World} {S N T : Int} (h : Head w W S N T) (hg : W.grownBy W' none) : Head w W' S N T :=
  ⟨grownBy_trans h.grown hg, (hg.block _ (lt_of_heap h.lay) (by simp)).trans h.lay, (hg.block _ (lt_of_heap h.res) (by simp)).trans h.res, (hg.block _ (lt_of_heap h.out) (by simp)).trans h.out⟩
theorem sumSlot_step {a m : Nat} {X : Nat → Leaf} (hi : ∀ b, b < a + 1 → SlotI ((X b).slot m)) (hm : ∀ b, b < a + 1 → SlotMay ((X b).slot m)) :
    ∃ KA TA QA KB TB QB : Nat, sumSlot a X m = ⟨KA, (TA : Int), QA⟩ ∧ (X a).slot m = ⟨KB, (TB : Int), QB⟩ ∧ sumSlot (a + 1) X m = ⟨KA ^^^ KB, ((TA ^^^ TB : Nat) : Int), QA ^^^ QB⟩ ∧ (KA < 4294967296 ∧ KB < 4294967296) ∧ (TA < 4294967296 ∧ TB < 4294967296) ∧ QA < 2 ^ 64 ∧ QB < 2 ^ 64 := by
  have h1 := sumSlot_i (n := a) (xs := X) (i := m) (fun b hb => hi b (by omega)) (fun b hb => hm b (by omega))
  have h2 := hi a (by omega)
  have h3 := hm a (by omega)
  have e1 : (sumSlot a X m).state = ((xorN a fun b => ((X b).slot m).state.toNat : Nat) : Int) := rfl
  refine ⟨xorN a fun b => ((X b).slot m).key, xorN a fun b => ((X b).slot m).state.toNat, xorN a fun b => ((X b).slot m).seq, ((X a).slot m).key, ((X a).slot m).state.toNat, ((X a).slot m).seq, rfl, ?_, rfl, ⟨h1.1.key, h2.key⟩, ⟨?_, ?_⟩, h1.1.seq, h2.seq⟩
  · have := h3.lo
    have e : ((((X a).slot m).state.toNat : Nat) : Int) = ((X a).slot m).state := by omega
    rw [e]
  · have := h1.2.hi; omega
  · have := h3.hi; omega
/-- What a call answers that makes a leaf in memory of its own, or refuses. -/
def AnsB (w : World) (good : Prop) (x : Leaf) (e : Ending) (w' : World) : Prop :=
  ∃ (a1 : Option Addr) (n1 c1 : Nat) (a2 : Option Addr) (n2 c2 : Nat) (er : Int), e = .returned (.tuple #[.agg #[.slice a1 n1 c1, .slice a2 n2 c2], num er]) ∧ w.grownBy w' none ∧
    ((good ∧ er = 0 ∧ LeafM w' (KT w' w.heap.size) (.slice a1 n1 c1) (.slice a2 n2 c2) x) ∨ (¬ good ∧ er = 1 ∧ a1 = none ∧ n1 = 0 ∧ c1 = 0 ∧ a2 = none ∧ n2 = 0 ∧ c2 = 0))
set_option maxHeartbeats 12800000 in
set_option maxRecDepth 4000 in
theorem ksum_okB {w : World} {K : Nat → Prop} {v : Value} {n : Nat} {X : Nat → Leaf} (h : LeavesM w K v n X) (S N T : Int) : Calls Try.prog 13 #[layV S N T, v] w (AnsB w (Good S N n X) (sumS S.toNat N.toNat n X)) := by
  have hnn := hnot
  have HFo : Hid (Try.prog.follows .mixedOrders = true) := follows_mixed
  obtain ⟨ao, cap, rfl, s1, s2, _⟩ := id h
  obtain ⟨i53, hi', hz0', hz1', hz2'⟩ := info_parts info53'
  obtain ⟨i49, hi'', hz0'', hz1'', hz2''⟩ := info_parts info49
  have n1 : (n : Int) ≤ 9223372036854775807 := by omega
  obtain ⟨W, hW⟩ : ∃ W, W = ((w.alloc (layL S N T)).alloc (leafL nilS nilS)).alloc (leafL nilS nilS) := ⟨_, rfl⟩
  have hHd : Head w W S N T := by rw [hW]; exact head_made w S N T
  have hWs : W.heap.size = w.heap.size + 3 := by rw [hW]; simp
  have HRe : Hid (∀ u, ¬ Good S N n X → w.grownBy u none → AnsB w (Good S N n X) (sumS S.toNat N.toNat n X) (.returned (.tuple #[noLeaf, num 1])) u) := fun u hg hu => ⟨none, 0, 0, none, 0, 0, 1, rfl, hu, .inr ⟨hg, rfl, rfl, rfl, rfl, rfl, rfl, rfl⟩⟩
  have HCl : Hid (∀ wr, W.grownBy wr none → (wr.cell? ⟨w.heap.size, 0, none⟩ = some (num S) ∧ wr.cell? ⟨w.heap.size, 1, none⟩ = some (num N) ∧ wr.cell? ⟨w.heap.size, 2, none⟩ = some (num T)) ∧ (wr.cell? ⟨w.heap.size + 1, 0, none⟩ = some nilS ∧ wr.cell? ⟨w.heap.size + 1, 1, none⟩ = some nilS ∧ wr.frozen? ⟨w.heap.size + 1, 0, none⟩ = false ∧ wr.frozen? ⟨w.heap.size + 1, 1, none⟩ = false) ∧ (wr.cell? ⟨w.heap.size + 2, 0, none⟩ = some nilS ∧ wr.cell? ⟨w.heap.size + 2, 1, none⟩ = some nilS)) := fun wr hg => by
    have hh := hHd.more hg
    exact ⟨⟨cell_at hh.lay rfl, cell_at hh.lay rfl, cell_at hh.lay rfl⟩, ⟨cell_at hh.res rfl, cell_at hh.res rfl, free_at hh.res, free_at hh.res⟩, cell_at hh.out rfl, cell_at hh.out rfl⟩
  have HRet : Hid (∀ wr, W.grownBy wr none → w.grownBy ((wr.setCell ⟨w.heap.size + 1, 0, none⟩ nilS).setCell ⟨w.heap.size + 1, 1, none⟩ nilS) none) := fun wr hg => grownBy_set (grownBy_set (grownBy_trans hHd.grown hg) (by omega) _) (by omega) _
  have Hw : Hid _ := hW
  have HHd : Hid _ := hHd
  obtain ⟨⟨c0, c1, c2⟩, ⟨x0, x1, x2, x3⟩, y0, y1⟩ := HCl.out W (grownBy_refl _ _)
  have hgW : w.grownBy W none := hHd.grown
  clear hHd hW
  by_cases hL : LayMay S N
  · have HL : Hid _ := hL
    obtain ⟨l1, l2, l3, l4⟩ := hL
    have e1 : decide (S < 1) = false := by simp; omega
    have e2 : decide (256 < S) = false := by simp; omega
    have e3 : decide (N < 1) = false := by simp; omega
    have e4 : decide (8 < N) = false := by simp; omega
    have e4' : ¬ 8 < N := by omega
    go_enter Try.func13, Try.ntmps13
    go_wp2_with (rw [← Hw.out])
    go_loopw [7] (fun i wr => ∃ k : Nat, k ≤ n ∧ i = num k ∧ (∀ a, a < k → May S N (X a)) ∧ W.grownBy wr none) (fun i _ => n - (intOf i).toNat)
    case atStart => exact ⟨0, Nat.zero_le _, rfl, fun a ha => by omega, grownBy_refl _ _⟩
    case round =>
      clear c0 c1 c2 x0 x1 x2 x3 y0 y1 e1 e2 e3 e4
      obtain ⟨k, hk, rfl, hall, hg⟩ := hrel
      by_cases hkn : k < n
      · have q1 : (k : Int) < (n : Int) := by omega
        obtain ⟨g, off, rfl, _, _, _, hat⟩ := (LeavesM.more h (grownBy_trans hgW hg)).at hkn
        obtain ⟨sv, bv, d1, d2, hLf⟩ := hat k hkn
        obtain ⟨sa, sc, rfl, _, _, _⟩ := id hLf.sl
        obtain ⟨ba, bc, rfl, _, _, _⟩ := id hLf.se
        obtain ⟨⟨c0, c1, c2⟩, _, _⟩ := HCl.out wr hg
        have HS0 : Hid (Five wr.drew w.heap.size (num S) (num N) (num T) g (off + k * 2) (.slice sa (X k).n sc) (.slice ba (X k).m bc)) := ⟨c0, c1, c2, d1, d2⟩
        have HM : Hid (Calls Try.prog 30 #[layV S N T, .agg #[.slice sa (X k).n sc, .slice ba (X k).m bc]] wr.drew (MayPost wr.drew S N (X k))) := kmay_ok (hLf.more (grownBy_drew (grownBy_refl wr none))) S N T
        have HA : Hid _ := hall
        have HGr : Hid (W.grownBy wr.drew none) := grownBy_drew hg
        clear hat hLf hall hg c0 c1 c2 d1 d2
        by_cases hmay : May S N (X k)
        · have HM2 : Hid (Calls Try.prog 30 #[layV S N T, .agg #[.slice sa (X k).n sc, .slice ba (X k).m bc]] wr.drew fun e w' => e = .returned (.bool true) ∧ wr.drew.grownBy w' none) := HM.out.mono (by
            rintro e w' ⟨b, rfl, hb, hg⟩
            exact ⟨by rw [hb.2 hmay], hg⟩)
          have HA2 : Hid (∀ a, a < k + 1 → May S N (X a)) := fun a ha => by
            by_cases e : a = k
            · rw [e]; exact hmay
            · exact HA.out a (by omega)
          clear hmay HM
          go_wp2_with fail
          go_region_held3 (fun w' => w'.cell? ⟨w.heap.size, 0, none⟩ = some (num S) ∧ w'.cell? ⟨w.heap.size, 1, none⟩ = some (num N) ∧ w'.cell? ⟨w.heap.size, 2, none⟩ = some (num T) ∧ w'.cell? ⟨g, off + k * 2, none⟩ = some (.slice sa (X k).n sc) ∧ w'.cell? ⟨g, off + k * 2 + 1, none⟩ = some (.slice ba (X k).m bc)) (first | assumption | exact HS0.out | exact five_keep HS0.out ‹_›)
            (first | (go_at_call 30; refine HM2.out.mono ?_; rintro e wd ⟨rfl, hgd⟩))
          all_goals
            have HG2 := grownBy_trans HGr.out hgd
            clear hgd
            go_wp2
            go_roundw
            case rel => exact ⟨k + 1, by omega, by go_num, HA2.out, HG2⟩
            case measure => simp [intOf]; omega
        · have HM2 : Hid (Calls Try.prog 30 #[layV S N T, .agg #[.slice sa (X k).n sc, .slice ba (X k).m bc]] wr.drew fun e w' => e = .returned (.bool false) ∧ wr.drew.grownBy w' none) := HM.out.mono (by
            rintro e w' ⟨b, rfl, hb, hg⟩
            cases b with
            | false => exact ⟨rfl, hg⟩
            | true => exact absurd (hb.1 rfl) hmay)
          have HNo : Hid (¬ Good S N n X) := fun hgd => hmay (hgd.2 k hkn)
          clear hmay HM
          go_wp2_with fail
          go_region_held3 (fun w' => w'.cell? ⟨w.heap.size, 0, none⟩ = some (num S) ∧ w'.cell? ⟨w.heap.size, 1, none⟩ = some (num N) ∧ w'.cell? ⟨w.heap.size, 2, none⟩ = some (num T) ∧ w'.cell? ⟨g, off + k * 2, none⟩ = some (.slice sa (X k).n sc) ∧ w'.cell? ⟨g, off + k * 2 + 1, none⟩ = some (.slice ba (X k).m bc)) (first | assumption | exact HS0.out | exact five_keep HS0.out ‹_›)
            (first | (go_at_call 30; refine HM2.out.mono ?_; rintro e wd ⟨rfl, hgd⟩))
          all_goals
            have hG2 := grownBy_trans HGr.out hgd
            obtain ⟨_, ⟨x0, x1, x2, x3⟩, y0, y1⟩ := HCl.out wd hG2
            have q0 := set_two0 x0 nilS
            have q1 := set_two1 (u := nilS) x1 nilS
            have HR := HRe.out _ HNo.out (HRet.out wd hG2)
            clear hgd hG2
            go_wp2
            exact bodyPost_ret (v := .tuple #[noLeaf, num 1]) (by simp [results, Try.results13, go_sem, q0, q1]) rfl HR
      · obtain rfl : k = n := by omega
        have q1 : ¬ (k : Int) < (k : Int) := by omega
        obtain ⟨N', rfl⟩ : ∃ N' : Nat, N = N' := ⟨N.toNat, by omega⟩
        obtain ⟨S', rfl⟩ : ∃ S' : Nat, S = S' := ⟨S.toNat, by omega⟩
        have HGood : Hid (Good S' N' k X) := ⟨HL.out, hall⟩
        have hgi : ∀ a, a < k → ∀ i, i < N' → i < (X a).n ∧ i < (X a).m ∧ SlotMay ((X a).slot i) := fun a ha i hi => by
          have hm := HGood.out.2 a ha
          have e1 := hm.n
          have e2 := hm.m
          exact ⟨by omega, by omega, hm.slot i (by omega)⟩
        have hmem : ∀ a, a < k → ∀ i, i < N' → SlotI ((X a).slot i) ∧ (∀ j, nth ((X a).sec i) j ≤ 255) ∧ ((X a).sec i).length ≤ S' := fun a ha i hi => by
          obtain ⟨g, off, _, _, _, _, hat⟩ := h.at ha
          obtain ⟨sv, bv, _, _, hLf⟩ := hat a ha
          obtain ⟨i1, i2, _⟩ := hgi a ha i hi
          have h1 := hLf.si i i1
          obtain ⟨bo, bcp, rfl, _⟩ := id hLf.se
          obtain ⟨g2, off2, _, _, _, _, hat2⟩ := hLf.se.at i2
          obtain ⟨_, _, hby⟩ := hat2 i i2
          rcases (HGood.out.2 a ha).sec i i2 with e | e
          · exact ⟨h1, hby.1, by rw [e]; simp⟩
          · exact ⟨h1, hby.1, by omega⟩
        have hxs : ∀ i, i < N' → SlotI (sumSlot k X i) ∧ SlotMay (sumSlot k X i) := fun i hi => sumSlot_i (fun b hb => (hmem b hb i hi).1) fun b hb => (hgi b hb i hi).2.2
        have HXs : Hid _ := hxs
        have HGi : Hid _ := hgi
        have HMem : Hid _ := hmem
        obtain ⟨W0, hW0⟩ : ∃ W0, W0 = (w.alloc (layL S' N' T)).alloc (leafL nilS nilS) := ⟨_, rfl⟩
        have hW0s : W0.heap.size = w.heap.size + 2 := by rw [hW0]; simp
        have hgW0 : W0.grownBy W none := by rw [Hw.out, hW0]; exact World.grownBy_alloc _ _ none
        have hL0 : LeafRel W0 wr (w.heap.size + 2) 0 (sumS S' N' k X) nilS nilS (fun _ => nilS) := ⟨grownBy_trans hgW0 hg, (HHd.out.more hg).out, by omega, World.ownsRow_nil _ _ _ _, World.ownsRow_nil _ _ _ _, fun a ha => by omega⟩
        have hw0 : w.grownBy W0 none := by rw [hW0]; exact grownBy_alloc' (World.grownBy_alloc w _ none) _
        have h0l : W0.heap[w.heap.size]? = some (layL S' N' T) := by rw [hW0, (World.grownBy_alloc (w.alloc (layL S' N' T)) _ none).block _ (lt_of_heap (heap_alloc_new w _)) (by simp)]; exact heap_alloc_new w _
        have h0r : W0.heap[w.heap.size + 1]? = some (leafL nilS nilS) := by
          have := heap_alloc_new (w.alloc (layL S' N' T)) (leafL nilS nilS)
          rw [hW0]; simpa using this
        have HLay : Hid (∀ wx, W0.grownBy wx none → w.grownBy wx none ∧ wx.heap[w.heap.size]? = some (layL S' N' T) ∧ wx.heap[w.heap.size + 1]? = some (leafL nilS nilS)) := fun wx hgx => ⟨grownBy_trans hw0 hgx, (hgx.block _ (lt_of_heap h0l) (by simp)).trans h0l, (hgx.block _ (lt_of_heap h0r) (by simp)).trans h0r⟩
        have c1 : wr.cell? ⟨w.heap.size, 1, none⟩ = some (num (N' : Int)) := cell_at (HLay.out wr (grownBy_trans hgW0 hg)).2.1 rfl
        have N8 : (N' : Int) ≤ 8 := l4
        have S256 : (S' : Int) ≤ 256 := l2
        clear hgi hmem hxs hW0 hw0 h0l h0r hall
        go_wp2_with fail
        go_loopw [9] (fun j wr => ∃ (m : Nat) (xs xb : Value) (u : Nat → Value), m ≤ N' ∧ j = num m ∧ LeafRel W0 wr (w.heap.size + 2) m (sumS S' N' k X) xs xb u) (fun j _ => N' - (intOf j).toNat)
        case atStart => exact ⟨0, _, _, _, Nat.zero_le _, rfl, hL0⟩
        case round =>
          clear hL0 c1 hg
          obtain ⟨m, xs, xb, u, hm, rfl, hR⟩ := hrel
          obtain ⟨hgl, hlay, hres⟩ := HLay.out wr hR.grown
          have c1 : wr.cell? ⟨w.heap.size, 1, none⟩ = some (num (N' : Int)) := cell_at hlay rfl
          by_cases hmN : m < N'
          · have p1 : (m : Int) < (N' : Int) := by omega
            obtain ⟨wo, rfl⟩ : ∃ wo : World, wo = wr := ⟨_, rfl⟩
            have HR : Hid _ := hR
            go_upto_region 14 with fail
            obtain ⟨V1, hV1⟩ : ∃ V1, V1 = wo.alloc (.cells #[.int .u32 0, num 0, .int .u64 0] 53) := ⟨_, rfl⟩
            have hgV1 : wo.grownBy V1 none := by rw [hV1]; exact World.grownBy_alloc wo _ none
            have hs1 : V1.heap[wo.heap.size]? = some (.cells (slotC (sumSlot 0 X m)) 53) := by rw [hV1]; exact heap_alloc_new wo _
            have hmk := make_8 V1 S' (by omega)
            obtain ⟨V2, hV2⟩ : ∃ V2, V2 = V1.alloc (.cells (vals8 (List.replicate S' 0)).toArray 5) := ⟨_, rfl⟩
            rw [← hV2] at hmk
            have hgV2 : V1.grownBy V2 none := by rw [hV2]; exact World.grownBy_alloc V1 _ none
            have hb2 : V2.heap[V1.heap.size]? = some (.cells (vals8 (xorRow S' 0 fun a => (X a).sec m)).toArray 5) := by rw [hV2, xorRow_zero]; exact heap_alloc_new V1 _
            have hs2 := (hgV2.block _ (lt_of_heap hs1) (by simp)).trans hs1
            have hgo2 := grownBy_trans hgV1 hgV2
            have l0 : V1.cell? ⟨w.heap.size, 0, none⟩ = some (num (S' : Int)) := cell_at (HLay.out V1 (grownBy_trans hR.grown hgV1)).2.1 rfl
            have HSz : Hid (wo.heap.size < V1.heap.size) := lt_of_heap hs1
            have Hv1 : Hid _ := hV1
            rw [← hV1]
            clear hV1 hV2 hgV1 hgV2 hs1 hR hlay hres hgl c1
            go_wp2_with fail
            go_loopw [12] (fun i wr => ∃ a : Nat, a ≤ k ∧ i = num a ∧ wo.grownBy wr none ∧ wr.heap[wo.heap.size]? = some (.cells (slotC (sumSlot a X m)) 53) ∧ wr.heap[V1.heap.size]? = some (.cells (vals8 (xorRow S' a fun a => (X a).sec m)).toArray 5)) (fun i _ => k - (intOf i).toNat)
            case atStart => exact ⟨0, Nat.zero_le _, rfl, hgo2, hs2, hb2⟩
            case round =>
              clear hgo2 hs2 hb2 hmk l0
              obtain ⟨a, ha, rfl, hga, hsa, hba⟩ := hrel
              by_cases hak : a < k
              · have q2 : (a : Int) < (k : Int) := by omega
                obtain ⟨KA, TA, QA, KB, TB, QB, hA, hB, hC, ⟨kA, kB⟩, ⟨tA, tB⟩, qA, qB⟩ := sumSlot_step (X := X) (m := m) (a := a) (fun b hb => (HMem.out b (by omega) m hmN).1) (fun b hb => (HGi.out b (by omega) m hmN).2.2)
                have HC : Hid _ := hC
                have HLw : Hid (∀ wx, wo.grownBy wx none → w.grownBy wx none) := fun wx hgx => (HLay.out wx (grownBy_trans HR.out.grown hgx)).1
                obtain ⟨g, off, rfl, _, _, _, hat⟩ := h.at hak
                obtain ⟨sv, bv, d1', d2', hLf⟩ := hat a hak
                obtain ⟨i1, i2, _⟩ := HGi.out a hak m hmN
                obtain ⟨_, _, j3⟩ := HMem.out a hak m hmN
                obtain ⟨sa, sc, rfl, _, _, _⟩ := id hLf.sl
                obtain ⟨ba, bc, rfl, _, _, _⟩ := id hLf.se
                have HLf : Hid _ := hLf
                have HDx : Hid (∀ wx, wo.grownBy wx none → wx.cell? ⟨g, off + a * 2, none⟩ = some (.slice sa (X a).n sc) ∧ wx.cell? ⟨g, off + a * 2 + 1, none⟩ = some (.slice ba (X a).m bc) ∧ LeafM wx K (.slice sa (X a).n sc) (.slice ba (X a).m bc) (X a)) := fun wx hgx => ⟨(Kept.of_grown (K := All) (HLw.out wx hgx)).cell trivial d1', (Kept.of_grown (K := All) (HLw.out wx hgx)).cell trivial d2', HLf.out.more (HLw.out wx hgx)⟩
                obtain ⟨d1, d2, hLf2⟩ := HDx.out wr hga
                obtain ⟨g1, o1, rfl, _, _, _, hs⟩ := hLf2.sl.at i1
                obtain ⟨y0, y1, y2⟩ := hs m i1
                rw [hB] at y0 y1 y2
                simp only at y0 y1 y2
                rw [hA] at hsa
                have z0 : wr.cell? ⟨wo.heap.size, 0, none⟩ = some (q32 KA) := cell_at hsa rfl
                have z1 : wr.cell? ⟨wo.heap.size, 1, none⟩ = some (num (TA : Int)) := cell_at hsa rfl
                have z2 : wr.cell? ⟨wo.heap.size, 2, none⟩ = some (q64 QA) := cell_at hsa rfl
                have f0 := free_at (o := 0) hsa
                have f1 := free_at (o := 1) hsa
                have f2 := free_at (o := 2) hsa
                have x1 := xor_u32 kA kB
                have x2 := xor_i64 TA TB tA tB
                have x3 := xor_u64 qA qB
                have hlt := lt_of_heap hsa
                have lg := lt_of_cell d1
                have lg1 := lt_of_cell y0
                have HV3 : Hid (∀ V3, V3 = ((((wr.setCell ⟨wo.heap.size, 0, none⟩ (.int .u32 ((KA ^^^ KB : Nat) : Int))).setCell ⟨wo.heap.size, 1, none⟩ (.int .i64 ((TA ^^^ TB : Nat) : Int))).setCell ⟨wo.heap.size, 2, none⟩ (.int .u64 ((QA ^^^ QB : Nat) : Int))).alloc (.cells #[.int .u32 (KB : Int), .int .i64 (TB : Int), .int .u64 (QB : Int)] 53)) → wo.grownBy V3 none ∧ V3.heap[wo.heap.size]? = some (.cells (slotC (sumSlot (a + 1) X m)) 53) ∧ V3.heap[V1.heap.size]? = some (.cells (vals8 (xorPart S' a 0 fun a => (X a).sec m)).toArray 5)) := fun V3 hV => by
                  have r1 := setCell_row (i := 0) hsa (.int .u32 ((KA ^^^ KB : Nat) : Int))
                  have r2 := setCell_row (i := 1) r1 (.int .i64 ((TA ^^^ TB : Nat) : Int))
                  have r3 := setCell_row (i := 2) r2 (.int .u64 ((QA ^^^ QB : Nat) : Int))
                  have hne : V1.heap.size ≠ wo.heap.size := by have := HSz.out; omega
                  have g3 : wo.grownBy (((wr.setCell ⟨wo.heap.size, 0, none⟩ (.int .u32 ((KA ^^^ KB : Nat) : Int))).setCell ⟨wo.heap.size, 1, none⟩ (.int .i64 ((TA ^^^ TB : Nat) : Int))).setCell ⟨wo.heap.size, 2, none⟩ (.int .u64 ((QA ^^^ QB : Nat) : Int))) none := grownBy_set (grownBy_set (grownBy_set hga (Nat.le_refl _) _) (Nat.le_refl _) _) (Nat.le_refl _) _
                  have b3 := ((setCell_else hne _).trans ((setCell_else hne _).trans ((setCell_else hne _).trans hba)) : (((wr.setCell ⟨wo.heap.size, 0, none⟩ (.int .u32 ((KA ^^^ KB : Nat) : Int))).setCell ⟨wo.heap.size, 1, none⟩ (.int .i64 ((TA ^^^ TB : Nat) : Int))).setCell ⟨wo.heap.size, 2, none⟩ (.int .u64 ((QA ^^^ QB : Nat) : Int))).heap[V1.heap.size]? = _)
                  have ga := fun o => World.grownBy_alloc (((wr.setCell ⟨wo.heap.size, 0, none⟩ (.int .u32 ((KA ^^^ KB : Nat) : Int))).setCell ⟨wo.heap.size, 1, none⟩ (.int .i64 ((TA ^^^ TB : Nat) : Int))).setCell ⟨wo.heap.size, 2, none⟩ (.int .u64 ((QA ^^^ QB : Nat) : Int))) o none
                  rw [hV]
                  refine ⟨grownBy_alloc' g3 _, ?_, ?_⟩
                  · rw [(ga _).block _ (lt_of_heap r3) (by simp), r3, HC.out]; rfl
                  · rw [(ga _).block _ (lt_of_heap b3) (by simp), b3, xorPart_zero]
                clear hLf hLf2 hat d1' d2' hs hB hA hC
                go_upto_region 22 with fail
                obtain ⟨V3, hV3⟩ : ∃ V3, V3 = ((((wr.setCell ⟨wo.heap.size, 0, none⟩ (.int .u32 ((KA ^^^ KB : Nat) : Int))).setCell ⟨wo.heap.size, 1, none⟩ (.int .i64 ((TA ^^^ TB : Nat) : Int))).setCell ⟨wo.heap.size, 2, none⟩ (.int .u64 ((QA ^^^ QB : Nat) : Int))).alloc (.cells #[.int .u32 (KB : Int), .int .i64 (TB : Int), .int .u64 (QB : Int)] 53)) := ⟨_, rfl⟩
                rw [← hV3]
                obtain ⟨v1, v2, v3⟩ := HV3.out V3 hV3
                have HAll : Hid (∀ b, b < a + 1 → ∀ j, nth ((X b).sec m) j < 2 ^ 8) := fun b hb => lt2_8 (HMem.out b (by omega) m hmN).2.1
                clear hV3 HV3 hga hsa hba d1 d2 y0 y1 y2 z0 z1 z2 f0 f1 f2 x1 x2 x3 hlt lg lg1 kA kB tA tB qA qB HC
                obtain ⟨WR, hWR⟩ : ∃ n : Nat, n = wr.heap.size := ⟨_, rfl⟩
                rw [← hWR]
                clear hWR
                go_wp2_with fail
                go_loopw [14] (fun j wx => ∃ t : Nat, t ≤ ((X a).sec m).length ∧ j = num t ∧ wo.grownBy wx none ∧ wx.heap[wo.heap.size]? = some (.cells (slotC (sumSlot (a + 1) X m)) 53) ∧ wx.heap[V1.heap.size]? = some (.cells (vals8 (xorPart S' a t fun a => (X a).sec m)).toArray 5)) (fun j _ => ((X a).sec m).length - (intOf j).toNat)
                case atStart => exact ⟨0, Nat.zero_le _, rfl, v1, v2, v3⟩
                case round =>
                  clear v1 v2 v3
                  obtain ⟨t, ht, rfl, hgt, hst, hrow⟩ := hrel
                  obtain ⟨d1, d2, hLx⟩ := HDx.out wr hgt
                  obtain ⟨g2, o2, rfl, _, _, _, hs2⟩ := hLx.se.at i2
                  obtain ⟨bvv, e1, e2⟩ := hs2 m i2
                  obtain ⟨va, vc, rfl, _, _⟩ := e2.len
                  simp only [Nat.mul_one] at e1
                  by_cases htl : t < ((X a).sec m).length
                  · have v3 : (t : Int) < (((X a).sec m).length : Int) := by omega
                    have htS : t < S' := by omega
                    obtain ⟨g3, o3, rfl, _, _, _, hs3⟩ := e2.2.at htl
                    have e3 := hs3 t htl
                    simp only [Nat.mul_one] at e3
                    have r1 : wr.cell? ⟨V1.heap.size, t, none⟩ = some (q8 (nth (xorPart S' a t fun a => (X a).sec m) t)) := cell_at hrow (by rw [List.getElem?_toArray]; exact vals8_at (by rw [xorPart_len]; exact htS))
                    have r2 := free_at (o := t) hrow
                    have w1 := HAll.out a (by omega) t
                    have w2 := nth_xorPart_lt (n := 8) (size := S') (i := t) HAll.out t
                    have x1 := xor_u8 w2 w1
                    have hne : V1.heap.size ≠ wo.heap.size := by have := HSz.out; omega
                    have HX : Hid (∀ wx, wx = wr.drew.setCell ⟨V1.heap.size, t, none⟩ (q8 (nth (xorPart S' a t fun a => (X a).sec m) t ^^^ nth ((X a).sec m) t)) → wo.grownBy wx none ∧ wx.heap[wo.heap.size]? = some (.cells (slotC (sumSlot (a + 1) X m)) 53) ∧ wx.heap[V1.heap.size]? = some (.cells (vals8 (xorPart S' a (t + 1) fun a => (X a).sec m)).toArray 5)) := fun wx hx => by
                      subst hx
                      refine ⟨grownBy_set (grownBy_drew hgt) (by have := HSz.out; omega) _, (setCell_else hne.symm _).trans hst, ?_⟩
                      have := setCell_row (w := wr.drew) (i := t) hrow (q8 (nth (xorPart S' a t fun a => (X a).sec m) t ^^^ nth ((X a).sec m) t))
                      rwa [vals8_set, xorPart_next htS] at this
                    clear hs2 hs3 e2 hrow hgt hst hLx w1 w2 hne
                    generalize nth (xorPart S' a t fun a => (X a).sec m) t = OLD at r1 HX x1
                    generalize nth ((X a).sec m) t = BY at e3 HX x1
                    generalize ((X a).sec m).length = LL at e1 v3 htl ht j3
                    have d2' : wr.drew.cell? ⟨g, off + a * 2 + 1, none⟩ = some (.slice (some ⟨g2, o2, none⟩) (X a).m bc) := d2
                    have e1' : wr.drew.cell? ⟨g2, o2 + m, none⟩ = some (.slice (some ⟨g3, o3, none⟩) LL vc) := e1
                    have e3' : wr.drew.cell? ⟨g3, o3 + t, none⟩ = some (q8 BY) := e3
                    have r1' : wr.drew.cell? ⟨V1.heap.size, t, none⟩ = some (q8 OLD) := r1
                    have r2' : wr.drew.frozen? ⟨V1.heap.size, t, none⟩ = false := r2
                    go_wp2_with fail
                    clear d1 d2 e1 e3 r1 r2
                    go_still_tail 19, HFo.out
                    change wpList _ _ _ _ _ (wr.drew)
                    go_wp2
                    go_roundw
                    case rel => exact ⟨t + 1, by omega, by go_num, HX.out _ rfl⟩
                    case measure => simp [intOf]; omega
                  · obtain rfl : t = ((X a).sec m).length := by omega
                    have v3 : ¬ (((X a).sec m).length : Int) < (((X a).sec m).length : Int) := by omega
                    rw [xorPart_all (k := a) (f := fun a => (X a).sec m) rfl] at hrow
                    have HRo : Hid _ := hrow
                    have HGt : Hid _ := hgt
                    have HSt : Hid _ := hst
                    clear hrow hgt hst hLx hs2 e2
                    generalize ((X a).sec m).length = LL at e1 v3
                    go_wp2
                    go_roundw
                    case rel => exact ⟨a + 1, by omega, by go_num, HGt.out, HSt.out, HRo.out⟩
                    case measure => simp [intOf]; omega
              · obtain rfl : a = k := by omega
                have q2 : ¬ (a : Int) < (a : Int) := by omega
                have hba' : wr.heap[V1.heap.size]? = some (.cells (vals8 (sumSec S' a X m)).toArray 5) := hba
                have HR2 := HR.out.more hga
                have hbyte : BytesM wr (K5 wr W0.heap.size) (sl0 V1.heap.size S') (sumSec S' a X m) := by
                  refine ⟨fun i => sumSec_le (fun b hb => (HMem.out b hb m hmN).2.1) i, _, S', by rw [sumSec_len], by rw [sumSec_len]; exact Nat.le_refl _, by omega, .inr ⟨V1.heap.size, 0, rfl, ⟨?_, _, hba'⟩, fun j hj => cell_at hba' ?_⟩⟩
                  · have := HR.out.grown.size; have := HSz.out; omega
                  · rw [Nat.zero_add, Nat.mul_one, List.getElem?_toArray]
                    exact vals8_at hj
                have s0 : wr.cell? ⟨wo.heap.size, 0, none⟩ = some (q32 (sumSlot a X m).key) := cell_at hsa rfl
                have s1' : wr.cell? ⟨wo.heap.size, 1, none⟩ = some (num (sumSlot a X m).state) := cell_at hsa rfl
                have s2' : wr.cell? ⟨wo.heap.size, 2, none⟩ = some (q64 (sumSlot a X m).seq) := cell_at hsa rfl
                have b0 : wr.cell? ⟨w.heap.size + 2, 0, none⟩ = some xs := cell_at HR2.box rfl
                obtain ⟨V3, hV3⟩ : ∃ V3, V3 = wr.alloc (.cells #[q32 (sumSlot a X m).key, num (sumSlot a X m).state, q64 (sumSlot a X m).seq] 53) := ⟨_, rfl⟩
                have hgV3 : wr.grownBy V3 none := by rw [hV3]; exact World.grownBy_alloc wr _ none
                have HRV : Hid _ := HR2.more hgV3
                have HNews : Hid (∀ j z, (slotsE (sumS S' N' a X).slot m)[j]? = some z → V3.cell? ((⟨wr.heap.size, 0, none⟩ : Addr).add j) = some z) := by rw [hV3]; exact cell_three wr _ _ _ _
                have HOs : Hid _ := HRV.out.os
                have HBy : Hid _ := hbyte.k5more hgV3
                have HSz2 : Hid (W0.heap.size ≤ V3.heap.size) := HRV.out.grown.size
                have Hv3 : Hid _ := hV3
                have m1 : m + 1 ≤ 9 := by omega
                clear hba hba' hsa hga HR2 hbyte hV3 hgV3
                go_upto_region 27 with (first | (rw [← Hv3.out]) | (at_builtin; refine wpList_append_own _ rfl (.tmp 124) (.tmp 126) 29 rfl W0.heap.size 53 i53 (.agg #[.int .u32 0, num 0, .int .u64 0]) 3 24 Try.underlying29 hi' hz0' hz1' hz2' rfl (by decide) xs m (flat m (slotsE (sumS S' N' a X).slot)) rfl HOs.out ⟨wr.heap.size, 0, none⟩ 1 1 (slotsE (sumS S' N' a X).slot m) rfl rfl HNews.out (by intro z hz; simp [slotsE] at hz; rcases hz with rfl | rfl | rfl <;> rfl) (by unfold maxLen; omega) (by omega) HSz2.out ?_; intro v1 w1 ho1 hg1 _; obtain ⟨ga, ca, rfl, C1, F1, HB1⟩ := HRV.out.slot' hg1 ho1))
                obtain ⟨w2, hw2⟩ : ∃ w2, w2 = w1.setCell ⟨w.heap.size + 2, 0, none⟩ (.slice (some ⟨ga, 0, none⟩) (m + 1) ca) := ⟨_, rfl⟩
                have hB1 := HB1.out
                rw [← hw2] at hB1 ⊢
                obtain ⟨B1, B2, B3, B4, B5, B6⟩ := hB1
                have hby2 : BytesM w2 (K5 w2 W0.heap.size) (sl0 V1.heap.size S') (sumSec S' a X m) := K5_bytes HBy.out fun g hk => by
                  obtain ⟨_, L, a2⟩ := hk
                  refine B6 g (fun e => ?_) (own_not_type HOs.out a2 (by decide)) (lt_of_heap a2)
                  rw [e, HRV.out.box] at a2
                  simp only [Option.some.injEq, Obj.cells.injEq] at a2
                  exact absurd a2.2.1 (by decide)
                have x1 : w2.cell? ⟨w.heap.size + 2, 1, none⟩ = some xb := cell_at B2 rfl
                obtain ⟨V4, hV4⟩ : ∃ V4, V4 = w2.alloc (.cells #[sl0 V1.heap.size S'] 49) := ⟨_, rfl⟩
                have hgV4 : w2.grownBy V4 none := by rw [hV4]; exact World.grownBy_alloc w2 _ none
                have HN2 : Hid (∀ j z, [sl0 V1.heap.size S'][j]? = some z → V4.cell? ((⟨w2.heap.size, 0, none⟩ : Addr).add j) = some z) := by rw [hV4]; exact cell_one' w2 _ _
                have HOb : Hid _ := own_more B4 hgV4
                have HE4 : Hid (∀ (v' : Value) (w1 : World), V4.grownBy w1 xb.ownBlock → w1.ownsRow W0.heap.size 49 1 v' (m + 1) (flat m (oneE u) ++ [sl0 V1.heap.size S']) → ∃ ga' ca', v' = .slice (some ⟨ga', 0, none⟩) (m + 1) ca' ∧ w1.cell? ⟨w.heap.size + 2, 1, none⟩ = some xb ∧ w1.frozen? ⟨w.heap.size + 2, 1, none⟩ = false ∧ Hid (LeafRel W0 (w1.setCell ⟨w.heap.size + 2, 1, none⟩ v') (w.heap.size + 2) (m + 1) (sumS S' N' a X) (.slice (some ⟨ga, 0, none⟩) (m + 1) ca) v' (fun b => if b = m then sl0 V1.heap.size S' else u b))) := fun v' w1 hg ho =>
                  LeafRel.sec' (grownBy_trans B1 hgV4) ((hgV4.block _ (lt_of_heap B2) (by simp)).trans B2) (by omega) (own_more B3 hgV4) HOb.out (fun a ha => (B5 a ha).k5more hgV4) (hby2.k5more hgV4) hg ho
                have HSz4 : Hid (W0.heap.size ≤ V4.heap.size) := (grownBy_trans B1 hgV4).size
                have Hv4 : Hid _ := hV4
                clear HB1 hw2 B1 B2 B3 B4 B5 B6 hby2 hV4 hgV4 C1 F1 ho1 hg1 s0 s1' s2' b0 HNews HRV HOs HBy HSz2 Hv3
                go_upto_region 12 with (first | (rw [← Hv4.out]) | (at_builtin; refine wpList_append_own _ rfl (.tmp 130) (.tmp 132) 30 rfl W0.heap.size 49 i49 nilS 1 24 Try.underlying30 hi'' hz0'' hz1'' hz2'' rfl (by decide) xb m (flat m (oneE u)) rfl HOb.out ⟨w2.heap.size, 0, none⟩ 1 1 [sl0 V1.heap.size S'] rfl rfl HN2.out (by intro z hz; simp at hz; subst hz; rfl) (by unfold maxLen; omega) (by omega) HSz4.out ?_; intro v5 w5 ho5 hg5 _; obtain ⟨ga5, ca5, rfl, C5, F5, HB5⟩ := HE4.out _ _ hg5 ho5))
                go_wp2
                go_roundw
                case rel => exact ⟨m + 1, _, _, _, by omega, by go_num, HB5.out⟩
                case measure => simp [intOf]; omega
          · obtain rfl : m = N' := by omega
            have p1 : ¬ (m : Int) < (m : Int) := by omega
            obtain ⟨xa, xc, rfl, _, _⟩ := own_len hR.os
            obtain ⟨ya, yc, rfl, _, _⟩ := own_len hR.ob
            have b0 : wr.cell? ⟨w.heap.size + 2, 0, none⟩ = some (.slice xa m xc) := cell_at hR.box rfl
            have b1 : wr.cell? ⟨w.heap.size + 2, 1, none⟩ = some (.slice ya m yc) := cell_at hR.box rfl
            have r0 : wr.cell? ⟨w.heap.size + 1, 0, none⟩ = some nilS := cell_at hres rfl
            have r1 : wr.cell? ⟨w.heap.size + 1, 1, none⟩ = some nilS := cell_at hres rfl
            have r2 : wr.frozen? ⟨w.heap.size + 1, 0, none⟩ = false := free_at hres
            have r3 : wr.frozen? ⟨w.heap.size + 1, 1, none⟩ = false := free_at hres
            have hlm := hR.done (B := w.heap.size) rfl rfl (fun i hi => (HXs.out i hi).1) (by omega)
            have HLm : Hid (LeafM ((wr.setCell ⟨w.heap.size + 1, 0, none⟩ (.slice xa m xc)).setCell ⟨w.heap.size + 1, 1, none⟩ (.slice ya m yc)) (KT ((wr.setCell ⟨w.heap.size + 1, 0, none⟩ (.slice xa m xc)).setCell ⟨w.heap.size + 1, 1, none⟩ (.slice ya m yc)) w.heap.size) (.slice xa m xc) (.slice ya m yc) (sumS S' m k X)) := (hlm.box hres).box (box_put hres (.inl rfl))
            have HG4 : Hid (w.grownBy ((wr.setCell ⟨w.heap.size + 1, 0, none⟩ (.slice xa m xc)).setCell ⟨w.heap.size + 1, 1, none⟩ (.slice ya m yc)) none) := grownBy_set (grownBy_set hgl (by omega) _) (by omega) _
            have z0 := set_two0 r0 (.slice xa m xc)
            have z1 := set_two1 (u := .slice xa m xc) r1 (.slice ya m yc)
            clear hR hlm hlay hres hgl
            go_wp2
            exact bodyPost_ret (v := .tuple #[.agg #[.slice xa m xc, .slice ya m yc], num 0]) (by simp [results, Try.results13, go_sem, z0, z1]) rfl ⟨_, _, _, _, _, _, 0, rfl, HG4.out, .inl ⟨HGood.out, rfl, by simpa using HLm.out⟩⟩
  · have HNo : Hid (¬ Good S N n X) := fun hg => hL hg.1
    have hcs := lay_no hL
    have q0 := set_two0 x0 nilS
    have q1 := set_two1 (u := nilS) x1 nilS
    have HR : Hid _ := HRe.out _ HNo.out (HRet.out W (grownBy_refl _ _))
    clear hL
    rcases hcs with h1 | ⟨h1, h2⟩ | ⟨h1, h2, h3⟩ | ⟨h1, h2, h3, h4⟩
    · have e1 : decide (S < 1) = true := by simpa using h1
      go_enter Try.func13, Try.ntmps13
      go_wp2_with (rw [← Hw.out])
      exact bodyPost_ret (v := .tuple #[noLeaf, num 1]) (by simp [results, Try.results13, go_sem, q0, q1]) rfl HR.out
    · have e1 : decide (S < 1) = false := by simpa using h1
      have e2 : decide (256 < S) = true := by simpa using h2
      go_enter Try.func13, Try.ntmps13
      go_wp2_with (rw [← Hw.out])
      exact bodyPost_ret (v := .tuple #[noLeaf, num 1]) (by simp [results, Try.results13, go_sem, q0, q1]) rfl HR.out
    · have e1 : decide (S < 1) = false := by simpa using h1
      have e2 : decide (256 < S) = false := by simpa using h2
      have e3 : decide (N < 1) = true := by simpa using h3
      go_enter Try.func13, Try.ntmps13
      go_wp2_with (rw [← Hw.out])
      exact bodyPost_ret (v := .tuple #[noLeaf, num 1]) (by simp [results, Try.results13, go_sem, q0, q1]) rfl HR.out
    · have e1 : decide (S < 1) = false := by simpa using h1
      have e2 : decide (256 < S) = false := by simpa using h2
      have e3 : decide (N < 1) = false := by simpa using h3
      have e4 : decide (8 < N) = true := by simpa using h4
      go_enter Try.func13, Try.ntmps13
      go_wp2_with (rw [← Hw.out])
      exact bodyPost_ret (v := .tuple #[noLeaf, num 1]) (by simp [results, Try.results13, go_sem, q0, q1]) rfl HR.out
theorem ksum_ok {w : World} {K : Nat → Prop} {v : Value} {n : Nat} {X : Nat → Leaf} (h : LeavesM w K v n X) (S N T : Int) : Calls Try.prog 13 #[layV S N T, v] w (Ans w (Good S N n X) (sumS S.toNat N.toNat n X)) := by
  refine (ksum_okB h S N T).mono ?_
  rintro e w' ⟨a1, n1, c1, a2, n2, c2, er, rfl, hg, h⟩
  refine ⟨a1, n1, c1, a2, n2, c2, er, rfl, hg, ?_⟩
  rcases h with ⟨h1, h2, h3⟩ | h
  · exact .inl ⟨h1, h2, _, h3⟩
  · exact .inr h
end Sp
end Go.Proofs.Ytjokedggmhiklaa
