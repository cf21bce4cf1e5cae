/- Layer 6 (stripe): Mend of the reference. -/
import Derived.Test.YtjokedggmhiklaaSt
namespace Go.Proofs.Ytjokedggmhiklaa
open Go.RowKit Go.Maps
namespace Sp
theorem LeavesM.chosen {w : World} {K : Nat → Prop} {n g off : Nat} {X : Nat → Leaf} (h : ∀ k, k < n → LeafAt w K g (off + k * 2) (X k)) : ∃ s b : Nat → Value, ∀ k, k < n → w.cell? ⟨g, off + k * 2, none⟩ = some (s k) ∧ w.cell? ⟨g, off + k * 2 + 1, none⟩ = some (b k) ∧ LeafM w K (s k) (b k) (X k) := by
  have h1 : ∀ k, ∃ p : Value × Value, k < n → w.cell? ⟨g, off + k * 2, none⟩ = some p.1 ∧ w.cell? ⟨g, off + k * 2 + 1, none⟩ = some p.2 ∧ LeafM w K p.1 p.2 (X k) := fun k => by
    by_cases hk : k < n
    · obtain ⟨sv, bv, a1, a2, a3⟩ := h k hk
      exact ⟨(sv, bv), fun _ => ⟨a1, a2, a3⟩⟩
    · exact ⟨(nilS, nilS), fun h => absurd h hk⟩
  obtain ⟨f, hf⟩ := Classical.axiomOfChoice h1
  exact ⟨fun k => (f k).1, fun k => (f k).2, hf⟩
def skip (m : Nat) (s : Nat → Value) (a : Nat) : Value := if a < m then s a else s (a + 1)
def cnt (m k : Nat) : Nat := if k ≤ m then k else k - 1
theorem skip_cnt {m k : Nat} (s : Nat → Value) (h : k ≠ m) : skip m s (cnt m k) = s k := by
  unfold skip cnt
  by_cases e : k ≤ m
  · rw [if_pos e, if_pos (by omega)]
  · rw [if_neg e, if_neg (by omega), show k - 1 + 1 = k by omega]
set_option maxHeartbeats 6400000 in
set_option maxRecDepth 4000 in
theorem kmend_ok {w : World} {K : Nat → Prop} {v : Value} {n : Nat} {X : Nat → Leaf} (h : LeavesM w K v n X) (hn : n ≤ 2932031007402) (S N T m : Int) :
    Calls Try.prog 15 #[layV S N T, v, num m] w (Ans w (MendGood S N n X m) (MendS S N n X m)) := by
  obtain ⟨ao, cap, rfl, s1, s2, _⟩ := id h
  obtain ⟨i32, hi, hz0, hz1, hz2⟩ := info_parts info32
  have n1 : (n : Int) ≤ 2932031007402 := by omega
  obtain ⟨W, hW⟩ : ∃ W, W = (w.alloc (layL S N T)).alloc (leafL nilS nilS) := ⟨_, rfl⟩
  have hgW : w.grownBy W none := by rw [hW]; exact grownBy_alloc' (World.grownBy_alloc w _ none) _
  have hb1 : W.heap[w.heap.size]? = some (layL S N T) := by rw [hW, (World.grownBy_alloc (w.alloc (layL S N T)) _ none).block _ (lt_of_heap (heap_alloc_new w _)) (by simp)]; exact heap_alloc_new w _
  have hb2 : W.heap[w.heap.size + 1]? = some (leafL nilS nilS) := by
    have := heap_alloc_new (w.alloc (layL S N T)) (leafL nilS nilS)
    rw [hW]; simpa using this
  have HRe : Hid (∀ u, ¬ MendGood S N n X m → w.grownBy u none → Ans w (MendGood S N n X m) (MendS S N n X m) (.returned (.tuple #[noLeaf, num 1])) u) := fun u hg hu => ⟨none, 0, 0, none, 0, 0, 1, rfl, hu, .inr ⟨hg, rfl, rfl, rfl, rfl, rfl, rfl, rfl⟩⟩
  have Hw : Hid _ := hW
  have x0 : W.cell? ⟨w.heap.size + 1, 0, none⟩ = some nilS := cell_at hb2 rfl
  have x1 : W.cell? ⟨w.heap.size + 1, 1, none⟩ = some nilS := cell_at hb2 rfl
  have x2 : W.frozen? ⟨w.heap.size + 1, 0, none⟩ = false := free_at hb2
  have x3 : W.frozen? ⟨w.heap.size + 1, 1, none⟩ = false := free_at hb2
  have q0 := set_two0 x0 nilS
  have q1 := set_two1 (u := nilS) x1 nilS
  have HG0 : Hid (w.grownBy ((W.setCell ⟨w.heap.size + 1, 0, none⟩ nilS).setCell ⟨w.heap.size + 1, 1, none⟩ nilS) none) := grownBy_set (grownBy_set hgW (by omega) _) (by omega) _
  by_cases h1 : m < 0
  · have e1 : decide (m < 0) = true := by simpa using h1
    have hno : Hid (¬ MendGood S N n X m) := fun hg => by have := hg.1; omega
    clear hW hb1 hb2
    go_enter Try.func15, Try.ntmps15
    go_wp2_with (rw [← Hw.out])
    exact bodyPost_ret (v := .tuple #[noLeaf, num 1]) (by simp [results, Try.results15, go_sem, q0, q1]) rfl (HRe.out _ hno.out HG0.out)
  · have e1 : decide (m < 0) = false := by simpa using h1
    by_cases h2 : (n : Int) ≤ m
    · have e2 : decide ((n : Int) ≤ m) = true := by simpa using h2
      have hno : Hid (¬ MendGood S N n X m) := fun hg => by have := hg.2.1; omega
      clear hW hb1 hb2
      go_enter Try.func15, Try.ntmps15
      go_wp2_with (rw [← Hw.out])
      exact bodyPost_ret (v := .tuple #[noLeaf, num 1]) (by simp [results, Try.results15, go_sem, q0, q1]) rfl (HRe.out _ hno.out HG0.out)
    · have e2 : decide ((n : Int) ≤ m) = false := by simpa using h2
      by_cases h3 : (n : Int) < 2
      · have e3 : decide ((n : Int) < 2) = true := by simpa using h3
        have hno : Hid (¬ MendGood S N n X m) := fun hg => by have := hg.2.2.1; omega
        clear hW hb1 hb2
        go_enter Try.func15, Try.ntmps15
        go_wp2_with (rw [← Hw.out])
        exact bodyPost_ret (v := .tuple #[noLeaf, num 1]) (by simp [results, Try.results15, go_sem, q0, q1]) rfl (HRe.out _ hno.out HG0.out)
      · have e3 : decide ((n : Int) < 2) = false := by simpa using h3
        obtain ⟨m, rfl⟩ : ∃ m' : Nat, m = m' := ⟨m.toNat, by omega⟩
        have hmn : m < n := by omega
        have hn2 : 2 ≤ n := by omega
        obtain ⟨g, off, rfl, _, _, _, hat⟩ := h.at (k := 0) (by omega)
        obtain ⟨s, b, hsb⟩ := LeavesM.chosen hat
        have hlg : g < w.heap.size := lt_of_cell (hsb 0 (by omega)).1
        have HSb : Hid _ := hsb
        have HGd : Hid (Good S N (n - 1) (others X m) ↔ MendGood S N n X m) := ⟨fun hg => ⟨by omega, by omega, hn2, by simpa using hg⟩, fun hg => by simpa using hg.2.2.2⟩
        have HMs : Hid (MendS S N n X m = sumS S.toNat N.toNat (n - 1) (others X m)) := by simp [Hid, MendS]
        have HBo : Hid (∀ wx, W.grownBy wx none → (wx.heap[w.heap.size + 1]? = some (leafL nilS nilS)) ∧ Three wx w.heap.size (num S) (num N) (num T)) := fun wx hg => ⟨(hg.block _ (lt_of_heap hb2) (by simp)).trans hb2, three_keep (w := W) ⟨cell_at hb1 rfl, cell_at hb1 rfl, cell_at hb1 rfl⟩ hg⟩
        have HgW : Hid _ := hgW
        have hWs : w.heap.size < W.heap.size := lt_of_heap hb1
        clear hW hb1 hb2 x0 x1 x2 x3 q0 q1 HG0 HRe hat hsb hgW h2 h3
        go_enter Try.func15, Try.ntmps15
        go_wp2_with (rw [← Hw.out])
        go_loopw [8, 9] (fun o i wr => ∃ k : Nat, k ≤ n ∧ i = num k ∧ W.grownBy wr none ∧ wr.ownsRow W.heap.size 32 2 o (cnt m k) (flat (cnt m k) (twoE (skip m s) (skip m b)))) (fun _ i _ => n - (intOf i).toNat)
        case atStart => exact ⟨0, Nat.zero_le _, rfl, grownBy_refl _ _, World.ownsRow_nil _ _ _ _⟩
        case round =>
          clear Hw e1 e2 e3
          obtain ⟨k, hk, rfl, hg, hown⟩ := hrel
          by_cases hkn : k < n
          · have q1 : (k : Int) < (n : Int) := by omega
            by_cases hkm : k = m
            · subst hkm
              have q2 : ((k : Int) != (k : Int)) = false := by simp
              have HO : Hid (wr.ownsRow W.heap.size 32 2 u8 (cnt k (k + 1)) (flat (cnt k (k + 1)) (twoE (skip k s) (skip k b)))) := by
                have e : cnt k (k + 1) = cnt k k := by simp [cnt]
                rw [Hid, e]; exact hown
              have HG : Hid _ := hg
              clear hown hg
              go_wp2
              go_roundw
              case rel => exact ⟨k + 1, by omega, by go_num, HG.out, HO.out⟩
              case measure => simp [intOf]; omega
            · have q2 : ((k : Int) != (m : Int)) = true := by simp; omega
              obtain ⟨d1, d2, hLf⟩ := HSb.out k hkn
              have hgr := grownBy_trans HgW.out hg
              obtain ⟨sa, sc, es, _⟩ := id hLf.sl
              obtain ⟨ba, bc, eb, _⟩ := id hLf.se
              rw [es] at d1
              rw [eb] at d2
              have d1' := (Kept.of_grown (K := All) hgr).cell trivial d1
              have d2' := (Kept.of_grown (K := All) hgr).cell trivial d2
              have lg := lt_of_cell d1'
              have hs1 : skip m s (cnt m k) = .slice sa (X k).n sc := by
                rw [← es]; exact skip_cnt s hkm
              have hs2 : skip m b (cnt m k) = .slice ba (X k).m bc := by
                rw [← eb]; exact skip_cnt b hkm
              have hc1 : cnt m (k + 1) = cnt m k + 1 := by
                unfold cnt
                by_cases e : k < m
                · rw [if_pos (by omega), if_pos (by omega)]
                · rw [if_neg (by omega), if_neg (by omega)]; omega
              have hcn : cnt m k + 1 ≤ 2932031007402 := by unfold cnt; split <;> omega
              obtain ⟨V6, hV6⟩ : ∃ V6, V6 = wr.alloc (leafL (.slice sa (X k).n sc) (.slice ba (X k).m bc)) := ⟨_, rfl⟩
              have hgV6 : wr.grownBy V6 none := by rw [hV6]; exact World.grownBy_alloc wr _ none
              have HNe6 : Hid (∀ j z, [Value.slice sa (X k).n sc, Value.slice ba (X k).m bc][j]? = some z → V6.cell? ((⟨wr.heap.size, 0, none⟩ : Addr).add j) = some z) := by rw [hV6]; exact cell_two' wr _ _ _
              have hg06 := grownBy_trans hg hgV6
              have HO6 : Hid _ := own_more hown hgV6
              have HSz6 : Hid (W.heap.size ≤ V6.heap.size) := hg06.size
              have HAll : Hid (∀ (v' : Value) (w1 : World), V6.grownBy w1 u8.ownBlock → w1.ownsRow W.heap.size 32 2 v' (cnt m k + 1) (flat (cnt m k) (twoE (skip m s) (skip m b)) ++ [Value.slice sa (X k).n sc, Value.slice ba (X k).m bc]) → W.grownBy w1 none ∧ w1.ownsRow W.heap.size 32 2 v' (cnt m (k + 1)) (flat (cnt m (k + 1)) (twoE (skip m s) (skip m b)))) := fun v' w1 hg1 ho1 => by
                refine ⟨own_grown HO6.out hg06 (Nat.le_refl _) hg1, ?_⟩
                rw [hc1, flat_succ]
                simp only [twoE, hs1, hs2]
                exact ho1
              have Hv6 : Hid _ := hV6
              clear hV6 hgV6 hg06 hown hg hs1 hs2 hc1 d1 d2 hgr hLf es eb
              generalize cnt m k = C at HO6 HAll hcn
              go_upto_region 6 with (first | (rw [← Hv6.out]) | (at_builtin; refine wpList_append_own _ rfl (.tmp 33) (.tmp 38) 28 rfl W.heap.size 32 i32 (.agg #[nilS, nilS]) 2 48 Try.underlying28 hi hz0 hz1 hz2 rfl (by decide) u8 C (flat C (twoE (skip m s) (skip m b))) rfl HO6.out ⟨wr.heap.size, 0, none⟩ 1 1 [Value.slice sa (X k).n sc, Value.slice ba (X k).m bc] rfl rfl HNe6.out (by intro z hz; simp at hz; rcases hz with rfl | rfl <;> rfl) (by unfold maxLen; omega) (by omega) HSz6.out ?_; intro v7 w7 ho7 hg7 _))
              obtain ⟨r1, r2⟩ := HAll.out v7 w7 hg7 ho7
              have HR1 : Hid _ := r1
              have HR2 : Hid _ := r2
              clear ho7 hg7 HAll r1 r2 HO6 HSz6 HNe6
              go_wp2
              go_roundw
              case rel => exact ⟨k + 1, by omega, by go_num, HR1.out, HR2.out⟩
              case measure => simp [intOf]; omega
          · obtain rfl : k = n := by omega
            have q1 : ¬ (k : Int) < (k : Int) := by omega
            have hc : cnt m k = k - 1 := by unfold cnt; rw [if_neg (by omega)]
            rw [hc] at hown
            have hgr := grownBy_trans HgW.out hg
            have hL : LeavesM wr All u8 (k - 1) (others X m) := leaves_of_own (s := skip m s) (b := skip m b) hown (fun _ _ _ _ => trivial) fun a ha => by
              unfold skip others
              by_cases e : a < m
              · rw [if_pos e, if_pos e, if_pos e]; exact ((HSb.out a (by omega)).2.2.more hgr).sub fun _ _ => trivial
              · rw [if_neg e, if_neg e, if_neg e]; exact ((HSb.out (a + 1) (by omega)).2.2.more hgr).sub fun _ _ => trivial
            obtain ⟨xa, xc, rfl, _, _⟩ := own_len hown
            obtain ⟨_, c0, c1, c2⟩ := HBo.out wr hg
            have HGr : Hid _ := hg
            have HL : Hid (Calls Try.prog 13 #[layV S N T, .slice xa (k - 1) xc] wr (Ans wr (Good S N (k - 1) (others X m)) (sumS S.toNat N.toNat (k - 1) (others X m)))) := ksum_ok hL S N T
            clear hown hg hL hgr hc
            go_wp2_with fail
            refine HL.out.mono ?_
            rintro e wd ⟨a1, n1', c1', a2, n2', c2', er, rfl, hgd, hAn⟩
            have hgWd := grownBy_trans HGr.out hgd
            have hbd := (HBo.out wd hgWd).1
            have zc0 := cell_at (o := 0) hbd rfl
            have zc1 := cell_at (o := 1) hbd rfl
            have zf0 := free_at (o := 0) hbd
            have zf1 := free_at (o := 1) hbd
            have HG4 : Hid (w.grownBy ((wd.setCell ⟨w.heap.size + 1, 0, none⟩ (.slice a1 n1' c1')).setCell ⟨w.heap.size + 1, 1, none⟩ (.slice a2 n2' c2')) none) := grownBy_set (grownBy_set (grownBy_trans HgW.out hgWd) (by omega) _) (by omega) _
            have z0 := set_two0 zc0 (.slice a1 n1' c1')
            have z1 := set_two1 (u := .slice a1 n1' c1') zc1 (.slice a2 n2' c2')
            have HF : Hid ((MendGood S N k X m ∧ er = 0 ∧ ∃ B, LeafM ((wd.setCell ⟨w.heap.size + 1, 0, none⟩ (.slice a1 n1' c1')).setCell ⟨w.heap.size + 1, 1, none⟩ (.slice a2 n2' c2')) (KT ((wd.setCell ⟨w.heap.size + 1, 0, none⟩ (.slice a1 n1' c1')).setCell ⟨w.heap.size + 1, 1, none⟩ (.slice a2 n2' c2')) B) (.slice a1 n1' c1') (.slice a2 n2' c2') (MendS S N k X m)) ∨ (¬ MendGood S N k X m ∧ er = 1 ∧ a1 = none ∧ n1' = 0 ∧ c1' = 0 ∧ a2 = none ∧ n2' = 0 ∧ c2' = 0)) := by
              rcases hAn with ⟨p1, p2, B, p3⟩ | ⟨p1, p2⟩
              · left
                refine ⟨HGd.out.1 p1, p2, B, ?_⟩
                rw [HMs.out]
                exact (p3.box hbd).box (box_put hbd (.inl rfl))
              · exact .inr ⟨fun h => p1 (HGd.out.2 h), p2⟩
            clear hAn HGd HMs hgWd hgd HBo HL hbd
            go_wp2
            exact bodyPost_ret (v := .tuple #[.agg #[.slice a1 n1' c1', .slice a2 n2' c2'], num er]) (by simp [results, Try.results15, go_sem, z0, z1]) rfl ⟨_, _, _, _, _, _, _, rfl, HG4.out, HF.out⟩
end Sp
end Go.Proofs.Ytjokedggmhiklaa
