/- The walk of CrcTogether. -/
import Derived.Test.YtpdbjibjicbckaaDoorZXf
import Derived.Test.YtpdbjibjicbckaaDoorZXg
import Derived.Test.YtpdbjibjicbckaaDoorZXh
import Derived.Deep.AppendLies
import Derived.Deep.RegionLaw
namespace Go.Proofs.YtpdbjibjicbckaaDoor
open Go.RowKit
namespace Cr
/-- A row of bytes of one's own that grows. -/
structure RowB (w0 wr : World) (v : Value) (S : List Nat) : Prop where
  own : wr.ownsRow w0.heap.size 5 1 v S.length (valsB S)
  more : w0.grownBy wr none
theorem RowB.append {w0 wr w6 : World} {v v' o : Value} {S : List Nat} {c : Nat} (h : RowB w0 wr v S) (hown : w6.ownsRow w0.heap.size 5 1 v' (S.length + 1) (valsB S ++ [.int .u8 (c : Nat)])) (hgrow : (wr.alloc (.cells #[o] 5)).grownBy w6 v.ownBlock) : RowB w0 w6 v' (S ++ [c]) := by
  have hsz := h.more.size
  have hsz6 := hgrow.size
  simp at hsz6
  have hob : ∀ k, v.ownBlock = some k → w0.heap.size ≤ k := fun k hk => (h.own.lt k hk).1
  refine ⟨?_, ⟨hgrow.os.trans h.more.os, hgrow.tape.trans h.more.tape, hgrow.output.trans h.more.output, by omega, fun k hk _ => ?_⟩⟩
  · have e1 : valsB (S ++ [c]) = valsB S ++ [.int .u8 (c : Nat)] := by simp [valsB]
    rw [e1, List.length_append]
    exact hown
  · rw [hgrow.block k (by simp; omega) (fun e => by have := hob k e.symm; omega), ← h.more.block k hk (by simp)]
    exact Below.heap_alloc _ _ _ (by omega)
theorem cell_one_new (w : World) (v : Value) : ∀ j u, [v][j]? = some u → (w.alloc (.cells #[v] 5)).cell? ((⟨w.heap.size, 0, none⟩ : Addr).add j) = some u := fun j u hj => by
  rw [addr_add', Nat.zero_add, cell_row (L := [v]) (heap_alloc_new w _), hj]
theorem RdB.take {w : World} {ao : Option Addr} {bs : List Nat} (h : RdB w ao bs) (n : Nat) : RdB w ao (bs.take n) := by
  have hn : ∀ j, j < n → j < bs.length → nth (bs.take n) j = nth bs j := fun j hj hl => by
    rw [nth_of (by simp; omega), nth_of hl]; simp
  refine ⟨fun j => ?_, ?_⟩
  · by_cases hj : j < n ∧ j < bs.length
    · rw [hn j hj.1 hj.2]; exact h.1 j
    · rw [nth_over _ (by simp; omega)]; omega
  · rcases h.2 with rfl | ⟨g, off, e, hc⟩
    · exact .inl (by simp)
    · exact .inr ⟨g, off, e, fun j hj => by
        have h1 : j < n ∧ j < bs.length := by simp at hj; omega
        rw [hn j h1.1 h1.2]; exact hc j h1.2⟩
theorem nth_xl {a b : List Nat} (h : a.length = b.length) (k : Nat) : nth (xl a b) k = nth a k ^^^ nth b k := by
  by_cases hk : k < a.length
  · rw [nth_of (by rw [xl_len h]; exact hk), nth_of hk, nth_of (by omega)]
    simp [xl]
  · rw [nth_over _ (by rw [xl_len h]; omega), nth_over a (by omega), nth_over b (by omega)]; rfl
theorem nth_take {l : List Nat} {n k : Nat} (h : k < n) : nth (l.take n) k = nth l k := by
  unfold nth
  rw [List.getD_eq_getElem?_getD, List.getElem?_take, if_pos h, ← List.getD_eq_getElem?_getD]
/-- Three rows together, up to a length. -/
def tri (a b c : List Nat) (n : Nat) : List Nat := xl (xl (a.take n) (b.take n)) (c.take n)
theorem tri_len {a b c : List Nat} {n : Nat} (h1 : n ≤ a.length) (h2 : n ≤ b.length) (h3 : n ≤ c.length) : (tri a b c n).length = n := by
  unfold tri
  rw [xl_len, xl_len] <;> simp [xl] <;> omega
theorem tri_nth {a b c : List Nat} {n k : Nat} (h1 : n ≤ a.length) (h2 : n ≤ b.length) (h3 : n ≤ c.length) (hk : k < n) : nth (tri a b c n) k = nth a k ^^^ nth b k ^^^ nth c k := by
  unfold tri
  rw [nth_xl (by rw [xl_len] <;> simp <;> omega), nth_xl (by simp; omega), nth_take hk, nth_take hk, nth_take hk]
theorem tri_crc {a b c : List Nat} {n : Nat} (h1 : n ≤ a.length) (h2 : n ≤ b.length) (h3 : n ≤ c.length) : crc (a.take n) ^^^ crc (b.take n) ^^^ crc (c.take n) = crc (tri a b c n) :=
  crc_three (by simp; omega) (by simp; omega)
set_option maxHeartbeats 6400000 in
set_option maxRecDepth 4000 in
theorem law_CrcTogether {w : World} (aa : Option Addr) (la ca : Nat) (xs : List Nat) (ha : ArgB w aa la xs) (hla : la ≤ 140737488351232 ∧ la ≤ ca ∧ (aa = none → ca = 0)) (ab : Option Addr) (lb cb : Nat) (bs : List Nat) (hb : ArgB w ab lb bs) (hlb : lb ≤ 140737488351232 ∧ lb ≤ cb ∧ (ab = none → cb = 0)) (ac : Option Addr) (lc cc : Nat) (cs : List Nat) (hc : ArgB w ac lc cs) (hlc : lc ≤ 140737488351232 ∧ lc ≤ cc ∧ (ac = none → cc = 0)) (hG : Glob w) (_h0 : 0 < w.heap.size) :
    Calls Tryd.prog 6 #[.slice aa la ca, .slice ab lb cb, .slice ac lc cc] w fun e w' => e = .returned (.bool true) ∧ w.grownBy w' none := by
  obtain ⟨rfl, ha⟩ := ha
  obtain ⟨rfl, hb⟩ := hb
  obtain ⟨rfl, hc⟩ := hc
  obtain ⟨i0, hi, hz0, hz1, hz2⟩ := info_parts Tryd.info5
  obtain ⟨hla, hla2, _⟩ := hla
  obtain ⟨hlb, hlb2, _⟩ := hlb
  obtain ⟨hlc, hlc2, _⟩ := hlc
  have f1 : (xs.length : Int) ≤ ca := by omega
  have f2 : (bs.length : Int) ≤ cb := by omega
  have f3 : (cs.length : Int) ≤ cc := by omega
  by_cases h1 : bs.length < xs.length
  · by_cases h2 : cs.length < bs.length
    · have q1 : (bs.length : Int) < (xs.length : Int) := by omega
      have q2 : (cs.length : Int) < (bs.length : Int) := by omega
      have q3 : (cs.length : Int) ≤ ca := by omega
      have q4 : (cs.length : Int) ≤ cb := by omega
      have hn1 : cs.length ≤ xs.length := by omega
      have hn2 : cs.length ≤ bs.length := by omega
      have hn3 : cs.length ≤ cs.length := by omega

      go_enter Tryd.func6, Tryd.ntmps6
      go_wp2_with fail
      refine (awake_ok hG).mono ?_
      rintro e w1 ⟨rfl, hg1⟩
      have hD0 : RowB w1 w1 (.slice none 0 0) ((tri xs bs cs cs.length).take 0) := ⟨World.ownsRow_nil _ _ _ _, World.grownBy.refl _ _⟩
      go_wp2_with fail
      go_loopw [10, 9] (fun i d wr => ∃ k : Nat, k ≤ cs.length ∧ i = num k ∧ RowB w1 wr d ((tri xs bs cs cs.length).take k)) (fun i _ _ => cs.length - (intOf i).toNat)
      case atStart => exact ⟨0, Nat.zero_le _, rfl, hD0⟩
      case round =>
        clear hD0
        obtain ⟨k, hk, rfl, hS⟩ := hrel
        have hgw := grownBy_trans hg1 hS.more
        by_cases hlt : k < cs.length
        · have bk : (k : Int) < (cs.length : Int) := by omega
          have bk1 : (k : Int) < (xs.length : Int) := by omega
          have bk2 : (k : Int) < (bs.length : Int) := by omega
          have bk3 : (k : Int) < (cs.length : Int) := by omega
          have ha1 := (ha.more hgw)
          have hb1 := (hb.more hgw)
          have hc1 := (hc.more hgw)
          have xa := ha1.1 k
          have xb := hb1.1 k
          have xc := hc1.1 k
          obtain ⟨ga, oa, haa, hca⟩ := ha1.2.resolve_left (fun e => by have : xs.length = 0 := by { rw [e]; rfl }; omega)
          obtain ⟨gb, ob, hbb, hcb⟩ := hb1.2.resolve_left (fun e => by have : bs.length = 0 := by { rw [e]; rfl }; omega)
          obtain ⟨gc, oc, hcc, hcc'⟩ := hc1.2.resolve_left (fun e => by have : cs.length = 0 := by { rw [e]; rfl }; omega)
          subst haa hbb hcc
          have ka := hca k (by omega)
          have kb := hcb k (by omega)
          have kc := hcc' k (by omega)
          have e1 := xor_u8 xa xb
          have e2 := xor_u8 (xor_le xa xb) xc
          have HT : Hid ((tri xs bs cs cs.length).take (k + 1) = (tri xs bs cs cs.length).take k ++ [nth xs k ^^^ nth bs k ^^^ nth cs k]) := by rw [Hid, take_snoc (by rw [tri_len hn1 hn2 hn3]; exact hlt), tri_nth hn1 hn2 hn3 hlt]
          have hSl : ((tri xs bs cs cs.length).take k).length = k := by rw [List.length_take, tri_len hn1 hn2 hn3]; omega
          generalize (tri xs bs cs cs.length).take k = S at hS HT hSl
          generalize nth xs k = A at xa ka e1 e2 HT
          generalize nth bs k = B at xb kb e1 e2 HT
          generalize nth cs k = C at xc kc e2 HT
          generalize A ^^^ B = AB at e1 e2 HT
          generalize AB ^^^ C = x at e2 HT
          clear hca hcb hcc' ha1 hb1 hc1 hgw ha hb hc
          have HSl : Hid _ := hSl
          have hSle : S.length ≤ 140737488351232 := by omega
          clear hSl
          go_wp2_with fail
          go_region_law (refine step_append_lies _ rfl (.tmp 33) (.tmp 48) 22 rfl w1.heap.size 5 i0 (.int .u8 0) 1 1 Tryd.underlying22 hi hz0 hz1 hz2 rfl (by decide) u9 S.length (valsB S) rfl (by exact hS.own.alloc _) ⟨wr.heap.size, 0, none⟩ 1 1 [.int .u8 (x : Nat)] rfl rfl (by exact cell_one_new _ _) (by intro u hu; simp at hu; subst hu; rfl) (by decide) (by unfold maxLen; omega) (by omega) (by have := hS.more.size; simp; omega) _ rfl ?_; intro g6 cap6 w7 hown hgrow hor hlt6; (have hgrow' : (wr.alloc (.cells #[.int .u8 (x : Nat)] 5)).grownBy w7 u9.ownBlock := ⟨hgrow.os, hgrow.tape, hgrow.output, hgrow.size, hgrow.block⟩))
          all_goals
            have hN := hS.append hown hgrow'
            rw [← HT.out] at hN
            clear hown hgrow hgrow' hor hlt6 hS
            go_wp2
            go_roundw
            case rel => exact ⟨k + 1, by omega, by go_num, hN⟩
            case measure => simp [intOf]; omega
        · obtain rfl : k = cs.length := by omega
          have bk : ¬ (cs.length : Int) < (cs.length : Int) := by omega
          rw [List.take_of_length_le (by rw [tri_len hn1 hn2 hn3]; exact Nat.le_refl _)] at hS
          have hle : ∀ x ∈ tri xs bs cs cs.length, x ≤ 255 := mem_le fun i => by
            by_cases hi : i < cs.length
            · rw [tri_nth hn1 hn2 hn3 hi]; exact xor_le (xor_le (ha.1 i) (hb.1 i)) (hc.1 i)
            · rw [nth_over _ (by rw [tri_len hn1 hn2 hn3]; omega)]; omega
          obtain ⟨ad, cd, rfl, hrd⟩ := rd_own hS.own hle
          have hdr := fun n => grownBy_drewN (World.grownBy.refl wr none) n
          have k1 := fun n => sum_ok (w := wr.drewN n) ((hG.more hgw).more (hdr n)) aa ca (xs.take cs.length) (((ha.more hgw).more (hdr n)).take _) (by simp; omega)
          have k2 := fun n => sum_ok (w := wr.drewN n) ((hG.more hgw).more (hdr n)) ab cb (bs.take cs.length) (((hb.more hgw).more (hdr n)).take _) (by simp; omega)
          have k3 := fun n => sum_ok (w := wr.drewN n) ((hG.more hgw).more (hdr n)) ac cc (cs.take cs.length) (((hc.more hgw).more (hdr n)).take _) (by simp; omega)
          have k4 := fun n => sum_ok (w := wr.drewN n) ((hG.more hgw).more (hdr n)) ad cd (tri xs bs cs cs.length) (hrd.more (hdr n)) (by rw [tri_len hn1 hn2 hn3]; omega)
          rw [List.length_take, Nat.min_eq_left hn1] at k1
          rw [List.length_take, Nat.min_eq_left hn2] at k2
          rw [List.length_take, Nat.min_eq_left hn3] at k3
          simp only [tri_len hn1 hn2 hn3] at k4 ⊢
          have w1' : W32 (crc (xs.take cs.length)) := crc_lt (ha.take _).le
          have w2' : W32 (crc (bs.take cs.length)) := crc_lt (hb.take _).le
          have w3' : W32 (crc (cs.take cs.length)) := crc_lt (hc.take _).le
          have e1 := xor_u32 w1' w2'
          have e2 := xor_u32 (w_xor w1' w2') w3'
          rw [tri_crc hn1 hn2 hn3] at e2
          have K1 : Hid _ := k1
          have K2 : Hid _ := k2
          have K3 : Hid _ := k3
          have K4 : Hid _ := k4
          clear k1 k2 k3 k4 w1' w2' w3' hS hrd hle
          generalize crc (xs.take cs.length) ^^^ crc (bs.take cs.length) = XY at e1 e2
          generalize crc (xs.take cs.length) = X1 at K1 e1
          generalize crc (bs.take cs.length) = X2 at K2 e1
          generalize crc (cs.take cs.length) = X3 at K3 e2
          generalize crc (tri xs bs cs cs.length) = X4 at K4 e2
          go_wp2_with fail
          go_quiet (first | (go_at_call 10; exact Calls.quiet_of_same (K1.out _)) | (go_at_call 10; exact Calls.quiet_of_same (K2.out _)) | (go_at_call 10; exact Calls.quiet_of_same (K3.out _)) | (go_at_call 10; exact Calls.quiet_of_same (K4.out _)))
          go_wp2
          go_ret
          exact ⟨rfl, grownBy_trans hgw (hdr _)⟩
    · have q1 : (bs.length : Int) < (xs.length : Int) := by omega
      have q2 : ¬ (cs.length : Int) < (bs.length : Int) := by omega
      have q3 : (bs.length : Int) ≤ ca := by omega
      have q4 : (bs.length : Int) ≤ cc := by omega
      have hn1 : bs.length ≤ xs.length := by omega
      have hn2 : bs.length ≤ bs.length := by omega
      have hn3 : bs.length ≤ cs.length := by omega

      go_enter Tryd.func6, Tryd.ntmps6
      go_wp2_with fail
      refine (awake_ok hG).mono ?_
      rintro e w1 ⟨rfl, hg1⟩
      have hD0 : RowB w1 w1 (.slice none 0 0) ((tri xs bs cs bs.length).take 0) := ⟨World.ownsRow_nil _ _ _ _, World.grownBy.refl _ _⟩
      go_wp2_with fail
      go_loopw [10, 9] (fun i d wr => ∃ k : Nat, k ≤ bs.length ∧ i = num k ∧ RowB w1 wr d ((tri xs bs cs bs.length).take k)) (fun i _ _ => bs.length - (intOf i).toNat)
      case atStart => exact ⟨0, Nat.zero_le _, rfl, hD0⟩
      case round =>
        clear hD0
        obtain ⟨k, hk, rfl, hS⟩ := hrel
        have hgw := grownBy_trans hg1 hS.more
        by_cases hlt : k < bs.length
        · have bk : (k : Int) < (bs.length : Int) := by omega
          have bk1 : (k : Int) < (xs.length : Int) := by omega
          have bk2 : (k : Int) < (bs.length : Int) := by omega
          have bk3 : (k : Int) < (cs.length : Int) := by omega
          have ha1 := (ha.more hgw)
          have hb1 := (hb.more hgw)
          have hc1 := (hc.more hgw)
          have xa := ha1.1 k
          have xb := hb1.1 k
          have xc := hc1.1 k
          obtain ⟨ga, oa, haa, hca⟩ := ha1.2.resolve_left (fun e => by have : xs.length = 0 := by { rw [e]; rfl }; omega)
          obtain ⟨gb, ob, hbb, hcb⟩ := hb1.2.resolve_left (fun e => by have : bs.length = 0 := by { rw [e]; rfl }; omega)
          obtain ⟨gc, oc, hcc, hcc'⟩ := hc1.2.resolve_left (fun e => by have : cs.length = 0 := by { rw [e]; rfl }; omega)
          subst haa hbb hcc
          have ka := hca k (by omega)
          have kb := hcb k (by omega)
          have kc := hcc' k (by omega)
          have e1 := xor_u8 xa xb
          have e2 := xor_u8 (xor_le xa xb) xc
          have HT : Hid ((tri xs bs cs bs.length).take (k + 1) = (tri xs bs cs bs.length).take k ++ [nth xs k ^^^ nth bs k ^^^ nth cs k]) := by rw [Hid, take_snoc (by rw [tri_len hn1 hn2 hn3]; exact hlt), tri_nth hn1 hn2 hn3 hlt]
          have hSl : ((tri xs bs cs bs.length).take k).length = k := by rw [List.length_take, tri_len hn1 hn2 hn3]; omega
          generalize (tri xs bs cs bs.length).take k = S at hS HT hSl
          generalize nth xs k = A at xa ka e1 e2 HT
          generalize nth bs k = B at xb kb e1 e2 HT
          generalize nth cs k = C at xc kc e2 HT
          generalize A ^^^ B = AB at e1 e2 HT
          generalize AB ^^^ C = x at e2 HT
          clear hca hcb hcc' ha1 hb1 hc1 hgw ha hb hc
          have HSl : Hid _ := hSl
          have hSle : S.length ≤ 140737488351232 := by omega
          clear hSl
          go_wp2_with fail
          go_region_law (refine step_append_lies _ rfl (.tmp 33) (.tmp 48) 22 rfl w1.heap.size 5 i0 (.int .u8 0) 1 1 Tryd.underlying22 hi hz0 hz1 hz2 rfl (by decide) u9 S.length (valsB S) rfl (by exact hS.own.alloc _) ⟨wr.heap.size, 0, none⟩ 1 1 [.int .u8 (x : Nat)] rfl rfl (by exact cell_one_new _ _) (by intro u hu; simp at hu; subst hu; rfl) (by decide) (by unfold maxLen; omega) (by omega) (by have := hS.more.size; simp; omega) _ rfl ?_; intro g6 cap6 w7 hown hgrow hor hlt6; (have hgrow' : (wr.alloc (.cells #[.int .u8 (x : Nat)] 5)).grownBy w7 u9.ownBlock := ⟨hgrow.os, hgrow.tape, hgrow.output, hgrow.size, hgrow.block⟩))
          all_goals
            have hN := hS.append hown hgrow'
            rw [← HT.out] at hN
            clear hown hgrow hgrow' hor hlt6 hS
            go_wp2
            go_roundw
            case rel => exact ⟨k + 1, by omega, by go_num, hN⟩
            case measure => simp [intOf]; omega
        · obtain rfl : k = bs.length := by omega
          have bk : ¬ (bs.length : Int) < (bs.length : Int) := by omega
          rw [List.take_of_length_le (by rw [tri_len hn1 hn2 hn3]; exact Nat.le_refl _)] at hS
          have hle : ∀ x ∈ tri xs bs cs bs.length, x ≤ 255 := mem_le fun i => by
            by_cases hi : i < bs.length
            · rw [tri_nth hn1 hn2 hn3 hi]; exact xor_le (xor_le (ha.1 i) (hb.1 i)) (hc.1 i)
            · rw [nth_over _ (by rw [tri_len hn1 hn2 hn3]; omega)]; omega
          obtain ⟨ad, cd, rfl, hrd⟩ := rd_own hS.own hle
          have hdr := fun n => grownBy_drewN (World.grownBy.refl wr none) n
          have k1 := fun n => sum_ok (w := wr.drewN n) ((hG.more hgw).more (hdr n)) aa ca (xs.take bs.length) (((ha.more hgw).more (hdr n)).take _) (by simp; omega)
          have k2 := fun n => sum_ok (w := wr.drewN n) ((hG.more hgw).more (hdr n)) ab cb (bs.take bs.length) (((hb.more hgw).more (hdr n)).take _) (by simp; omega)
          have k3 := fun n => sum_ok (w := wr.drewN n) ((hG.more hgw).more (hdr n)) ac cc (cs.take bs.length) (((hc.more hgw).more (hdr n)).take _) (by simp; omega)
          have k4 := fun n => sum_ok (w := wr.drewN n) ((hG.more hgw).more (hdr n)) ad cd (tri xs bs cs bs.length) (hrd.more (hdr n)) (by rw [tri_len hn1 hn2 hn3]; omega)
          rw [List.length_take, Nat.min_eq_left hn1] at k1
          rw [List.length_take, Nat.min_eq_left hn2] at k2
          rw [List.length_take, Nat.min_eq_left hn3] at k3
          simp only [tri_len hn1 hn2 hn3] at k4 ⊢
          have w1' : W32 (crc (xs.take bs.length)) := crc_lt (ha.take _).le
          have w2' : W32 (crc (bs.take bs.length)) := crc_lt (hb.take _).le
          have w3' : W32 (crc (cs.take bs.length)) := crc_lt (hc.take _).le
          have e1 := xor_u32 w1' w2'
          have e2 := xor_u32 (w_xor w1' w2') w3'
          rw [tri_crc hn1 hn2 hn3] at e2
          have K1 : Hid _ := k1
          have K2 : Hid _ := k2
          have K3 : Hid _ := k3
          have K4 : Hid _ := k4
          clear k1 k2 k3 k4 w1' w2' w3' hS hrd hle
          generalize crc (xs.take bs.length) ^^^ crc (bs.take bs.length) = XY at e1 e2
          generalize crc (xs.take bs.length) = X1 at K1 e1
          generalize crc (bs.take bs.length) = X2 at K2 e1
          generalize crc (cs.take bs.length) = X3 at K3 e2
          generalize crc (tri xs bs cs bs.length) = X4 at K4 e2
          go_wp2_with fail
          go_quiet (first | (go_at_call 10; exact Calls.quiet_of_same (K1.out _)) | (go_at_call 10; exact Calls.quiet_of_same (K2.out _)) | (go_at_call 10; exact Calls.quiet_of_same (K3.out _)) | (go_at_call 10; exact Calls.quiet_of_same (K4.out _)))
          go_wp2
          go_ret
          exact ⟨rfl, grownBy_trans hgw (hdr _)⟩
  · by_cases h2 : cs.length < xs.length
    · have q1 : ¬ (bs.length : Int) < (xs.length : Int) := by omega
      have q2 : (cs.length : Int) < (xs.length : Int) := by omega
      have q3 : (cs.length : Int) ≤ ca := by omega
      have q4 : (cs.length : Int) ≤ cb := by omega
      have hn1 : cs.length ≤ xs.length := by omega
      have hn2 : cs.length ≤ bs.length := by omega
      have hn3 : cs.length ≤ cs.length := by omega

      go_enter Tryd.func6, Tryd.ntmps6
      go_wp2_with fail
      refine (awake_ok hG).mono ?_
      rintro e w1 ⟨rfl, hg1⟩
      have hD0 : RowB w1 w1 (.slice none 0 0) ((tri xs bs cs cs.length).take 0) := ⟨World.ownsRow_nil _ _ _ _, World.grownBy.refl _ _⟩
      go_wp2_with fail
      go_loopw [10, 9] (fun i d wr => ∃ k : Nat, k ≤ cs.length ∧ i = num k ∧ RowB w1 wr d ((tri xs bs cs cs.length).take k)) (fun i _ _ => cs.length - (intOf i).toNat)
      case atStart => exact ⟨0, Nat.zero_le _, rfl, hD0⟩
      case round =>
        clear hD0
        obtain ⟨k, hk, rfl, hS⟩ := hrel
        have hgw := grownBy_trans hg1 hS.more
        by_cases hlt : k < cs.length
        · have bk : (k : Int) < (cs.length : Int) := by omega
          have bk1 : (k : Int) < (xs.length : Int) := by omega
          have bk2 : (k : Int) < (bs.length : Int) := by omega
          have bk3 : (k : Int) < (cs.length : Int) := by omega
          have ha1 := (ha.more hgw)
          have hb1 := (hb.more hgw)
          have hc1 := (hc.more hgw)
          have xa := ha1.1 k
          have xb := hb1.1 k
          have xc := hc1.1 k
          obtain ⟨ga, oa, haa, hca⟩ := ha1.2.resolve_left (fun e => by have : xs.length = 0 := by { rw [e]; rfl }; omega)
          obtain ⟨gb, ob, hbb, hcb⟩ := hb1.2.resolve_left (fun e => by have : bs.length = 0 := by { rw [e]; rfl }; omega)
          obtain ⟨gc, oc, hcc, hcc'⟩ := hc1.2.resolve_left (fun e => by have : cs.length = 0 := by { rw [e]; rfl }; omega)
          subst haa hbb hcc
          have ka := hca k (by omega)
          have kb := hcb k (by omega)
          have kc := hcc' k (by omega)
          have e1 := xor_u8 xa xb
          have e2 := xor_u8 (xor_le xa xb) xc
          have HT : Hid ((tri xs bs cs cs.length).take (k + 1) = (tri xs bs cs cs.length).take k ++ [nth xs k ^^^ nth bs k ^^^ nth cs k]) := by rw [Hid, take_snoc (by rw [tri_len hn1 hn2 hn3]; exact hlt), tri_nth hn1 hn2 hn3 hlt]
          have hSl : ((tri xs bs cs cs.length).take k).length = k := by rw [List.length_take, tri_len hn1 hn2 hn3]; omega
          generalize (tri xs bs cs cs.length).take k = S at hS HT hSl
          generalize nth xs k = A at xa ka e1 e2 HT
          generalize nth bs k = B at xb kb e1 e2 HT
          generalize nth cs k = C at xc kc e2 HT
          generalize A ^^^ B = AB at e1 e2 HT
          generalize AB ^^^ C = x at e2 HT
          clear hca hcb hcc' ha1 hb1 hc1 hgw ha hb hc
          have HSl : Hid _ := hSl
          have hSle : S.length ≤ 140737488351232 := by omega
          clear hSl
          go_wp2_with fail
          go_region_law (refine step_append_lies _ rfl (.tmp 33) (.tmp 48) 22 rfl w1.heap.size 5 i0 (.int .u8 0) 1 1 Tryd.underlying22 hi hz0 hz1 hz2 rfl (by decide) u9 S.length (valsB S) rfl (by exact hS.own.alloc _) ⟨wr.heap.size, 0, none⟩ 1 1 [.int .u8 (x : Nat)] rfl rfl (by exact cell_one_new _ _) (by intro u hu; simp at hu; subst hu; rfl) (by decide) (by unfold maxLen; omega) (by omega) (by have := hS.more.size; simp; omega) _ rfl ?_; intro g6 cap6 w7 hown hgrow hor hlt6; (have hgrow' : (wr.alloc (.cells #[.int .u8 (x : Nat)] 5)).grownBy w7 u9.ownBlock := ⟨hgrow.os, hgrow.tape, hgrow.output, hgrow.size, hgrow.block⟩))
          all_goals
            have hN := hS.append hown hgrow'
            rw [← HT.out] at hN
            clear hown hgrow hgrow' hor hlt6 hS
            go_wp2
            go_roundw
            case rel => exact ⟨k + 1, by omega, by go_num, hN⟩
            case measure => simp [intOf]; omega
        · obtain rfl : k = cs.length := by omega
          have bk : ¬ (cs.length : Int) < (cs.length : Int) := by omega
          rw [List.take_of_length_le (by rw [tri_len hn1 hn2 hn3]; exact Nat.le_refl _)] at hS
          have hle : ∀ x ∈ tri xs bs cs cs.length, x ≤ 255 := mem_le fun i => by
            by_cases hi : i < cs.length
            · rw [tri_nth hn1 hn2 hn3 hi]; exact xor_le (xor_le (ha.1 i) (hb.1 i)) (hc.1 i)
            · rw [nth_over _ (by rw [tri_len hn1 hn2 hn3]; omega)]; omega
          obtain ⟨ad, cd, rfl, hrd⟩ := rd_own hS.own hle
          have hdr := fun n => grownBy_drewN (World.grownBy.refl wr none) n
          have k1 := fun n => sum_ok (w := wr.drewN n) ((hG.more hgw).more (hdr n)) aa ca (xs.take cs.length) (((ha.more hgw).more (hdr n)).take _) (by simp; omega)
          have k2 := fun n => sum_ok (w := wr.drewN n) ((hG.more hgw).more (hdr n)) ab cb (bs.take cs.length) (((hb.more hgw).more (hdr n)).take _) (by simp; omega)
          have k3 := fun n => sum_ok (w := wr.drewN n) ((hG.more hgw).more (hdr n)) ac cc (cs.take cs.length) (((hc.more hgw).more (hdr n)).take _) (by simp; omega)
          have k4 := fun n => sum_ok (w := wr.drewN n) ((hG.more hgw).more (hdr n)) ad cd (tri xs bs cs cs.length) (hrd.more (hdr n)) (by rw [tri_len hn1 hn2 hn3]; omega)
          rw [List.length_take, Nat.min_eq_left hn1] at k1
          rw [List.length_take, Nat.min_eq_left hn2] at k2
          rw [List.length_take, Nat.min_eq_left hn3] at k3
          simp only [tri_len hn1 hn2 hn3] at k4 ⊢
          have w1' : W32 (crc (xs.take cs.length)) := crc_lt (ha.take _).le
          have w2' : W32 (crc (bs.take cs.length)) := crc_lt (hb.take _).le
          have w3' : W32 (crc (cs.take cs.length)) := crc_lt (hc.take _).le
          have e1 := xor_u32 w1' w2'
          have e2 := xor_u32 (w_xor w1' w2') w3'
          rw [tri_crc hn1 hn2 hn3] at e2
          have K1 : Hid _ := k1
          have K2 : Hid _ := k2
          have K3 : Hid _ := k3
          have K4 : Hid _ := k4
          clear k1 k2 k3 k4 w1' w2' w3' hS hrd hle
          generalize crc (xs.take cs.length) ^^^ crc (bs.take cs.length) = XY at e1 e2
          generalize crc (xs.take cs.length) = X1 at K1 e1
          generalize crc (bs.take cs.length) = X2 at K2 e1
          generalize crc (cs.take cs.length) = X3 at K3 e2
          generalize crc (tri xs bs cs cs.length) = X4 at K4 e2
          go_wp2_with fail
          go_quiet (first | (go_at_call 10; exact Calls.quiet_of_same (K1.out _)) | (go_at_call 10; exact Calls.quiet_of_same (K2.out _)) | (go_at_call 10; exact Calls.quiet_of_same (K3.out _)) | (go_at_call 10; exact Calls.quiet_of_same (K4.out _)))
          go_wp2
          go_ret
          exact ⟨rfl, grownBy_trans hgw (hdr _)⟩
    · have q1 : ¬ (bs.length : Int) < (xs.length : Int) := by omega
      have q2 : ¬ (cs.length : Int) < (xs.length : Int) := by omega
      have q3 : (xs.length : Int) ≤ cb := by omega
      have q4 : (xs.length : Int) ≤ cc := by omega
      have hn1 : xs.length ≤ xs.length := by omega
      have hn2 : xs.length ≤ bs.length := by omega
      have hn3 : xs.length ≤ cs.length := by omega

      go_enter Tryd.func6, Tryd.ntmps6
      go_wp2_with fail
      refine (awake_ok hG).mono ?_
      rintro e w1 ⟨rfl, hg1⟩
      have hD0 : RowB w1 w1 (.slice none 0 0) ((tri xs bs cs xs.length).take 0) := ⟨World.ownsRow_nil _ _ _ _, World.grownBy.refl _ _⟩
      go_wp2_with fail
      go_loopw [10, 9] (fun i d wr => ∃ k : Nat, k ≤ xs.length ∧ i = num k ∧ RowB w1 wr d ((tri xs bs cs xs.length).take k)) (fun i _ _ => xs.length - (intOf i).toNat)
      case atStart => exact ⟨0, Nat.zero_le _, rfl, hD0⟩
      case round =>
        clear hD0
        obtain ⟨k, hk, rfl, hS⟩ := hrel
        have hgw := grownBy_trans hg1 hS.more
        by_cases hlt : k < xs.length
        · have bk : (k : Int) < (xs.length : Int) := by omega
          have bk1 : (k : Int) < (xs.length : Int) := by omega
          have bk2 : (k : Int) < (bs.length : Int) := by omega
          have bk3 : (k : Int) < (cs.length : Int) := by omega
          have ha1 := (ha.more hgw)
          have hb1 := (hb.more hgw)
          have hc1 := (hc.more hgw)
          have xa := ha1.1 k
          have xb := hb1.1 k
          have xc := hc1.1 k
          obtain ⟨ga, oa, haa, hca⟩ := ha1.2.resolve_left (fun e => by have : xs.length = 0 := by { rw [e]; rfl }; omega)
          obtain ⟨gb, ob, hbb, hcb⟩ := hb1.2.resolve_left (fun e => by have : bs.length = 0 := by { rw [e]; rfl }; omega)
          obtain ⟨gc, oc, hcc, hcc'⟩ := hc1.2.resolve_left (fun e => by have : cs.length = 0 := by { rw [e]; rfl }; omega)
          subst haa hbb hcc
          have ka := hca k (by omega)
          have kb := hcb k (by omega)
          have kc := hcc' k (by omega)
          have e1 := xor_u8 xa xb
          have e2 := xor_u8 (xor_le xa xb) xc
          have HT : Hid ((tri xs bs cs xs.length).take (k + 1) = (tri xs bs cs xs.length).take k ++ [nth xs k ^^^ nth bs k ^^^ nth cs k]) := by rw [Hid, take_snoc (by rw [tri_len hn1 hn2 hn3]; exact hlt), tri_nth hn1 hn2 hn3 hlt]
          have hSl : ((tri xs bs cs xs.length).take k).length = k := by rw [List.length_take, tri_len hn1 hn2 hn3]; omega
          generalize (tri xs bs cs xs.length).take k = S at hS HT hSl
          generalize nth xs k = A at xa ka e1 e2 HT
          generalize nth bs k = B at xb kb e1 e2 HT
          generalize nth cs k = C at xc kc e2 HT
          generalize A ^^^ B = AB at e1 e2 HT
          generalize AB ^^^ C = x at e2 HT
          clear hca hcb hcc' ha1 hb1 hc1 hgw ha hb hc
          have HSl : Hid _ := hSl
          have hSle : S.length ≤ 140737488351232 := by omega
          clear hSl
          go_wp2_with fail
          go_region_law (refine step_append_lies _ rfl (.tmp 33) (.tmp 48) 22 rfl w1.heap.size 5 i0 (.int .u8 0) 1 1 Tryd.underlying22 hi hz0 hz1 hz2 rfl (by decide) u9 S.length (valsB S) rfl (by exact hS.own.alloc _) ⟨wr.heap.size, 0, none⟩ 1 1 [.int .u8 (x : Nat)] rfl rfl (by exact cell_one_new _ _) (by intro u hu; simp at hu; subst hu; rfl) (by decide) (by unfold maxLen; omega) (by omega) (by have := hS.more.size; simp; omega) _ rfl ?_; intro g6 cap6 w7 hown hgrow hor hlt6; (have hgrow' : (wr.alloc (.cells #[.int .u8 (x : Nat)] 5)).grownBy w7 u9.ownBlock := ⟨hgrow.os, hgrow.tape, hgrow.output, hgrow.size, hgrow.block⟩))
          all_goals
            have hN := hS.append hown hgrow'
            rw [← HT.out] at hN
            clear hown hgrow hgrow' hor hlt6 hS
            go_wp2
            go_roundw
            case rel => exact ⟨k + 1, by omega, by go_num, hN⟩
            case measure => simp [intOf]; omega
        · obtain rfl : k = xs.length := by omega
          have bk : ¬ (xs.length : Int) < (xs.length : Int) := by omega
          rw [List.take_of_length_le (by rw [tri_len hn1 hn2 hn3]; exact Nat.le_refl _)] at hS
          have hle : ∀ x ∈ tri xs bs cs xs.length, x ≤ 255 := mem_le fun i => by
            by_cases hi : i < xs.length
            · rw [tri_nth hn1 hn2 hn3 hi]; exact xor_le (xor_le (ha.1 i) (hb.1 i)) (hc.1 i)
            · rw [nth_over _ (by rw [tri_len hn1 hn2 hn3]; omega)]; omega
          obtain ⟨ad, cd, rfl, hrd⟩ := rd_own hS.own hle
          have hdr := fun n => grownBy_drewN (World.grownBy.refl wr none) n
          have k1 := fun n => sum_ok (w := wr.drewN n) ((hG.more hgw).more (hdr n)) aa ca (xs.take xs.length) (((ha.more hgw).more (hdr n)).take _) (by simp; omega)
          have k2 := fun n => sum_ok (w := wr.drewN n) ((hG.more hgw).more (hdr n)) ab cb (bs.take xs.length) (((hb.more hgw).more (hdr n)).take _) (by simp; omega)
          have k3 := fun n => sum_ok (w := wr.drewN n) ((hG.more hgw).more (hdr n)) ac cc (cs.take xs.length) (((hc.more hgw).more (hdr n)).take _) (by simp; omega)
          have k4 := fun n => sum_ok (w := wr.drewN n) ((hG.more hgw).more (hdr n)) ad cd (tri xs bs cs xs.length) (hrd.more (hdr n)) (by rw [tri_len hn1 hn2 hn3]; omega)
          rw [List.length_take, Nat.min_eq_left hn1] at k1
          rw [List.length_take, Nat.min_eq_left hn2] at k2
          rw [List.length_take, Nat.min_eq_left hn3] at k3
          simp only [tri_len hn1 hn2 hn3] at k4 ⊢
          have w1' : W32 (crc (xs.take xs.length)) := crc_lt (ha.take _).le
          have w2' : W32 (crc (bs.take xs.length)) := crc_lt (hb.take _).le
          have w3' : W32 (crc (cs.take xs.length)) := crc_lt (hc.take _).le
          have e1 := xor_u32 w1' w2'
          have e2 := xor_u32 (w_xor w1' w2') w3'
          rw [tri_crc hn1 hn2 hn3] at e2
          have K1 : Hid _ := k1
          have K2 : Hid _ := k2
          have K3 : Hid _ := k3
          have K4 : Hid _ := k4
          clear k1 k2 k3 k4 w1' w2' w3' hS hrd hle
          generalize crc (xs.take xs.length) ^^^ crc (bs.take xs.length) = XY at e1 e2
          generalize crc (xs.take xs.length) = X1 at K1 e1
          generalize crc (bs.take xs.length) = X2 at K2 e1
          generalize crc (cs.take xs.length) = X3 at K3 e2
          generalize crc (tri xs bs cs xs.length) = X4 at K4 e2
          go_wp2_with fail
          go_quiet (first | (go_at_call 10; exact Calls.quiet_of_same (K1.out _)) | (go_at_call 10; exact Calls.quiet_of_same (K2.out _)) | (go_at_call 10; exact Calls.quiet_of_same (K3.out _)) | (go_at_call 10; exact Calls.quiet_of_same (K4.out _)))
          go_wp2
          go_ret
          exact ⟨rfl, grownBy_trans hgw (hdr _)⟩
end Cr
end Go.Proofs.YtpdbjibjicbckaaDoor
