/- The walk of BchCounts. -/
import Derived.Test.YtiojdoehlooibabDoorZLay2
import Derived.Test.YtiojdoehlooibabDoorZCd
import Derived.Test.YtiojdoehlooibabDoorZNl
import Derived.Test.YtiojdoehlooibabDoorZCt
import Derived.Maps.OwnSet
namespace Go.Proofs.YtiojdoehlooibabDoor
open Go.RowKit Gf Go.Maps
theorem own_parts' {w : World} {B n : Nat} {v : Value} {l : List Nat} (h : w.ownsRow B 5 1 v n (valsB l)) (hn : 1 ≤ n) : ∃ g cap T, v = .slice (some ⟨g, 0, none⟩) n cap ∧ B ≤ g ∧ w.heap[g]? = some (.cells (valsB l ++ T).toArray 5) := by
  rcases h.2 with ⟨_, h0⟩ | ⟨g, cap, cur, rfl, hg, hh, hle, _, hcs, ht⟩
  · omega
  · refine ⟨g, cap, cur.toList.drop n, rfl, hg, ?_⟩
    rw [Nat.mul_one] at ht
    rw [hh, ← ht, List.take_append_drop]
theorem news_of_rd' {w : World} {g off : Nat} {bs : List Nat} (h : ∀ i, i < bs.length → w.cell? ⟨g, off + i, none⟩ = some (.int .u8 (nth bs i : Nat))) : ∀ j u, (valsB bs)[j]? = some u → w.cell? ((⟨g, off, none⟩ : Addr).add j) = some u := fun j u hj => by
  have hjl : j < bs.length := by
    have := (List.getElem?_eq_some_iff.1 hj).1
    rwa [valsB_len] at this
  rw [valsB_at hjl] at hj
  rw [addr_add', h j hjl, hj]
theorem par_take' {m t : Nat} (h : Em m) (bs : List Nat) : (bitsS (parB m t bs)).take (rS m t) = par m t (bitsS bs) := by
  have hpl := par_len m t (bitsS bs)
  have hbl : (bitsS (parB m t bs)).length = 8 * pS m t := by rw [bitsS_len, parB_len]
  have h8 : rS m t ≤ 8 * pS m t := by unfold pS; omega
  apply List.ext_getElem
  · rw [List.length_take, hbl, hpl]; exact Nat.min_eq_left h8
  · intro i i1 i2
    have e : nth ((bitsS (parB m t bs)).take (rS m t)) i = nth (par m t (bitsS bs)) i := by
      rw [nth_take _ (by rw [hpl] at i2; exact i2)]
      exact nth_bits_bytes (bits_par h t (bits_bitsS bs)) i
    rwa [nth_of i1, nth_of i2] at e
theorem stepB_rd {b : Nat} {w w' : World} {g o : Nat} {bs : List Nat} (h : RdB w (some ⟨g, o, none⟩) bs) (hs : Step b w w') (hg : g ≠ b) : RdB w' (some ⟨g, o, none⟩) bs := by
  refine ⟨h.1, ?_⟩
  rcases h.2 with e | ⟨g', o', e, hc⟩
  · exact .inl e
  · have : g' = g ∧ o' = o := by simpa using e.symm
    obtain ⟨rfl, rfl⟩ := this
    exact .inr ⟨g', o', rfl, fun i hi => by rw [hs.cell (lt_of_cell (hc i hi)) hg]; exact hc i hi⟩
theorem law3m : Keyed Tryd.prog 3 := int_keyed Tryd.underlying3
theorem zero3m (w : World) : (zeroValue 3).run Tryd.prog w = .ok (.int .i64 0) w := by kernel_rfl
theorem u8_pow' {k : Nat} (hk : k < 8) : (2 : Int) ^ k % 256 = ((2 ^ k : Nat) : Int) := by
  have h1 := two_le hk
  have e : ((2 : Int) ^ k) = ((2 ^ k : Nat) : Int) := by simp
  obtain ⟨q, hq⟩ : ∃ q, q = 2 ^ k := ⟨_, rfl⟩
  rw [e, ← hq]
  rw [← hq] at h1
  omega
/-- What holds while bits are turned. -/
structure CtRel (w4 wr : World) (g B n : Nat) (T5 : List Value) (DM : DataW Unit) (bs D K : List Nat) : Prop where
  row : wr.heap[g]? = some (.cells (valsB D ++ T5).toArray 5)
  grown : w4.grownBy wr none
  map : wr.ownsMap Tryd.prog 3 (plainElem (H := Unit) Tryd.prog 3) B n DM
  flp : Flp bs D K
  has : ∀ k : Nat, Maps.has DM (.int .i64 (k : Int)) = decide (k ∈ K)
  size : Maps.size DM = K.length
  nk : n = K.length
  ne : g ≠ B
  new : w4.heap.size ≤ g
  newB : w4.heap.size ≤ B
theorem CtRel.drew {w4 wr : World} {g B n : Nat} {T5 : List Value} {DM : DataW Unit} {bs D K : List Nat} (h : CtRel w4 wr g B n T5 DM bs D K) : CtRel w4 wr.drew g B n T5 DM bs D K :=
  ⟨h.row, grownBy_drew h.grown, h.map.drew, h.flp, h.has, h.size, h.nk, h.ne, h.new, h.newB⟩
theorem CtRel.cell7 {w4 wr w7 : World} {g B n : Nat} {T5 : List Value} {DM : DataW Unit} {bs D K : List Nat} (h : CtRel w4 wr g B n T5 DM bs D K) {k : Nat} (hk : k < 8 * bs.length) (hg : wr.grownBy w7 (some B)) : w7.cell? ⟨g, k / 8, none⟩ = some (.int .u8 (nth D (k / 8) : Nat)) ∧ w7.frozen? ⟨g, k / 8, none⟩ = false := by
  have h7 : w7.heap[g]? = some (.cells (valsB D ++ T5).toArray 5) := by rw [hg.block g (lt_of_heap h.row) (fun e => h.ne (Option.some.inj e))]; exact h.row
  exact ⟨by rw [cell_row h7, List.getElem?_append_left (by rw [valsB_len, h.flp.ld]; omega), valsB_at (by rw [h.flp.ld]; omega)], frozen_row h7⟩
theorem CtRel.put {w4 wr w1 : World} {g B n : Nat} {T5 : List Value} {DM : DataW Unit} {bs D K : List Nat} (h : CtRel w4 wr g B n T5 DM bs D K) {k : Nat} {d : DataW Unit} (hk : k < 8 * bs.length) (hn : ¬ k ∈ K)
    (ho : w1.ownsMap Tryd.prog 3 (plainElem (H := Unit) Tryd.prog 3) B (n + 1) (DM.put (.int .i64 (k : Int)) d)) (hg : wr.grownBy w1 (some B)) :
    CtRel w4 (w1.setCell ⟨g, k / 8, none⟩ (.int .u8 ((nth D (k / 8) ^^^ 2 ^ (k % 8) : Nat) : Int))) g B (n + 1) T5 (DM.put (.int .i64 (k : Int)) d) bs (D.set (k / 8) (nth D (k / 8) ^^^ 2 ^ (k % 8))) (k :: K) := by
  have hlt := lt_of_heap h.row
  have h1 : w1.heap[g]? = some (.cells (valsB D ++ T5).toArray 5) := by rw [hg.block g hlt (fun e => h.ne (Option.some.inj e))]; exact h.row
  have hg1 : w4.grownBy w1 none := by
    refine ⟨hg.os.trans h.grown.os, hg.tape.trans h.grown.tape, hg.output.trans h.grown.output, Nat.le_trans h.grown.size hg.size, fun x hx _ => ?_⟩
    rw [hg.block x (Nat.lt_of_lt_of_le hx h.grown.size) (fun e => by have := Option.some.inj e; have := h.newB; omega)]
    exact h.grown.block x hx (by simp)
  refine ⟨?_, grownBy_setCell hg1 (.inl h.new) _, ho.kept (grown_setCell w1 g (k / 8) _) (fun e => h.ne (Option.some.inj e).symm), h.flp.more hk hn, fun x => ?_, ?_, by rw [List.length_cons, h.nk], h.ne, h.new, h.newB⟩
  · have := setCell_row (i := k / 8) h1 (.int .u8 ((nth D (k / 8) ^^^ 2 ^ (k % 8) : Nat) : Int))
    rw [List.set_append_left _ _ (by rw [valsB_len, h.flp.ld]; omega), valsB_set] at this
    exact this
  · by_cases e : x = k
    · subst e
      rw [has_put_same (k := .int .i64 (x : Int)) h.map.isMap trivial]; simp
    · rw [has_put_other (fun e2 => e (by simp at e2; omega)), h.has]; simp [e]
  · rw [size_put (h.map.tidy law3m), h.has, decide_eq_false hn, if_neg (by simp), h.size, List.length_cons]
set_option maxHeartbeats 64000000 in
set_option maxRecDepth 4000 in
theorem law_BchCounts (ao : Option Addr) (len cap : Nat) (bs : List Nat) {w : World} (hx : ArgB w ao len bs) (_hl : len ≤ 140737488355328 ∧ len ≤ cap) (t : Int) (ht : I64 t) (f : Int) (hf : I64 f) (s : Int) (hs : I64 s) (q : Int) (hq : I64 q) (hG : Glob w) (h0 : 0 < w.heap.size) :
    Calls Tryd.prog 4 #[.slice ao len cap, num t, num f, num s, num q] w fun e w' => e = .returned (.bool true) ∧ w.grownBy w' none := by
  have hn := hnot
  obtain ⟨hbl, hrd⟩ := hx
  obtain ⟨i0, hi, hz0, hz1, hz2⟩ := info_parts Tryd.info5
  by_cases hno : len = 0 ∨ 200 < len
  · have hb : (((len : Int) == 0) || decide (200 < (len : Int))) = true := by
      rcases hno with h | h
      · rw [h]; rfl
      · simp; omega
    clear hno
    go_enter Tryd.func4, Tryd.ntmps4
    go_wp2_with fail
    refine (awake2_ok w hG h0).mono ?_
    rintro e w1 ⟨rfl, hg1⟩
    go_wp2_with fail
    all_goals
      go_ret
      exact ⟨rfl, hg1⟩
  · have l1 : 1 ≤ len := by omega
    have l2 : len ≤ 200 := by omega
    have b1 : ((len : Int) == 0) = false := by simp; omega
    have b2 : ¬ (200 : Int) < (len : Int) := by omega
    clear hno
    have hT8 := tS_bd t
    obtain ⟨T, hT⟩ : ∃ T, T = tS t := ⟨_, rfl⟩
    rw [← hT] at hT8
    have HT : Hid (T = tS t) := hT
    have keyT : ∃ U : Nat, (t = (U : Int) ∨ t = -(U : Int) - 1) ∧ 1 + (U : Int) % 8 = (T : Int) := by
      by_cases hneg : t < 0
      · obtain ⟨U, hU⟩ := Int.eq_ofNat_of_zero_le (show 0 ≤ -(t + 1) by omega)
        have hte : t = -(U : Int) - 1 := by omega
        refine ⟨U, .inr hte, ?_⟩
        rw [hT, hte, tS_neg]; omega
      · obtain ⟨U, hU⟩ := Int.eq_ofNat_of_zero_le (show 0 ≤ t by omega)
        refine ⟨U, .inl hU, ?_⟩
        rw [hT, hU, tS_nat]; omega
    have keyN : ∀ x : Int, ∃ U : Nat, x = (U : Int) ∨ x = -(U : Int) - 1 := fun x => by
      by_cases hneg : x < 0
      · exact ⟨(-(x + 1)).toNat, .inr (by omega)⟩
      · exact ⟨x.toNat, .inl (by omega)⟩
    obtain ⟨U, hU, hUT⟩ := keyT
    obtain ⟨F, hF⟩ := keyN f
    obtain ⟨S, hS⟩ := keyN s
    obtain ⟨M, hM'⟩ := keyN q
    have HU : Hid (1 + (U : Int) % 8 = (T : Int)) := hUT
    clear hT hUT keyN
    have ht' := ht
    obtain ⟨ht1, ht2⟩ := ht'
    obtain ⟨hf1, hf2⟩ := hf
    obtain ⟨hs1, hs2⟩ := hs
    obtain ⟨hq1, hq2⟩ := hq
    rcases hU with rfl | rfl <;> rcases hF with rfl | rfl <;> rcases hS with rfl | rfl <;> rcases hM' with rfl | rfl
    all_goals
      go_enter Tryd.func4, Tryd.ntmps4
      go_wp2_with fail
      refine (awake2_ok w hG h0).mono ?_
      rintro e w1 ⟨rfl, hg1⟩
      have hcode := code_ok (hG.kept (hg1.block 0 h0 (by simp))) (by have := hg1.size; omega) ao len cap _ ht l1 (by omega)
      rw [← HT.out] at hcode
      have HCode : Hid (Calls Tryd.prog 7 #[.slice ao len cap, _] w1 _) := hcode
      clear hcode
      go_wp2_with fail
      refine HCode.out.mono ?_
      rintro e w2 ⟨c, b, m, ag, cg, hM, rfl, hc2, hrg, hg2, hb2, hcb⟩
      have hem := hM.em
      have hfits := hc2.fits
      have hrle := hc2.r_le
      have h2g := hc2.two
      have hA := World.grownBy_alloc w2 (.cells #[num m, num len, num T, .slice ag (gH m T).length cg] 27) none
      have hc3 := hc2.more hA
      have hgw3 := grownBy_trans (grownBy_trans hg1 hg2) hA
      have hrd3 := hrd.more hgw3
      have hpe : pS m T = (rS m T + 7) / 8 := rfl
      have hr1 : 1 ≤ rS m T := by unfold rS; omega
      have h104 := hc3.r_104
      have hen := cEncode_ok hc3 ao cap bs hrd3 hbl
      rw [hbl] at hen
      have HEn : Hid (Calls Tryd.prog 9 #[ptr c, .slice ao len cap] (w2.alloc (.cells #[num m, num len, num T, .slice ag (gH m T).length cg] 27)) _) := hen
      clear hen HCode
      go_wp2_with fail
      refine HEn.out.mono ?_
      rintro e w4 ⟨g4, rfl, hg4a, hg4, hh4⟩
      have hr4 : RdB w4 (some ⟨g4, 0, none⟩) (parB m T bs) := rdB_row (T := []) (by rw [List.append_nil]; exact hh4) (bytesS_le (par m T (bitsS bs)))
      have hc4 := hc3.more hg4
      have hgw4 := grownBy_trans hgw3 hg4
      have hrd4 := hrd.more hgw4
      obtain ⟨gd, od, rfl, hcd⟩ := hrd4.2.resolve_left (fun e => by rw [e] at hbl; simp at hbl; omega)
      have HCd : Hid _ := news_of_rd' hcd
      clear HEn hcd
      have hmm := @run_makeMap Tryd.prog
      go_wp2_with (first | (at_builtin; refine wpList_append_own _ rfl (.tmp 80) (.tmp 81) 22 rfl w4.heap.size 5 i0 (.int .u8 0) 1 1 Tryd.underlying22 hi hz0 hz1 hz2 rfl (by decide) _ _ _ rfl (World.ownsRow_nil _ _ _ _) ⟨gd, od, none⟩ len cap (valsB bs) rfl (by rw [valsB_len]; omega) ?c1 ?c2 ?c3 ?c4 ?c5 ?_))
      case c1 => exact HCd.out
      case c2 => exact valsB_one bs
      case c3 => unfold maxLen; omega
      case c4 => omega
      case c5 => exact Nat.le_refl _
      intro v1 w5 hown hgrow _
      have hg5 : w4.grownBy w5 none := hgrow
      obtain ⟨g5, c5, T5, rfl, hb5, hh5⟩ := own_parts' (l := bs) (by simpa using hown) (by omega)
      clear hown hgrow HCd
      go_wp2_with fail
      have e8 : (2 : Int) + (U : Int) % 8 = ((T + 1 : Nat) : Int) := by have := HU.out; omega
      obtain ⟨MM, hMM⟩ : ∃ MM, MM = M % (T + 1) := ⟨_, rfl⟩
      have HMM : Hid ((M : Int) % (2 + (U : Int) % 8) = (MM : Int)) := by rw [Hid, e8, hMM]; simp
      have hMT : MM ≤ T := by rw [hMM]; exact Nat.le_of_lt_succ (Nat.mod_lt _ (by omega))
      obtain ⟨NN, hNN⟩ : ∃ NN, NN = 8 * len := ⟨_, rfl⟩
      have HNN : Hid ((8 : Int) * (len : Int) = (NN : Int)) := by rw [Hid]; omega
      have nn1 : NN ≤ 8 * len := by omega
      have nn2 : 8 * len ≤ NN := by omega
      obtain ⟨FN, hFN⟩ : ∃ FN, FN = F % NN := ⟨_, rfl⟩
      obtain ⟨SN, hSN⟩ : ∃ SN, SN = S % NN := ⟨_, rfl⟩
      have eF : (F : Int) % (NN : Int) = (FN : Int) := by rw [hFN]; simp
      have eS : (S : Int) % (NN : Int) = (SN : Int) := by rw [hSN]; simp
      have lF : FN < NN := by rw [hFN]; exact Nat.mod_lt _ (by omega)
      have lS : SN < NN := by rw [hSN]; exact Nat.mod_lt _ (by omega)
      rw [HMM.out, HNN.out]
      clear hMM hNN hFN hSN e8
      have bNN0 : ((NN : Int) == 0) = false := by simp; omega
      have bNN1 : (1 : Int) ≤ (NN : Int) := by omega
      have bNN2 : (NN : Int) ≤ 1600 := by omega
      have hR0 : CtRel w4 (w5.alloc (.map #[] 0)) g5 w5.heap.size 0 T5 (.map []) bs bs [] := by
        have hl5 := lt_of_heap hh5
        refine ⟨by rw [Below.heap_alloc _ _ _ hl5]; exact hh5, grownBy_trans hg5 (World.grownBy_alloc _ _ none), World.ownsMap_made _ _ _ _, Flp.start hrd.1, fun k => by simp [Maps.has], rfl, rfl, by omega, hb5, hg5.size⟩
      clear hmm
      go_loopw [19] (fun v wr => ∃ (i : Nat) (n : Nat) (DM : DataW Unit) (D K : List Nat), i ≤ MM ∧ v = num i ∧ n ≤ i ∧ CtRel w4 wr g5 w5.heap.size n T5 DM bs D K) (fun v _ => MM - (intOf v).toNat)
      case atStart => exact ⟨0, 0, _, _, _, Nat.zero_le _, rfl, Nat.le_refl _, hR0⟩
      case round =>
        clear hR0
        obtain ⟨i, n, DM, D, K, hiM, rfl, hni, hR⟩ := hrel
        by_cases hlt : i < MM
        · have bi : (i : Int) < (MM : Int) := by omega
          have bi2 : (i : Int) ≤ 8 := by omega
          have hpq : i * SN ≤ 8 * 1600 := Nat.mul_le_mul (by omega) (by omega)
          obtain ⟨PQ, hPQ⟩ : ∃ PQ, PQ = i * SN := ⟨_, rfl⟩
          have eP : (i : Int) * (SN : Int) = (PQ : Int) := by rw [hPQ]; simp
          rw [← hPQ] at hpq
          obtain ⟨k, hk⟩ : ∃ k, k = (FN + PQ) % NN := ⟨_, rfl⟩
          have eK : ((FN : Int) + (PQ : Int)) % (NN : Int) = (k : Int) := by rw [hk]; simp
          have lK : k < NN := by rw [hk]; exact Nat.mod_lt _ (by omega)
          have hkb : k < 8 * bs.length := by omega
          clear hPQ hk
          have hkey : keyOf Tryd.prog 3 (.int .i64 (k : Int)) = some (.int .i64 (k : Int)) := keyOf_int_mk Tryd.underlying3 (WalkArith.wf_i64 (by omega))
          have hown := hR.map
          have hhas := hR.has k
          have hDl := hR.flp.ld
          have hk8 : k % 8 < 8 := Nat.mod_lt _ (by decide)
          go_wp2_with fail
          go_region
          all_goals
            rw [eK]
            have ck : wr.drew.cell? ⟨g5, k / 8, none⟩ = some (.int .u8 (nth D (k / 8) : Nat)) := by
              show wr.cell? ⟨g5, k / 8, none⟩ = _
              rw [cell_row hR.row, List.getElem?_append_left (by rw [valsB_len]; omega), valsB_at (by omega)]
            by_cases hin : k ∈ K
            · rw [decide_eq_true hin] at hhas
              go_wp2_with (first | (at_lookup; refine wpList_lookup_own_ok_int _ rfl _ _ 38 rfl 3 3 .i64 law3m Tryd.underlying38 Tryd.underlying3 (zero3m _) w5.heap.size n DM rfl hown.drew _ _ rfl hkey ?_; intro cv hat hwc))
              exact ⟨⟨i + 1, n, DM, D, K, by omega, by go_num, by omega, hR.drew⟩, by simp [intOf]; omega⟩
            · rw [decide_eq_false hin] at hhas
              have hle := hR.flp.bd (k / 8)
              have hxo := xor_u8 hle (two_le hk8)
              have hpw := u8_pow' hk8
              obtain ⟨PW, hPW⟩ : ∃ PW, PW = 2 ^ (k % 8) := ⟨_, rfl⟩
              rw [← hPW] at hxo hpw
              have HXo : Hid _ := hxo
              have HPw : Hid _ := hpw
              have HPW : Hid (PW = 2 ^ (k % 8)) := hPW
              have hPl : PW ≤ 255 := by rw [hPW]; exact two_le hk8
              clear hpw hxo hPW
              go_wp2_with (first | (at_lookup; refine wpList_lookup_own_ok_int _ rfl _ _ 38 rfl 3 3 .i64 law3m Tryd.underlying38 Tryd.underlying3 (zero3m _) w5.heap.size n DM rfl hown.drew _ _ rfl hkey ?_; intro cv hat hwc) | (at_mapUpdate; refine wpList_mapUpdate_own _ rfl _ _ _ 38 rfl 3 3 law3m Tryd.underlying38 _ w5.heap.size n DM rfl hown.drew (by unfold maxLen; omega) _ _ _ rfl rfl hkey _ [] (plainElem_int Tryd.underlying3 (WalkArith.wf_i64 (by omega))) ?_; intro w7 hown7 hgrow7; obtain ⟨ck7, z7⟩ := hR.drew.cell7 hkb hgrow7))
              have hR7 := hR.drew.put hkb hin hown7 hgrow7
              rw [← HPW.out] at hR7
              rw [HPw.out, HXo.out]
              exact ⟨⟨i + 1, n + 1, _, _, _, by omega, by go_num, by omega, hR7⟩, by simp [intOf]; omega⟩
        · obtain rfl : i = MM := by omega
          have bi : ¬ (i : Int) < (i : Int) := by omega
          have hD6 : RdB wr (some ⟨g5, 0, none⟩) D := rdB_row hR.row hR.flp.bd
          have hc6 := hc4.more hR.grown
          have hP6 := hr4.more hR.grown
          have hgw6 := grownBy_trans hgw4 hR.grown
          have hDl : D.length = len := by rw [hR.flp.ld, hbl]
          have hpl := parB_len m T bs
          have hb4 : b < w4.heap.size := hc4.fld.lt
          have hde := cDecode_ok hc6 (some ⟨g5, 0, none⟩) (some ⟨g4, 0, none⟩) c5 (pS m T) D (parB m T bs) hD6 hP6 hDl hpl
          rw [hDl, hpl] at hde
          have HDe : Hid (Calls Tryd.prog 11 #[ptr c, .slice (some ⟨g5, 0, none⟩) len c5, .slice (some ⟨g4, 0, none⟩) (pS m T) (pS m T)] wr _) := hde
          have hWd : wrdS (rS m T) bs (parB m T bs) = bitsS bs ++ par m T (bitsS bs) := by rw [wrdS, par_take' hem]
          have hwt := hR.flp.word (rS m T) (parB m T bs)
          rw [hWd] at hwt
          have hpe : pS m T = (rS m T + 7) / 8 := rfl
          have hWl := wrdS_len (r := rS m T) (ds := D) (ps := parB m T bs) (by rw [hpl]; omega)
          have hKT : K.length ≤ T := by have := hR.nk; omega
          have hV0 : Near m T (wrdS (rS m T) D (parB m T bs)) (bitsS bs ++ par m T (bitsS bs)) := ⟨by rw [hWl, List.length_append, bitsS_len, par_len, hDl, hbl], par_word hem T (bits_bitsS bs), by rw [hwt]; exact hKT⟩
          have HV0 : Hid _ := hV0
          have HWl : Hid _ := hWl
          have HWt : Hid _ := hwt
          have HDl : Hid _ := hDl
          clear hde hV0 hwt hWl hDl hpe hpl
          go_wp2_with fail
          refine HDe.out.mono ?_
          rintro e w7 ⟨hc7, hs7, hor⟩
          have hgw7 : w.grownBy w7 none := grown_step hgw6 hs7 (by have := hg1.size; omega)
          rcases hor with ⟨V, gx, gy, cx', cy, x, y, Tx, Ty, hN, rfl, hX6, hY6, hx, hy, _, _⟩ | ⟨hnone, _⟩
          · have hVe : V = bitsS bs ++ par m T (bitsS bs) := near_eq hem (bits_wrdS _ D _) (by rw [HWl.out, HDl.out]; omega) hN HV0.out
            have hbb := bitsS_len bs
            have hx1 : x = bs := by rw [hx, hVe, List.take_append_of_le_length (by omega), List.take_of_length_le (by omega), bytes_bits hrd.1]
            rw [hx1] at hX6
            have hwt7 : wt (xl (wrdS (rS m T) D (parB m T bs)) V) = K.length := by rw [hVe]; exact HWt.out
            rw [hwt7, ← hR.size]
            have cvx := conv_ok hX6.rdB (by omega) cx'
            have cvd := conv_ok (hrd.more hgw7) (by omega) cap
            rw [hbl] at cvx cvd
            have hm7 : w7.ownsMap Tryd.prog 3 (plainElem (H := Unit) Tryd.prog 3) w5.heap.size n DM := hR.map.kept hs7.grown (fun e => by have := Option.some.inj e; have := hR.newB; omega)
            have hlen := fun ty => hm7.len Tryd.underlying38 ty
            clear hx hy hx1 hVe hN hX6 hY6 HDe hbb hwt7
            go_wp2_with fail
            go_ret
            exact ⟨rfl, hgw7⟩
          · exact absurd HV0.out (hnone _)
end Go.Proofs.YtiojdoehlooibabDoor
