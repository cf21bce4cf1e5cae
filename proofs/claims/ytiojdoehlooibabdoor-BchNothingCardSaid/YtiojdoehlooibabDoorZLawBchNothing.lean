/- The walk of BchNothing. -/
import Derived.Test.YtiojdoehlooibabDoorZLay2
import Derived.Test.YtiojdoehlooibabDoorZCd
import Derived.Test.YtiojdoehlooibabDoorZNl
import Derived.Test.YtiojdoehlooibabDoorZAd
import Derived.Test.YtiojdoehlooibabDoorZBe
namespace Go.Proofs.YtiojdoehlooibabDoor
open Go.RowKit Gf
theorem own_parts' {w : World} {B n : Nat} {v : Value} {l : List Nat} (h : w.ownsRow B 5 1 v n (valsB l)) (hn : 1 ≤ n) : ∃ g cap T, v = .slice (some ⟨g, 0, none⟩) n cap ∧ B ≤ g ∧ w.heap[g]? = some (.cells (valsB l ++ T).toArray 5) := by
  rcases h.2 with ⟨_, h0⟩ | ⟨g, cap, cur, rfl, hg, hh, hle, _, hcs, ht⟩
  · omega
  · refine ⟨g, cap, cur.toList.drop n, rfl, hg, ?_⟩
    rw [Nat.mul_one] at ht
    rw [hh, ← ht, List.take_append_drop]
theorem news_of_rd' {w : World} {g off : Nat} {bs : List Nat} (h : ∀ i, i < bs.length → w.cell? ⟨g, off + i, none⟩ = some (.int .u8 (nth bs i : Nat))) : ∀ j u, (valsB bs)[j]? = some u → w.cell? ((⟨g, off, none⟩ : Addr).add j) = some u := fun j u hj => by
  have hjl : j < bs.length := by
    have := (List.getElem?_eq_some_iff.1 hj).1
    rwa [valsB_len] at this
  rw [valsB_at hjl] at hj
  rw [addr_add', h j hjl, hj]
theorem or_u8' {a b : Nat} (ha : a ≤ 255) (hb : b ≤ 255) : bits .or .u8 (a : Int) (b : Int) = ((a ||| b : Nat) : Int) :=
  (bits_nat .u8 8 (by decide) (fun n h1 h2 => by
    have h3 : n < 256 := by simpa using h2
    rw [IntKind.wrap_u8]; omega) a b (by omega) (by omega)).2
theorem pow_le7 {L : Nat} (h : L ≤ 7) : 1 ≤ 2 ^ L ∧ 2 ^ L ≤ 128 := by
  have h1 : 2 ^ L ≤ 2 ^ 7 := Nat.pow_le_pow_right (by decide) h
  have h2 : 0 < 2 ^ L := Nat.two_pow_pos L
  omega
theorem wrap_two {L : Nat} (h : L ≤ 7) : wrap64 ((2 : Int) ^ L) = ((2 ^ L : Nat) : Int) := by
  have e1 : ((2 : Int) ^ L) = ((2 ^ L : Nat) : Int) := by simp
  have h2 := pow_le7 h
  rw [e1]
  obtain ⟨P, hP⟩ : ∃ P, P = 2 ^ L := ⟨_, rfl⟩
  rw [← hP] at h2 ⊢
  clear hP e1 h
  unfold wrap64
  omega
theorem two_pos {L : Nat} (h : L ≤ 7) : (((2 ^ L : Nat) : Int) == 0) = false ∧ (1 : Int) ≤ ((2 ^ L : Nat) : Int) := by
  have h2 := pow_le7 h
  obtain ⟨P, hP⟩ : ∃ P, P = 2 ^ L := ⟨_, rfl⟩
  rw [← hP] at h2 ⊢
  clear hP h
  have h3 : ¬ (P : Int) = 0 := by omega
  exact ⟨by simp only [beq_eq_false_iff_ne, ne_eq]; exact h3, by omega⟩
theorem junk_val {x J L : Nat} (hx : x ≤ 255) (hJ : J ≤ 255) (hL : L ≤ 7) : bits .or .u8 (x : Int) (bits .and .u8 (J : Int) (((2 : Int) ^ L - 1) % 256)) = ((x ||| (J &&& (2 ^ L - 1)) : Nat) : Int) := by
  obtain ⟨h1, h2⟩ := pow_le7 hL
  have e : (((2 : Int) ^ L - 1) % 256) = ((2 ^ L - 1 : Nat) : Int) := by
    have e1 : ((2 : Int) ^ L) = ((2 ^ L : Nat) : Int) := by simp
    rw [e1]
    omega
  rw [e, and_u8 hJ (by omega), or_u8' hx (and_le255 (by omega))]
theorem junk_take {A : List Nat} {J L R : Nat} (h1 : 1 ≤ A.length) (hR : R = 8 * A.length - L) : (bitsS (A.set (A.length - 1) (nth A (A.length - 1) ||| (J &&& (2 ^ L - 1))))).take R = (bitsS A).take R := by
  apply List.ext_getElem
  · rw [List.length_take, List.length_take, bitsS_len, bitsS_len, List.length_set]
  · intro j i1 i2
    have hj : j < R := by rw [List.length_take] at i1; omega
    have e : nth ((bitsS (A.set (A.length - 1) (nth A (A.length - 1) ||| (J &&& (2 ^ L - 1))))).take R) j = nth ((bitsS A).take R) j := by
      rw [nth_take _ hj, nth_take _ hj, nth_bitsS, nth_bitsS, nth_set _ _ _ _ (by omega)]
      by_cases e : j / 8 = A.length - 1
      · rw [if_pos e, testBit_val, testBit_val, Nat.testBit_or, Nat.testBit_and, Nat.testBit_two_pow_sub_one, decide_eq_false (by omega), Bool.and_false, Bool.or_false, e]
      · rw [if_neg e]
    rwa [nth_of i1, nth_of i2] at e
theorem last_mod {m T L : Nat} (h : Em m) (bs : List Nat) (hp : 1 ≤ pS m T) (hL : L = 8 * pS m T - rS m T) (hL7 : L ≤ 7) : nth (parB m T bs) (pS m T - 1) % 2 ^ L = 0 := by
  apply Nat.eq_of_testBit_eq
  intro i
  rw [Nat.testBit_mod_two_pow, Nat.zero_testBit]
  by_cases hi : i < L
  · have e := nth_bits_bytes (bits_par h T (bits_bitsS bs)) (8 * (pS m T - 1) + (7 - i))
    rw [nth_over (par m T (bitsS bs)) (by rw [par_len]; show rS m T ≤ _; omega), nth_bitsS, testBit_val, show (8 * (pS m T - 1) + (7 - i)) / 8 = pS m T - 1 by omega, show 7 - (8 * (pS m T - 1) + (7 - i)) % 8 = i by omega] at e
    have e2 : (nth (parB m T bs) (pS m T - 1)).testBit i = false := by
      cases hb : (nth (parB m T bs) (pS m T - 1)).testBit i with
      | false => rfl
      | true => exfalso; change (if (nth (parB m T bs) (pS m T - 1)).testBit i = true then 1 else 0) = 0 at e; rw [hb] at e; simp at e
    rw [e2, Bool.and_false]
  · rw [decide_eq_false hi, Bool.false_and]
theorem par_take' {m t : Nat} (h : Em m) (bs : List Nat) : (bitsS (parB m t bs)).take (rS m t) = par m t (bitsS bs) := by
  have hpl := par_len m t (bitsS bs)
  have hbl : (bitsS (parB m t bs)).length = 8 * pS m t := by rw [bitsS_len, parB_len]
  have h8 : rS m t ≤ 8 * pS m t := by unfold pS; omega
  apply List.ext_getElem
  · rw [List.length_take, hbl, hpl]; exact Nat.min_eq_left h8
  · intro i i1 i2
    have e : nth ((bitsS (parB m t bs)).take (rS m t)) i = nth (par m t (bitsS bs)) i := by
      rw [nth_take _ (by rw [hpl] at i2; exact i2)]
      exact nth_bits_bytes (bits_par h t (bits_bitsS bs)) i
    rwa [nth_of i1, nth_of i2] at e
theorem stepB_rd {b : Nat} {w w' : World} {g o : Nat} {bs : List Nat} (h : RdB w (some ⟨g, o, none⟩) bs) (hs : Step b w w') (hg : g ≠ b) : RdB w' (some ⟨g, o, none⟩) bs := by
  refine ⟨h.1, ?_⟩
  rcases h.2 with e | ⟨g', o', e, hc⟩
  · exact .inl e
  · have : g' = g ∧ o' = o := by simpa using e.symm
    obtain ⟨rfl, rfl⟩ := this
    exact .inr ⟨g', o', rfl, fun i hi => by rw [hs.cell (lt_of_cell (hc i hi)) hg]; exact hc i hi⟩
set_option maxHeartbeats 6400000 in
set_option maxRecDepth 4000 in
theorem law_BchNothing (ao : Option Addr) (len cap : Nat) (bs : List Nat) {w : World} (hx : ArgB w ao len bs) (_hl : len ≤ 140737488355328 ∧ len ≤ cap) (t : Int) (ht : I64 t) (J : Nat) (hJ : J ≤ 255) (hG : Glob w) (h0 : 0 < w.heap.size) :
    Calls Tryd.prog 3 #[.slice ao len cap, num t, .int .u8 J] w fun e w' => e = .returned (.bool true) ∧ w.grownBy w' none := by
  have hn := hnot
  obtain ⟨hbl, hrd⟩ := hx
  obtain ⟨i0, hi, hz0, hz1, hz2⟩ := info_parts Tryd.info5
  by_cases hno : len = 0 ∨ 200 < len
  · have hb : (((len : Int) == 0) || decide (200 < (len : Int))) = true := by
      rcases hno with h | h
      · rw [h]; rfl
      · simp; omega
    clear hno
    go_enter Tryd.func3, Tryd.ntmps3
    go_wp2_with fail
    refine (awake2_ok w hG h0).mono ?_
    rintro e w1 ⟨rfl, hg1⟩
    go_wp2_with fail
    all_goals
      go_ret
      exact ⟨rfl, hg1⟩
  · have l1 : 1 ≤ len := by omega
    have l2 : len ≤ 200 := by omega
    have b1 : ((len : Int) == 0) = false := by simp; omega
    have b2 : ¬ (200 : Int) < (len : Int) := by omega
    clear hno
    have hT8 := tS_bd t
    obtain ⟨T, hT⟩ : ∃ T, T = tS t := ⟨_, rfl⟩
    rw [← hT] at hT8
    have HT : Hid (T = tS t) := hT
    clear hT
    go_enter Tryd.func3, Tryd.ntmps3
    go_wp2_with fail
    refine (awake2_ok w hG h0).mono ?_
    rintro e w1 ⟨rfl, hg1⟩
    have hcode := code_ok (hG.kept (hg1.block 0 h0 (by simp))) (by have := hg1.size; omega) ao len cap _ ht l1 (by omega)
    rw [← HT.out] at hcode
    have HCode : Hid (Calls Tryd.prog 7 #[.slice ao len cap, _] w1 _) := hcode
    clear hcode
    go_wp2_with fail
    refine HCode.out.mono ?_
    rintro e w2 ⟨c, b, m, ag, cg, hM, rfl, hc2, hrg, hg2, hb2, hcb⟩
    have hem := hM.em
    have hfits := hc2.fits
    have hrle := hc2.r_le
    have h2g := hc2.two
    have hA := World.grownBy_alloc w2 (.cells #[num m, num len, num T, .slice ag (gH m T).length cg] 27) none
    have hc3 := hc2.more hA
    have hgw3 := grownBy_trans (grownBy_trans hg1 hg2) hA
    have hrd3 := hrd.more hgw3
    have hpe : pS m T = (rS m T + 7) / 8 := rfl
    have hr1 : 1 ≤ rS m T := by unfold rS; omega
    have h104 := hc3.r_104
    have hBi := cBits_ok hc3
    have hen := cEncode_ok hc3 ao cap bs hrd3 hbl
    rw [hbl] at hen
    obtain ⟨R, hR⟩ : ∃ R, R = rS m T := ⟨_, rfl⟩
    obtain ⟨PS, hPS⟩ : ∃ PS, PS = pS m T := ⟨_, rfl⟩
    obtain ⟨L, hL⟩ : ∃ L, L = 8 * PS - R := ⟨_, rfl⟩
    rw [← hR] at hBi hr1 h104 hpe
    rw [← hPS] at hpe hen
    have HR : Hid (R = rS m T) := hR
    have HPS : Hid (PS = pS m T) := hPS
    have eL : 8 * (PS : Int) - (R : Int) = (L : Int) := by omega
    have hL7 : L ≤ 7 := by omega
    have hP1 : 1 ≤ PS := by omega
    have hP2 : PS ≤ 105 := by omega
    have bR : ((R : Int) == 0) = false := by simp; omega
    have HBi : Hid (Calls Tryd.prog 8 #[ptr c] _ _) := hBi
    have HEn : Hid (Calls Tryd.prog 9 #[ptr c, .slice ao len cap] (w2.alloc (.cells #[num m, num len, num T, .slice ag (gH m T).length cg] 27)) _) := hen
    have HL : Hid (L = 8 * PS - R) := hL
    have HPe : Hid (PS = (R + 7) / 8) := hpe
    clear hen HCode hBi hR hPS hL hpe
    go_wp2_with (first | (go_at_call 8; refine HBi.out.mono ?_; rintro e w4 ⟨rfl, rfl⟩))
    refine HEn.out.mono ?_
    rintro e w4 ⟨g4, rfl, hg4a, hg4, hh4⟩
    have hr4 : RdB w4 (some ⟨g4, 0, none⟩) (parB m T bs) := rdB_row (T := []) (by rw [List.append_nil]; exact hh4) (bytesS_le (par m T (bitsS bs)))
    have hc4 := hc3.more hg4
    have hgw4 := grownBy_trans hgw3 hg4
    have hpl : (parB m T bs).length = PS := by rw [parB_len, HPS.out]
    have hBi := cBits_ok hc4
    have hPa := cParity_ok hc4
    rw [← HR.out] at hBi
    rw [← HPS.out] at hPa
    have HB4 : Hid (Calls Tryd.prog 8 #[ptr c] w4 _) := hBi
    have HP4 : Hid (Calls Tryd.prog 10 #[ptr c] w4 _) := hPa
    obtain ⟨A, hA'⟩ : ∃ A, A = parB m T bs := ⟨_, rfl⟩
    rw [← hA'] at hr4 hpl hh4
    have HA : Hid (A = parB m T bs) := hA'
    have HCd : Hid _ := news_of_rd' (w := w4) (g := g4) (off := 0) (bs := A) (fun i hi => by rw [Nat.zero_add, cell_row hh4, valsB_at hi])
    clear HEn HBi hBi hPa hA'
    go_wp2_with (first | (go_at_call 8; refine HB4.out.mono ?_; rintro e w4 ⟨rfl, rfl⟩) | (go_at_call 10; refine HP4.out.mono ?_; rintro e w4 ⟨rfl, rfl⟩) | (at_builtin; refine wpList_append_own _ rfl (.tmp 59) (.tmp 60) 22 rfl w4.heap.size 5 i0 (.int .u8 0) 1 1 Tryd.underlying22 hi hz0 hz1 hz2 rfl (by decide) _ _ _ rfl (World.ownsRow_nil _ _ _ _) ⟨g4, 0, none⟩ PS PS (valsB A) rfl (by rw [valsB_len]; omega) ?c1 ?c2 ?c3 ?c4 ?c5 ?_))
    case c1 => exact HCd.out
    case c2 => exact valsB_one A
    case c3 => unfold maxLen; omega
    case c4 => omega
    case c5 => exact Nat.le_refl _
    intro v1 w5 hown hgrow _
    have hg5 : w4.grownBy w5 none := hgrow
    obtain ⟨g5, c5, T5, rfl, hb5, hh5⟩ := own_parts' (l := A) (by simpa using hown) (by omega)
    have cc : w5.cell? ⟨g5, PS - 1, none⟩ = some (.int .u8 (nth A (PS - 1) : Nat)) := by rw [cell_row hh5, List.getElem?_append_left (by rw [valsB_len]; omega), valsB_at (by omega)]
    have zz : w5.frozen? ⟨g5, PS - 1, none⟩ = false := frozen_row hh5
    have bt : ((PS : Int) - 1).toNat = PS - 1 := by omega
    clear hown hgrow HCd
    go_wp2_with fail
    have hAl := hr4.1 (PS - 1)
    have HV : Hid _ := junk_val hAl hJ hL7
    rw [HV.out]
    have hQv : nth A (PS - 1) ||| (J &&& (2 ^ L - 1)) ≤ 255 := or_byte hAl (and_le255 (by have := pow_le7 hL7; omega))
    obtain ⟨Q, hQ⟩ : ∃ Q, Q = A.set (PS - 1) (nth A (PS - 1) ||| (J &&& (2 ^ L - 1))) := ⟨_, rfl⟩
    have hQl : Q.length = PS := by rw [hQ, List.length_set]; exact hpl
    have hQ6 : (w5.setCell ⟨g5, PS - 1, none⟩ (.int .u8 ((nth A (PS - 1) ||| (J &&& (2 ^ L - 1)) : Nat) : Int))).heap[g5]? = some (.cells (valsB Q ++ T5).toArray 5) := by
      have := setCell_row (i := PS - 1) hh5 (.int .u8 ((nth A (PS - 1) ||| (J &&& (2 ^ L - 1)) : Nat) : Int))
      rw [List.set_append_left _ _ (by rw [valsB_len]; omega), valsB_set, ← hQ] at this
      exact this
    have hg6 := grownBy_setCell hg5 (.inl hb5) (.int .u8 ((nth A (PS - 1) ||| (J &&& (2 ^ L - 1)) : Nat) : Int)) (i := PS - 1)
    have hQle : ∀ i, nth Q i ≤ 255 := by rw [hQ]; exact nth_set_le hr4.1 _ hQv
    have hQt : (bitsS Q).take (rS m T) = par m T (bitsS bs) := by
      have e := junk_take (A := A) (J := J) (L := L) (R := R) (by omega) (by have := HL.out; have := HPe.out; rw [hpl]; omega)
      rw [hpl, ← hQ, HR.out] at e
      rw [e, HA.out]
      exact par_take' hem bs
    have hmod : nth A (PS - 1) % 2 ^ L = 0 := by
      have := last_mod (T := T) (L := L) hem bs (by rw [← HPS.out]; exact hP1) (by rw [← HPS.out, ← HR.out]; exact HL.out) hL7
      rw [← HPS.out, ← HA.out] at this
      exact this
    obtain ⟨w6, hw6⟩ : ∃ w6, w6 = w5.setCell ⟨g5, PS - 1, none⟩ (.int .u8 ((nth A (PS - 1) ||| (J &&& (2 ^ L - 1)) : Nat) : Int)) := ⟨_, rfl⟩
    rw [← hw6] at hQ6 hg6 ⊢
    clear hw6 HV cc zz hQ hh5 hg5 hQv
    have hc6 := hc4.more hg6
    have hgw6 := grownBy_trans hgw4 hg6
    have hr6 := hr4.more hg6
    have hP6 : RdB w6 (some ⟨g5, 0, none⟩) Q := rdB_row hQ6 hQle
    have hrd6 := hrd.more hgw6
    have hb4 : b < w4.heap.size := hc4.fld.lt
    have hg4b : g4 ≠ b := by have := hc3.fld.lt; omega
    have hde := cDecode_ok hc6 ao (some ⟨g5, 0, none⟩) cap c5 bs Q hrd6 hP6 hbl (by rw [hQl, HPS.out])
    rw [hbl, hQl] at hde
    have hWe : wrdS (rS m T) bs Q = bitsS bs ++ par m T (bitsS bs) := by rw [wrdS, hQt]
    rw [hWe] at hde
    have HDe : Hid (Calls Tryd.prog 11 #[ptr c, .slice ao len cap, .slice (some ⟨g5, 0, none⟩) PS c5] w6 _) := hde
    have hV0 : Near m T (bitsS bs ++ par m T (bitsS bs)) (bitsS bs ++ par m T (bitsS bs)) := ⟨rfl, par_word hem T (bits_bitsS bs), by rw [wt_self]; exact Nat.zero_le _⟩
    have HV0 : Hid _ := hV0
    clear hde hV0 hQt hQle
    refine HDe.out.mono ?_
    rintro e w7 ⟨hc7, hs7, hor⟩
    have hgw7 : w.grownBy w7 none := grown_step hgw6 hs7 (by have := hg1.size; omega)
    rcases hor with ⟨V, gx, gy, cx', cy, x, y, Tx, Ty, hN, rfl, hX6, hY6, hx, hy, _, _⟩ | ⟨hnone, _⟩
    · have hbb := bitsS_len bs
      have hVe : V = bitsS bs ++ par m T (bitsS bs) := near_eq hem (by rw [← hWe]; exact bits_wrdS _ bs Q) (by rw [List.length_append, hbb, par_len, hbl]; have : (genS m T).length - 1 = rS m T := rfl; omega) hN HV0.out
      have hx1 : x = bs := by rw [hx, hVe, List.take_append_of_le_length (by omega), List.take_of_length_le (by omega), bytes_bits hrd.1]
      have hy1 : y = A := by rw [hy, hVe, List.drop_append_of_le_length (by omega), List.drop_of_length_le (by omega), List.nil_append, HA.out]
      rw [hx1] at hX6
      rw [hy1] at hY6
      have hw0 : wt (xl (bitsS bs ++ par m T (bitsS bs)) V) = 0 := by rw [hVe, wt_self]
      rw [hw0, ← HPS.out]
      have hr7 := stepB_rd hr6 hs7 hg4b
      have cvx := conv_ok hX6.rdB (by omega) cx'
      have cvd := conv_ok (hrd.more hgw7) (by omega) cap
      have cvy := conv_ok hY6.rdB (by omega) cy
      have cvp := conv_ok hr7 (by omega) PS
      rw [hbl] at cvx cvd
      rw [hpl] at cvy cvp
      obtain ⟨gq, oq, hqe, hcq⟩ := hr7.2.resolve_left (fun e => by rw [e] at hpl; simp at hpl; omega)
      simp at hqe
      obtain ⟨rfl, rfl⟩ := hqe
      have k1 := hcq (PS - 1) (by omega)
      rw [Nat.zero_add] at k1
      obtain ⟨PW, hPW⟩ : ∃ PW, PW = 2 ^ L := ⟨_, rfl⟩
      have bmod : ((nth A (PS - 1) : Nat) : Int) % (PW : Int) = 0 := by rw [hPW, ← Int.natCast_emod, hmod]; rfl
      have hw64 : wrap64 ((2 : Int) ^ L) = (PW : Int) := by rw [hPW]; exact wrap_two hL7
      have bpw : ((PW : Int) == 0) = false := by rw [hPW]; exact (two_pos hL7).1
      have bpw1 : (1 : Int) ≤ (PW : Int) := by rw [hPW]; exact (two_pos hL7).2
      obtain ⟨Z, hZ⟩ : ∃ Z, Z = nth A (PS - 1) := ⟨_, rfl⟩
      rw [← hZ] at k1 bmod hAl
      clear hx hy hx1 hy1 hVe hN hX6 hY6 HDe hbb hcq hw0 hmod hZ hPW
      go_wp2_with fail
      go_ret
      exact ⟨rfl, hgw7⟩
    · exact absurd HV0.out (hnone _)
end Go.Proofs.YtiojdoehlooibabDoor
