/- The walk of BchMends. -/
import Derived.Test.YtiojdoehlooibaaDoorZMn
namespace Go.Proofs.YtiojdoehlooibaaDoor
open Go.RowKit Gf
set_option maxHeartbeats 6400000 in
set_option maxRecDepth 4000 in
theorem law_BchMends (ao : Option Addr) (len cap : Nat) (bs : List Nat) {w : World} (hx : ArgB w ao len bs) (_hl : len ≤ 140737488355328 ∧ len ≤ cap) (t : Int) (ht : I64 t) (ax : Option Addr) (lx cx : Nat) (xs : List Int) (hxs : Arg w ax lx xs) (hlx : lx ≤ 17592186044416 ∧ lx ≤ cx) (hG : Glob w) (h0 : 0 < w.heap.size) :
    Calls Tryd.prog 6 #[.slice ao len cap, num t, .slice ax lx cx] w fun e w' => e = .returned (.bool true) ∧ w.grownBy w' none := by
  have hn := hnot
  obtain ⟨hbl, hrd⟩ := hx
  by_cases hno : len = 0 ∨ 200 < len
  · have hb : (((len : Int) == 0) || decide (200 < (len : Int))) = true := by
      rcases hno with h | h
      · rw [h]; rfl
      · simp; omega
    clear hno
    go_enter Tryd.func6, Tryd.ntmps6
    go_wp2_with fail
    refine (awake2_ok w hG h0).mono ?_
    rintro e w1 ⟨rfl, hg1⟩
    go_wp2_with fail
    all_goals
      go_ret
      exact ⟨rfl, hg1⟩
  · have l1 : 1 ≤ len := by omega
    have l2 : len ≤ 200 := by omega
    have b1 : ((len : Int) == 0) = false := by simp; omega
    have b2 : ¬ (200 : Int) < (len : Int) := by omega
    clear hno
    have hT8 := tS_bd t
    obtain ⟨T, hT⟩ : ∃ T, T = tS t := ⟨_, rfl⟩
    have key : ∃ U : Nat, (t = (U : Int) ∨ t = -(U : Int) - 1) ∧ 1 + (U : Int) % 8 = (T : Int) := by
      by_cases hneg : t < 0
      · obtain ⟨U, hU⟩ := Int.eq_ofNat_of_zero_le (show 0 ≤ -(t + 1) by omega)
        have hte : t = -(U : Int) - 1 := by omega
        refine ⟨U, .inr hte, ?_⟩
        rw [hT, hte, tS_neg]; omega
      · obtain ⟨U, hU⟩ := Int.eq_ofNat_of_zero_le (show 0 ≤ t by omega)
        refine ⟨U, .inl hU, ?_⟩
        rw [hT, hU, tS_nat]; omega
    obtain ⟨U, hU, hUT⟩ := key
    rw [← hT] at hT8
    have HT : Hid (T = tS t) := hT
    have HU : Hid (1 + (U : Int) % 8 = (T : Int)) := hUT
    clear hT hUT
    have ht' := ht
    obtain ⟨ht1, ht2⟩ := ht'
    rcases hU with rfl | rfl
    all_goals
      go_enter Tryd.func6, Tryd.ntmps6
      go_wp2_with fail
      refine (awake2_ok w hG h0).mono ?_
      rintro e w1 ⟨rfl, hg1⟩
      have hcode := code_ok (hG.kept (hg1.block 0 h0 (by simp))) (by have := hg1.size; omega) ao len cap _ ht l1 (by omega)
      rw [← HT.out] at hcode
      have HCode : Hid (Calls Tryd.prog 17 #[.slice ao len cap, _] w1 _) := hcode
      clear hcode
      go_wp2_with fail
      refine HCode.out.mono ?_
      rintro e w2 ⟨c, b, m, ag, cg, hM, rfl, hc2, hrg, hg2, hb2, hcb⟩
      have hem := hM.em
      have hfits := hc2.fits
      have hrle := hc2.r_le
      have h2g := hc2.two
      have hA := World.grownBy_alloc w2 (.cells #[num m, num len, num T, .slice ag (gH m T).length cg] 29) none
      have hc3 := hc2.more hA
      have hrd3 := (hrd.more (grownBy_trans hg1 hg2)).more hA
      have hgw3 := grownBy_trans (grownBy_trans hg1 hg2) hA
      have hen := cEncode_ok hc3 ao cap bs hrd3 hbl
      rw [hbl] at hen
      have HEn : Hid (Calls Tryd.prog 18 #[ptr c, .slice ao len cap] (w2.alloc (.cells #[num m, num len, num T, .slice ag (gH m T).length cg] 29)) _) := hen
      clear hen HCode
      go_wp2_with fail
      try rw [HU.out]
      refine HEn.out.mono ?_
      rintro e w4 ⟨g4, rfl, hg4a, hg4, hh4⟩
      have hpl := parB_len m T bs
      have hpe : pS m T = (rS m T + 7) / 8 := rfl
      have hr1 : 1 ≤ rS m T := by unfold rS; omega
      have h8 : rS m T ≤ 8 * pS m T := by omega
      have hp105 : 1 ≤ pS m T ∧ pS m T ≤ 105 := by have := hc3.r_104; omega
      have h104 := hc3.r_104
      have hle := bytesS_le (par m T (bitsS bs))
      have hr4 : RdB w4 (some ⟨g4, 0, none⟩) (parB m T bs) := rdB_row (T := []) (by rw [List.append_nil]; exact hh4) hle
      have hc4 := hc3.more hg4
      have hrd4 := hrd3.more hg4
      have hgw4 := grownBy_trans hgw3 hg4
      have hxs4 := hxs.kept hgw4
      have hlx2 := hlx.2
      have hlx1 := hlx.1
      have hxl := hxs.1
      clear HEn hlx
      by_cases hgt : T < lx
      · have bT : (T : Int) < (lx : Int) := by omega
        have bT2 : (T : Int) ≤ (cx : Int) := by omega
        have hX := hxs4.take T
        have HXl : Hid ((xs.take T).length = T) := by rw [Hid, List.length_take]; omega
        clear hxl
        have hbe := bent_ok ao (some ⟨g4, 0, none⟩) ax cap (pS m T) cx bs (parB m T bs) (xs.take T) hrd4 hr4 hX (by omega) (by rw [hpl]; omega) (by omega) (by rw [hpl]; omega) (by rw [HXl.out]; omega)
        rw [hbl, hpl, HXl.out] at hbe
        have HBe : Hid (Calls Tryd.prog 20 #[.slice ao len cap, .slice (some ⟨g4, 0, none⟩) (pS m T) (pS m T), .slice ax T cx] w4 _) := hbe
        clear hbe hX
        go_wp2_with fail
        refine HBe.out.mono ?_
        rintro e w5 ⟨g1, g2, c1, c2, D, P, T1, T2, rfl, hBR, hBn⟩
        rw [hpl]
        rw [hbl]
        have hgw5 := grownBy_trans hgw4 hBR.grown
        have hc5 := hc4.more hBR.grown
        have hD5 : RdB w5 (some ⟨g1, 0, none⟩) D := rdB_row hBR.at1 hBn.bd
        have hP5 : RdB w5 (some ⟨g2, 0, none⟩) P := rdB_row hBR.at2 hBn.bp
        have hDl : D.length = len := by rw [hBn.ld, hbl]
        have hPl : P.length = pS m T := by rw [hBn.lp, hpl]
        have hb4 : b < w4.heap.size := hc4.fld.lt
        have hg1b : g1 ≠ b := by have := hBR.new1; omega
        have hg2b : g2 ≠ b := by have := hBR.new2; omega
        have hg4b : g4 ≠ b := by have := hc3.fld.lt; omega
        have hde := cDecode_ok hc5 (some ⟨g1, 0, none⟩) (some ⟨g2, 0, none⟩) c1 c2 D P hD5 hP5 hDl hPl
        rw [hDl, hPl] at hde
        have HDe : Hid (Calls Tryd.prog 21 #[ptr c, .slice (some ⟨g1, 0, none⟩) len c1, .slice (some ⟨g2, 0, none⟩) (pS m T) c2] w5 _) := hde
        have hnr := hBn.near (rS m T) (by rw [hpl]; exact h8)
        rw [wrd_par hem] at hnr
        have hWl := wrdS_len (r := rS m T) (ds := D) (ps := P) (by rw [hPl]; exact h8)
        have hV0 : Near m T (wrdS (rS m T) D P) (bitsS bs ++ par m T (bitsS bs)) := ⟨by rw [hWl, List.length_append, bitsS_len, par_len, hDl, hbl], par_word hem T (bits_bitsS bs), Nat.le_trans hnr (Nat.min_le_left _ _)⟩
        have hun := wt_parts (r := rS m T) (D := D) (P := P) (ds := bs) (ps := parB m T bs) hBn.ld
        rw [wrd_par hem] at hun
        have HUn : Hid _ := hun
        have HV0 : Hid _ := hV0
        have HWl : Hid _ := hWl
        have HDl : Hid _ := hDl
        have HPl : Hid _ := hPl
        have hr45 := hr4.more hBR.grown
        clear hde HBe hun hV0 hnr hWl hDl hPl
        go_wp2_with fail
        refine HDe.out.mono ?_
        rintro e w6 ⟨hc6, hs6, hor⟩
        have hgw6 : w.grownBy w6 none := grown_step hgw5 hs6 (by have := hg1.size; omega)
        rcases hor with ⟨V, gx, gy, cx', cy, x, y, Tx, Ty, hN, rfl, hX6, hY6, hx, hy, _, _⟩ | ⟨hnone, _⟩
        · have hVe : V = bitsS bs ++ par m T (bitsS bs) := near_eq hem (bits_wrdS _ D P) (by rw [HWl.out, HDl.out]; omega) hN HV0.out
          have hbb := bitsS_len bs
          have hx1 : x = bs := by rw [hx, hVe, List.take_append_of_le_length (by omega), List.take_of_length_le (by omega), bytes_bits hrd.1]
          have hy1 : y = parB m T bs := by rw [hy, hVe, List.drop_append_of_le_length (by omega), List.drop_of_length_le (by omega), List.nil_append]
          have hwtl : wt (xl (wrdS (rS m T) D P) V) ≤ unS D bs + unS P (parB m T bs) := by rw [hVe]; exact HUn.out
          rw [hx1] at hX6
          rw [hy1] at hY6
          have cvx := conv_ok hX6.rdB (by omega) cx'
          have cvd := conv_ok (hrd.more hgw6) (by omega) cap
          have cvy := conv_ok hY6.rdB (by rw [hpl]; exact hp105.1) cy
          have cvp := conv_ok (hr45.stepB hs6 hg4b) (by rw [hpl]; exact hp105.1) (pS m T)
          rw [hbl] at cvx cvd
          rw [hpl] at cvy cvp
          have hu1 := unlike_ok (w := w6) (some ⟨g1, 0, none⟩) ao c1 cap D bs (hD5.stepB hs6 hg1b) (hrd.more hgw6) hBn.ld (by rw [HDl.out]; omega)
          rw [HDl.out, hbl] at hu1
          have HU1 : Hid (Calls Tryd.prog 23 #[.slice (some ⟨g1, 0, none⟩) len c1, .slice ao len cap] w6 _) := hu1
          have hu2 := fun (w7 : World) (hg7 : w6.grownBy w7 none) => unlike_ok (w := w7) (some ⟨g2, 0, none⟩) (some ⟨g4, 0, none⟩) c2 (pS m T) P (parB m T bs) ((hP5.stepB hs6 hg2b).more hg7) ((hr45.stepB hs6 hg4b).more hg7) hBn.lp (by rw [HPl.out]; omega)
          rw [HPl.out, hpl] at hu2
          have HU2 : Hid (∀ (w7 : World), w6.grownBy w7 none → Calls Tryd.prog 23 #[.slice (some ⟨g2, 0, none⟩) (pS m T) c2, .slice (some ⟨g4, 0, none⟩) (pS m T) (pS m T)] w7 fun e w' => e = .returned (num (unS P (parB m T bs) : Nat)) ∧ w7.grownBy w' none) := hu2
          obtain ⟨NW, hNW⟩ : ∃ NW, NW = wt (xl (wrdS (rS m T) D P) V) := ⟨_, rfl⟩
          obtain ⟨u1, hu1e⟩ : ∃ u1, u1 = unS D bs := ⟨_, rfl⟩
          obtain ⟨u2, hu2e⟩ : ∃ u2, u2 = unS P (parB m T bs) := ⟨_, rfl⟩
          have k1 : unS D bs ≤ 8 * len := by have h1 := unN_all hBn.ld; have h2 := unN_le D bs D.length; rw [h1, HDl.out] at h2; exact h2
          have k2 : unS P (parB m T bs) ≤ 8 * pS m T := by have h1 := unN_all hBn.lp; have h2 := unN_le P (parB m T bs) P.length; rw [h1, HPl.out] at h2; exact h2
          rw [← hNW, ← hu1e, ← hu2e] at hwtl
          rw [← hNW]
          rw [← hu1e] at HU1 k1
          rw [← hu2e] at HU2 k2
          have bu1 : (u1 : Int) ≤ 1600 := by omega
          have bu2 : (u2 : Int) ≤ 1600 := by omega
          have bnw : (NW : Int) ≤ (u1 : Int) + (u2 : Int) := by omega
          clear hNW hu1e hu2e hx hy hx1 hy1 hVe hN hX6 hY6 hu1 hu2 hwtl k1 k2 HDe hbb
          go_wp2_with fail
          refine HU1.out.mono ?_
          rintro e w7 ⟨rfl, hg7⟩
          go_wp2_with fail
          refine (HU2.out w7 hg7).mono ?_
          rintro e w8 ⟨rfl, hg8⟩
          have hgw8 := grownBy_trans (grownBy_trans hgw6 hg7) hg8
          go_wp2_with fail
          go_ret
          exact ⟨rfl, hgw8⟩
        · exact absurd HV0.out (hnone _)
      · have bT : ¬ (T : Int) < (lx : Int) := by omega
        have hX : Arg w4 ax xs.length xs := by rw [hxl]; exact hxs4
        have HXl : Hid (xs.length = lx) := hxl
        clear hxl
        have hbe := bent_ok ao (some ⟨g4, 0, none⟩) ax cap (pS m T) cx bs (parB m T bs) (xs) hrd4 hr4 hX (by omega) (by rw [hpl]; omega) (by omega) (by rw [hpl]; omega) (by rw [HXl.out]; omega)
        rw [hbl, hpl, HXl.out] at hbe
        have HBe : Hid (Calls Tryd.prog 20 #[.slice ao len cap, .slice (some ⟨g4, 0, none⟩) (pS m T) (pS m T), .slice ax lx cx] w4 _) := hbe
        clear hbe hX
        go_wp2_with fail
        refine HBe.out.mono ?_
        rintro e w5 ⟨g1, g2, c1, c2, D, P, T1, T2, rfl, hBR, hBn⟩
        rw [hpl]
        rw [hbl]
        have hgw5 := grownBy_trans hgw4 hBR.grown
        have hc5 := hc4.more hBR.grown
        have hD5 : RdB w5 (some ⟨g1, 0, none⟩) D := rdB_row hBR.at1 hBn.bd
        have hP5 : RdB w5 (some ⟨g2, 0, none⟩) P := rdB_row hBR.at2 hBn.bp
        have hDl : D.length = len := by rw [hBn.ld, hbl]
        have hPl : P.length = pS m T := by rw [hBn.lp, hpl]
        have hb4 : b < w4.heap.size := hc4.fld.lt
        have hg1b : g1 ≠ b := by have := hBR.new1; omega
        have hg2b : g2 ≠ b := by have := hBR.new2; omega
        have hg4b : g4 ≠ b := by have := hc3.fld.lt; omega
        have hde := cDecode_ok hc5 (some ⟨g1, 0, none⟩) (some ⟨g2, 0, none⟩) c1 c2 D P hD5 hP5 hDl hPl
        rw [hDl, hPl] at hde
        have HDe : Hid (Calls Tryd.prog 21 #[ptr c, .slice (some ⟨g1, 0, none⟩) len c1, .slice (some ⟨g2, 0, none⟩) (pS m T) c2] w5 _) := hde
        have hnr := hBn.near (rS m T) (by rw [hpl]; exact h8)
        rw [wrd_par hem] at hnr
        have hWl := wrdS_len (r := rS m T) (ds := D) (ps := P) (by rw [hPl]; exact h8)
        have hV0 : Near m T (wrdS (rS m T) D P) (bitsS bs ++ par m T (bitsS bs)) := ⟨by rw [hWl, List.length_append, bitsS_len, par_len, hDl, hbl], par_word hem T (bits_bitsS bs), Nat.le_trans hnr (Nat.le_trans (Nat.min_le_left _ _) (Nat.not_lt.1 hgt))⟩
        have hun := wt_parts (r := rS m T) (D := D) (P := P) (ds := bs) (ps := parB m T bs) hBn.ld
        rw [wrd_par hem] at hun
        have HUn : Hid _ := hun
        have HV0 : Hid _ := hV0
        have HWl : Hid _ := hWl
        have HDl : Hid _ := hDl
        have HPl : Hid _ := hPl
        have hr45 := hr4.more hBR.grown
        clear hde HBe hun hV0 hnr hWl hDl hPl
        go_wp2_with fail
        refine HDe.out.mono ?_
        rintro e w6 ⟨hc6, hs6, hor⟩
        have hgw6 : w.grownBy w6 none := grown_step hgw5 hs6 (by have := hg1.size; omega)
        rcases hor with ⟨V, gx, gy, cx', cy, x, y, Tx, Ty, hN, rfl, hX6, hY6, hx, hy, _, _⟩ | ⟨hnone, _⟩
        · have hVe : V = bitsS bs ++ par m T (bitsS bs) := near_eq hem (bits_wrdS _ D P) (by rw [HWl.out, HDl.out]; omega) hN HV0.out
          have hbb := bitsS_len bs
          have hx1 : x = bs := by rw [hx, hVe, List.take_append_of_le_length (by omega), List.take_of_length_le (by omega), bytes_bits hrd.1]
          have hy1 : y = parB m T bs := by rw [hy, hVe, List.drop_append_of_le_length (by omega), List.drop_of_length_le (by omega), List.nil_append]
          have hwtl : wt (xl (wrdS (rS m T) D P) V) ≤ unS D bs + unS P (parB m T bs) := by rw [hVe]; exact HUn.out
          rw [hx1] at hX6
          rw [hy1] at hY6
          have cvx := conv_ok hX6.rdB (by omega) cx'
          have cvd := conv_ok (hrd.more hgw6) (by omega) cap
          have cvy := conv_ok hY6.rdB (by rw [hpl]; exact hp105.1) cy
          have cvp := conv_ok (hr45.stepB hs6 hg4b) (by rw [hpl]; exact hp105.1) (pS m T)
          rw [hbl] at cvx cvd
          rw [hpl] at cvy cvp
          have hu1 := unlike_ok (w := w6) (some ⟨g1, 0, none⟩) ao c1 cap D bs (hD5.stepB hs6 hg1b) (hrd.more hgw6) hBn.ld (by rw [HDl.out]; omega)
          rw [HDl.out, hbl] at hu1
          have HU1 : Hid (Calls Tryd.prog 23 #[.slice (some ⟨g1, 0, none⟩) len c1, .slice ao len cap] w6 _) := hu1
          have hu2 := fun (w7 : World) (hg7 : w6.grownBy w7 none) => unlike_ok (w := w7) (some ⟨g2, 0, none⟩) (some ⟨g4, 0, none⟩) c2 (pS m T) P (parB m T bs) ((hP5.stepB hs6 hg2b).more hg7) ((hr45.stepB hs6 hg4b).more hg7) hBn.lp (by rw [HPl.out]; omega)
          rw [HPl.out, hpl] at hu2
          have HU2 : Hid (∀ (w7 : World), w6.grownBy w7 none → Calls Tryd.prog 23 #[.slice (some ⟨g2, 0, none⟩) (pS m T) c2, .slice (some ⟨g4, 0, none⟩) (pS m T) (pS m T)] w7 fun e w' => e = .returned (num (unS P (parB m T bs) : Nat)) ∧ w7.grownBy w' none) := hu2
          obtain ⟨NW, hNW⟩ : ∃ NW, NW = wt (xl (wrdS (rS m T) D P) V) := ⟨_, rfl⟩
          obtain ⟨u1, hu1e⟩ : ∃ u1, u1 = unS D bs := ⟨_, rfl⟩
          obtain ⟨u2, hu2e⟩ : ∃ u2, u2 = unS P (parB m T bs) := ⟨_, rfl⟩
          have k1 : unS D bs ≤ 8 * len := by have h1 := unN_all hBn.ld; have h2 := unN_le D bs D.length; rw [h1, HDl.out] at h2; exact h2
          have k2 : unS P (parB m T bs) ≤ 8 * pS m T := by have h1 := unN_all hBn.lp; have h2 := unN_le P (parB m T bs) P.length; rw [h1, HPl.out] at h2; exact h2
          rw [← hNW, ← hu1e, ← hu2e] at hwtl
          rw [← hNW]
          rw [← hu1e] at HU1 k1
          rw [← hu2e] at HU2 k2
          have bu1 : (u1 : Int) ≤ 1600 := by omega
          have bu2 : (u2 : Int) ≤ 1600 := by omega
          have bnw : (NW : Int) ≤ (u1 : Int) + (u2 : Int) := by omega
          clear hNW hu1e hu2e hx hy hx1 hy1 hVe hN hX6 hY6 hu1 hu2 hwtl k1 k2 HDe hbb
          go_wp2_with fail
          refine HU1.out.mono ?_
          rintro e w7 ⟨rfl, hg7⟩
          go_wp2_with fail
          refine (HU2.out w7 hg7).mono ?_
          rintro e w8 ⟨rfl, hg8⟩
          have hgw8 := grownBy_trans (grownBy_trans hgw6 hg7) hg8
          go_wp2_with fail
          go_ret
          exact ⟨rfl, hgw8⟩
        · exact absurd HV0.out (hnone _)
end Go.Proofs.YtiojdoehlooibaaDoor
