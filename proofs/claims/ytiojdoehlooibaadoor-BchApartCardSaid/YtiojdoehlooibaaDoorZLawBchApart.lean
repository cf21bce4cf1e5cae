/- The walk of BchApart. -/
import Derived.Test.YtiojdoehlooibaaDoorZMn
import Derived.Test.YtiojdoehlooibaaDoorZBx
namespace Go.Proofs.YtiojdoehlooibaaDoor
open Go.RowKit Gf
/-- Words of unlike data differ in 2t + 1 bits and more. -/
theorem un_apart {m T : Nat} (h : Em m) {a D : List Nat} (hl : D.length = a.length) (hz : 8 * a.length + rS m T ≤ sz m) (hne : unS a D ≠ 0) : 2 * T + 1 ≤ unS a D + unS (parB m T a) (parB m T D) := by
  have hw := wt_parts (r := rS m T) (D := a) (P := parB m T a) (ds := D) (ps := parB m T D) hl.symm
  rw [wrd_par h, wrd_par h] at hw
  have hwl : (bitsS a ++ par m T (bitsS a)).length = (bitsS D ++ par m T (bitsS D)).length := by rw [List.length_append, List.length_append, bitsS_len, bitsS_len, par_len, par_len, hl]
  have hza : (bitsS a ++ par m T (bitsS a)).length ≤ sz m := by rw [List.length_append, bitsS_len, par_len]; exact hz
  have hd := apart h (t := T) (a := (bitsS a ++ par m T (bitsS a)).reverse) (b := (bitsS D ++ par m T (bitsS D)).reverse) (by rw [List.length_reverse, List.length_reverse]; exact hwl) (by rw [List.length_reverse]; exact hza) (par_word h T (bits_bitsS a)) (par_word h T (bits_bitsS D)) (fun e => hne (by
    have e2 := List.append_inj_left (List.reverse_inj.1 e) (by rw [bitsS_len, bitsS_len, hl])
    unfold unS; rw [e2]; exact wt_self _))
  rw [← xl_rev hwl, wt_rev] at hd
  omega
set_option maxHeartbeats 6400000 in
set_option maxRecDepth 4000 in
theorem law_BchApart (ao : Option Addr) (len cap : Nat) (bs : List Nat) {w : World} (hx : ArgB w ao len bs) (_hl : len ≤ 140737488355328 ∧ len ≤ cap) (ax : Option Addr) (lx cx : Nat) (xs : List Int) (hxs : Arg w ax lx xs) (hlx : lx ≤ 17592186044416 ∧ lx ≤ cx) (t : Int) (ht : I64 t) (hG : Glob w) (h0 : 0 < w.heap.size) :
    Calls Tryd.prog 8 #[.slice ao len cap, .slice ax lx cx, num t] w fun e w' => e = .returned (.bool true) ∧ w.grownBy w' none := by
  have hn := hnot
  obtain ⟨hbl, hrd⟩ := hx
  by_cases hno : len = 0 ∨ 200 < len
  · have hb : (((len : Int) == 0) || decide (200 < (len : Int))) = true := by
      rcases hno with h | h
      · rw [h]; rfl
      · simp; omega
    clear hno
    go_enter Tryd.func8, Tryd.ntmps8
    go_wp2_with fail
    refine (awake2_ok w hG h0).mono ?_
    rintro e w1 ⟨rfl, hg1⟩
    go_wp2_with fail
    all_goals
      go_ret
      exact ⟨rfl, hg1⟩
  · have l1 : 1 ≤ len := by omega
    have l2 : len ≤ 200 := by omega
    have b1 : ((len : Int) == 0) = false := by simp; omega
    have b2 : ¬ (200 : Int) < (len : Int) := by omega
    clear hno
    have hT8 := tS_bd t
    obtain ⟨T, hT⟩ : ∃ T, T = tS t := ⟨_, rfl⟩
    have key : ∃ U : Nat, (t = (U : Int) ∨ t = -(U : Int) - 1) ∧ 1 + (U : Int) % 8 = (T : Int) := by
      by_cases hneg : t < 0
      · obtain ⟨U, hU⟩ := Int.eq_ofNat_of_zero_le (show 0 ≤ -(t + 1) by omega)
        have hte : t = -(U : Int) - 1 := by omega
        refine ⟨U, .inr hte, ?_⟩
        rw [hT, hte, tS_neg]; omega
      · obtain ⟨U, hU⟩ := Int.eq_ofNat_of_zero_le (show 0 ≤ t by omega)
        refine ⟨U, .inl hU, ?_⟩
        rw [hT, hU, tS_nat]; omega
    obtain ⟨U, hU, hUT⟩ := key
    rw [← hT] at hT8
    have HT : Hid (T = tS t) := hT
    have HU : Hid (1 + (U : Int) % 8 = (T : Int)) := hUT
    clear hT hUT
    have ht' := ht
    obtain ⟨ht1, ht2⟩ := ht'
    rcases hU with rfl | rfl
    all_goals
      go_enter Tryd.func8, Tryd.ntmps8
      go_wp2_with fail
      refine (awake2_ok w hG h0).mono ?_
      rintro e w1 ⟨rfl, hg1⟩
      have hcode := code_ok (hG.kept (hg1.block 0 h0 (by simp))) (by have := hg1.size; omega) ao len cap _ ht l1 (by omega)
      rw [← HT.out] at hcode
      have HCode : Hid (Calls Tryd.prog 17 #[.slice ao len cap, _] w1 _) := hcode
      clear hcode
      go_wp2_with fail
      refine HCode.out.mono ?_
      rintro e w2 ⟨c, b, m, ag, cg, hM, rfl, hc2, hrg, hg2, hb2, hcb⟩
      have hem := hM.em
      have hfits := hc2.fits
      have hrle := hc2.r_le
      have h2g := hc2.two
      have hA := World.grownBy_alloc w2 (.cells #[num m, num len, num T, .slice ag (gH m T).length cg] 29) none
      have hc3 := hc2.more hA
      have hrd3 := (hrd.more (grownBy_trans hg1 hg2)).more hA
      have hgw3 := grownBy_trans (grownBy_trans hg1 hg2) hA
      have hlx1 := hlx.1
      have hX : Arg (w2.alloc (.cells #[num m, num len, num T, .slice ag (gH m T).length cg] 29)) ax xs.length xs := by rw [hxs.1]; exact hxs.kept hgw3
      have hbe := bentNil_ok ao ax cap cx bs xs hrd3 hX (by omega) (by omega) (by rw [hxs.1]; exact hlx1)
      rw [hbl, hxs.1] at hbe
      have HBe : Hid (Calls Tryd.prog 20 #[.slice ao len cap, .slice none 0 0, .slice ax lx cx] (w2.alloc (.cells #[num m, num len, num T, .slice ag (gH m T).length cg] 29)) _) := hbe
      clear hbe HCode hX
      go_wp2_with fail
      refine HBe.out.mono ?_
      rintro e w4 ⟨g1, c1, D, T1, rfl, hBR, hBn⟩
      rw [hbl]
      have hgw4 := grownBy_trans hgw3 hBR.grown
      have hc4 := hc3.more hBR.grown
      have hrd4 := hrd3.more hBR.grown
      have hD4 : RdB w4 (some ⟨g1, 0, none⟩) D := rdB_row hBR.at1 hBn.bd
      have hDl : D.length = len := by rw [hBn.ld, hbl]
      have hen := cEncode_ok hc4 ao cap bs hrd4 hbl
      rw [hbl] at hen
      have HEn : Hid (Calls Tryd.prog 18 #[ptr c, .slice ao len cap] w4 _) := hen
      clear hen HBe
      go_wp2_with fail
      refine HEn.out.mono ?_
      rintro e w5 ⟨g5, rfl, hg5a, hg5, hh5⟩
      have hpl := parB_len m T bs
      have hpl2 := parB_len m T D
      have hle := bytesS_le (par m T (bitsS bs))
      have hr5 : RdB w5 (some ⟨g5, 0, none⟩) (parB m T bs) := rdB_row (T := []) (by rw [List.append_nil]; exact hh5) hle
      have hc5 := hc4.more hg5
      have hrd5 := hrd4.more hg5
      have hD5 := hD4.more hg5
      have hgw5 := grownBy_trans hgw4 hg5
      have hen := cEncode_ok hc5 (some ⟨g1, 0, none⟩) c1 D hD5 hDl
      rw [hDl] at hen
      have HEn2 : Hid (Calls Tryd.prog 18 #[ptr c, .slice (some ⟨g1, 0, none⟩) len c1] w5 _) := hen
      clear hen HEn
      go_wp2_with fail
      refine HEn2.out.mono ?_
      rintro e w6 ⟨g6, rfl, hg6a, hg6, hh6⟩
      have hle2 := bytesS_le (par m T (bitsS D))
      have hr6 : RdB w6 (some ⟨g6, 0, none⟩) (parB m T D) := rdB_row (T := []) (by rw [List.append_nil]; exact hh6) hle2
      have hrd6 := hrd5.more hg6
      have hD6 := hD5.more hg6
      have hr56 := hr5.more hg6
      have hgw6 := grownBy_trans hgw5 hg6
      have h104 := hc3.r_104
      have hr1 : 1 ≤ rS m T := by unfold rS; omega
      have hpe : pS m T = (rS m T + 7) / 8 := rfl
      have hp105 : 1 ≤ pS m T ∧ pS m T ≤ 105 := by omega
      have hu1 := unlike_ok (w := w6) ao (some ⟨g1, 0, none⟩) cap c1 bs D hrd6 hD6 hBn.ld.symm (by omega)
      rw [hDl, hbl] at hu1
      have HU1 : Hid (Calls Tryd.prog 23 #[.slice ao len cap, .slice (some ⟨g1, 0, none⟩) len c1] w6 _) := hu1
      have hu2 := fun (w7 : World) (hg7 : w6.grownBy w7 none) => unlike_ok (w := w7) (some ⟨g5, 0, none⟩) (some ⟨g6, 0, none⟩) (pS m T) (pS m T) (parB m T bs) (parB m T D) (hr56.more hg7) (hr6.more hg7) (by rw [hpl, hpl2]) (by rw [hpl]; omega)
      rw [hpl, hpl2] at hu2
      have HU2 : Hid (∀ (w7 : World), w6.grownBy w7 none → Calls Tryd.prog 23 #[.slice (some ⟨g5, 0, none⟩) (pS m T) (pS m T), .slice (some ⟨g6, 0, none⟩) (pS m T) (pS m T)] w7 fun e w' => e = .returned (num (unS (parB m T bs) (parB m T D) : Nat)) ∧ w7.grownBy w' none) := hu2
      have k1 : unS bs D ≤ 8 * len := by have h1 := unN_all hBn.ld.symm; have h2 := unN_le bs D bs.length; rw [h1, hbl] at h2; exact h2
      have k2 : unS (parB m T bs) (parB m T D) ≤ 8 * pS m T := by have h1 := unN_all (a := parB m T bs) (b := parB m T D) (by rw [hpl, hpl2]); have h2 := unN_le (parB m T bs) (parB m T D) (parB m T bs).length; rw [h1, hpl] at h2; exact h2
      have hap := fun hne => un_apart (T := T) hem hBn.ld (by rw [hbl]; omega) hne
      obtain ⟨u1, hu1e⟩ : ∃ u1, u1 = unS bs D := ⟨_, rfl⟩
      obtain ⟨u2, hu2e⟩ : ∃ u2, u2 = unS (parB m T bs) (parB m T D) := ⟨_, rfl⟩
      rw [← hu1e] at HU1 k1
      rw [← hu2e] at HU2 k2
      rw [← hu1e, ← hu2e] at hap
      have bu1 : (u1 : Int) ≤ 1600 := by omega
      have bu2 : (u2 : Int) ≤ 1600 := by omega
      clear hu1e hu2e hu1 hu2 k1 k2 HEn2 hr56 hr6 hr5 hpl hpl2
      go_wp2_with fail
      refine HU1.out.mono ?_
      rintro e w7 ⟨rfl, hg7⟩
      have hgw7 := grownBy_trans hgw6 hg7
      by_cases hz : u1 = 0
      · subst hz
        go_wp2_with fail
        go_ret
        exact ⟨rfl, hgw7⟩
      · have hap2 := hap hz
        have bz : ((u1 : Int) == 0) = false := by simp; omega
        have bf : 2 * (1 + (U : Int) % 8) + 1 ≤ (u1 : Int) + (u2 : Int) := by have := HU.out; omega
        clear hap hap2
        go_wp2_with fail
        refine (HU2.out w7 hg7).mono ?_
        rintro e w8 ⟨rfl, hg8⟩
        have hgw8 := grownBy_trans hgw7 hg8
        go_wp2_with fail
        go_ret
        exact ⟨rfl, hgw8⟩
end Go.Proofs.YtiojdoehlooibaaDoor
