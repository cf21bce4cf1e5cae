/- The walk of RecordAll. -/
import Derived.Test.YtfmkmfjmhpgglaaDoorRq
import Derived.Deep.RegionHeld3
namespace Go.Proofs.YtfmkmfjmhpgglaaDoor
open Go.RowKit
namespace Rc
open Cr
theorem ex_from (B : List Nat) : ∀ (f k : Nat), (∀ j, j < k → Ok B j) → 37 * k ≤ B.length → B.length < 37 * (k + f) → ∃ N, (∀ j, j < N → Ok B j) ∧ ¬ Ok B N ∧ 37 * N ≤ B.length
  | 0, k, _, h1, h2 => by omega
  | f + 1, k, h, h1, h2 => by
    by_cases hk : Ok B k
    · exact ex_from B f (k + 1) (fun j hj => by
        by_cases e : j = k
        · rw [e]; exact hk
        · exact h j (by omega)) hk.len (by omega)
    · exact ⟨k, h, hk, h1⟩
theorem ex_N (B : List Nat) : ∃ N, (∀ j, j < N → Ok B j) ∧ ¬ Ok B N ∧ 37 * N ≤ B.length := ex_from B (B.length + 1) 0 (fun j hj => by omega) (by omega) (by omega)
theorem rdV_take {w : World} {base N m : Nat} {a : Option Addr} {c : Nat} {B : List Nat} (h : w.ownsRow base 24 5 (.slice a N c) N (valsR (recs B N))) (hm : m ≤ N) : RdV w (.slice a m c) (recs B m) ∧ N ≤ c := by
  obtain ⟨a', c', e, h1, h2⟩ := rdV_own h
  injection e with e1 e2 e3
  subst e1
  subst e3
  rw [recs_len] at h1
  refine ⟨⟨a, c, by rw [recs_len], by rw [recs_len]; omega, ?_⟩, h1⟩
  by_cases h0 : m = 0
  · subst h0; exact .inl rfl
  · obtain ⟨g, off, e, hh⟩ := h2.resolve_left (fun e => by have := congrArg List.length e; rw [recs_len] at this; simp at this; omega)
    refine .inr ⟨g, off, e, fun i hi => ?_⟩
    rw [recs_len] at hi
    have := hh i (by rw [recs_len]; omega)
    have e1 : nthR (recs B N) i = nthR (recs B m) i := by simp [nthR, recs, hi, show i < N by omega]
    rwa [e1] at this
def bbF (xs : List Rec) (i : Nat) : List Nat := (List.range i).flatMap fun j => bB (nthR xs j)
theorem bbF_succ (xs : List Rec) (i : Nat) : bbF xs (i + 1) = bbF xs i ++ bB (nthR xs i) := by simp [bbF, List.range_succ]
theorem bB_len (r : Rec) : (bB r).length ≤ 37 := by unfold bB; split <;> simp [sealed_len]
theorem bbF_len (xs : List Rec) : ∀ i, (bbF xs i).length ≤ 37 * i
  | 0 => by simp [bbF]
  | i + 1 => by rw [bbF_succ, List.length_append]; have := bbF_len xs i; have := bB_len (nthR xs i); omega
set_option maxHeartbeats 800000 in
set_option maxRecDepth 100000 in
theorem law_RecordAll (ao : Option Addr) (len cap : Nat) (xs : List Rec) {w : World} (hx : ArgV w ao len cap xs) (_hb : len ≤ 9223372036854775807) (aj : Option Addr) (lj cj : Nat) (js : List Nat) (hj : ArgB w aj lj js) (hlj : lj ≤ 1048576 ∧ lj ≤ cj ∧ (aj = none → cj = 0)) (tn : Int) (htn : I64 tn) (nn : Int) (hnn : I64 nn) (hG : Glob w) (_h0 : 0 < w.heap.size) :
    Calls Tryd.prog 4 #[.slice ao len cap, .slice aj lj cj, num tn, num nn] w fun e w' => e = .returned (.bool true) ∧ w.grownBy w' none := by
  obtain ⟨rfl, hj⟩ := hj
  obtain ⟨rfl, hv, _⟩ := hx
  obtain ⟨hj1, hj2, hj3⟩ := hlj
  have HAw := hide (awake_ok hG)
  have HGl := hide hG
  have HJ := hide hj
  have HV := hide hv
  have ht1 := htn.1
  have ht2 := htn.2
  have hn1 := hnn.1
  have hn2 := hnn.2
  clear hG hj hv htn hnn
  go_enter Tryd.func4, Tryd.ntmps4
  go_wp2_with fail
  refine HAw.out.mono ?_
  rintro e w1 ⟨rfl, hg1⟩
  have HG1 := hide hg1
  clear hg1 HAw
  go_wp2_with fail
  go_loopw [10, 11] (fun vb iv wr => ∃ i : Nat, i ≤ xs.length ∧ i ≤ 30 ∧ iv = num i ∧ OwnF w1 wr vb (bbF xs i)) (fun _ iv _ => 30 - (intOf iv).toNat)
  case atStart => exact ⟨0, Nat.zero_le _, Nat.zero_le _, rfl, OwnF.nil (grownBy_refl _ _)⟩
  case round =>
    obtain ⟨i, hi1, hi30, rfl, hI⟩ := hrel
    by_cases hin : i < xs.length
    · have q1 : (i : Int) < (xs.length : Int) := by omega
      by_cases hi3 : i < 30
      · have q2 : (i : Int) < 30 := by omega
        obtain ⟨ao', cap', e', _, hat0⟩ := HV.out
        injection e' with e1 e2 e3
        subst e1
        subst e3
        obtain ⟨gl, ol, rfl, hat⟩ := hat0.resolve_left (fun e => by rw [e] at hin; simp at hin)
        have hgr := grownBy_trans HG1.out hI.gr
        obtain ⟨x0, x1, x2, x3, x4⟩ := (hat i hin).more hgr
        have hbs := bbF_succ xs i
        have hln := bbF_len xs i
        have hbl := bB_len (nthR xs i)
        obtain ⟨X, hX⟩ : ∃ X, X = nthR xs i := ⟨_, rfl⟩
        rw [← hX] at x0 x1 x2 x3 x4 hbs hbl
        have HK := hide (kBytes_any (w := wr) X)
        have HI := hide hI
        have HBs := hide hbs
        have hl1 : (bbF xs i).length + (bB X).length ≤ 140737488355328 := by omega
        clear hX hI hgr hat hat0 hbs hln hbl e2 ht1 ht2 hn1 hn2
        go_wp2_with fail
        refine HK.out.mono ?_
        rintro e w3 ⟨ka, kc, rfl, hkr, hkn, hg3⟩
        have HB3 := hide (HI.out.more hg3)
        have HKr := hide hkr
        clear hkr hg3 HI HK x0 x1 x2 x3 x4
        go_wp2_with (at_builtin; refine wpList_append_more rfl (.tmp 37) (.tmp 38) rfl _ (bbF xs i) rfl HB3.out.own HB3.out.gr.size ka (bB X) kc rfl HKr.out hl1 hkn ?_; intro v4 w4 hown4 hg4; have HB4 : Hid (OwnF w1 w4 v4 (bbF xs (i + 1))) := (by rw [Hid, HBs.out]; exact OwnF.mk (own_step HB3.out.gr HB3.out.own hg4) hown4 (nth_app_le HB3.out.le HKr.out.1)); clear hown4 hg4)
        go_roundw
        case rel => exact ⟨i + 1, by omega, by omega, by go_num, HB4.out⟩
        case measure => simp [intOf]; omega
      · have q2 : ¬ (i : Int) < 30 := by omega
        have hln := bbF_len xs i
        have hl2 : (bbF xs i).length + js.length ≤ 140737488355328 := by omega
        have HB5 := hide hI
        obtain ⟨B0, hB0⟩ : ∃ B0, B0 = bbF xs i ++ js := ⟨_, rfl⟩
        have hBl0 : B0.length ≤ 2000000 := by rw [hB0, List.length_append]; omega
        have hle0 : ∀ j, nth B0 j ≤ 255 := by rw [hB0]; exact nth_app_le hI.le HJ.out.1
        have HB0 := hide hB0
        clear hI hB0
        by_cases hpos : 0 < tn
        · by_cases hlen : 0 < B0.length
          · have hlenI : (0 : Int) < (B0.length : Int) := by omega
            have h8 : 0 < 8 * B0.length := by omega
            obtain ⟨tq, rfl⟩ := Int.eq_ofNat_of_zero_le (show 0 ≤ tn by omega)
            have hT1 : (tq : Int).tmod (8 * (B0.length : Int)) = ((tq % (8 * B0.length) : Nat) : Int) := by rw [show (8 * (B0.length : Int)) = ((8 * B0.length : Nat) : Int) by simp]; exact (Int.ofNat_tmod tq (8 * B0.length)).symm
            have hT2 : (tq : Int) % (8 * (B0.length : Int)) = ((tq % (8 * B0.length) : Nat) : Int) := by simp
            have hTl : tq % (8 * B0.length) < 8 * B0.length := Nat.mod_lt _ h8
            have hpI : (0 : Int) < (tq : Int) := hpos
            generalize tq % (8 * B0.length) = kk at hT1 hT2 hTl
            have hJ : kk / 8 < B0.length := by omega
            have hx255 := hle0 (kk / 8)
            have hr8 : kk % 8 < 8 := Nat.mod_lt _ (by decide)
            have hp : 2 ^ (kk % 8) ≤ 255 := Nat.le_trans (Nat.pow_le_pow_right (by decide) (show kk % 8 ≤ 7 by omega)) (by decide)
            have ex : bits .xor .u8 ((nth B0 (kk / 8) : Nat) : Int) ((2 : Int) ^ (kk % 8)) = ((nth B0 (kk / 8) ^^^ 2 ^ (kk % 8) : Nat) : Int) := by simpa using xor_u8 hx255 hp
            have hy255 := xor_le hx255 hp
            have es := shl_one hr8
            have j1 : (kk : Int) / 8 = ((kk / 8 : Nat) : Int) := by omega
            have j2 : (kk : Int) % 8 = ((kk % 8 : Nat) : Int) := by omega
            have hJI : ((kk / 8 : Nat) : Int) < (B0.length : Int) := by omega
            have hJ0 : (0 : Int) ≤ ((kk / 8 : Nat) : Int) := by omega
            obtain ⟨xx, hxx⟩ : ∃ xx, xx = nth B0 (kk / 8) := ⟨_, rfl⟩
            rw [← hxx] at ex hx255 hy255
            generalize xx ^^^ 2 ^ (kk % 8) = yy at ex hy255
            generalize kk / 8 = JJ at *
            generalize kk % 8 = MM at *
            have HXX := hide hxx
            have HJ' := hide hJ
            have HY := hide hy255
            have hsl : (B0.set JJ yy).length = B0.length := by simp
            obtain ⟨B, hBd⟩ : ∃ B, B = B0.set JJ yy := ⟨_, rfl⟩
            rw [← hBd] at hsl
            have HBd := hide hBd
            have hBl : B.length ≤ 2000000 := by omega
            have HSl := hide hsl
            clear hxx hJ hy255 hBd hsl hTl h8 hle0 hx255
            go_wp2_with (first | (at_builtin; refine wpList_append_more rfl (.tmp 40) (.tmp 41) rfl _ (bbF xs i) rfl HB5.out.own HB5.out.gr.size aj js cj rfl (HJ.out.more (grownBy_trans HG1.out HB5.out.gr)) hl2 hj3 ?_; intro v6 w6 hown6 hg6; have HB6 : Hid (OwnF w1 w6 v6 B0) := (by rw [Hid, HB0.out]; exact OwnF.mk (own_step HB5.out.gr HB5.out.own hg6) hown6 (nth_app_le HB5.out.le HJ.out.1)); clear hown6 hg6; obtain ⟨g, T, hv6, hgg, hOB⟩ := own_of HB6.out.own HB6.out.le (by omega); subst hv6; have cJ := hOB.cell HJ'.out; rw [← HXX.out] at cJ; have fJ := hOB.frozen JJ; have hst := hOB.store HJ'.out HY.out; rw [← HBd.out] at hst; have hgst := grownBy_set (o := JJ) (grownBy_trans HG1.out HB6.out.gr) (show w.heap.size ≤ g by have := HG1.out.size; omega) (.int .u8 (yy : Int)); obtain ⟨W, hW⟩ : ∃ W, W = w6.setCell ⟨g, JJ, none⟩ (.int .u8 (yy : Int)) := ⟨_, rfl⟩; rw [← hW] at hst hgst; have HRd := hide hst.rdB; have HGW := hide hgst; have HW := hide hW; clear hst hgst hW hOB HB6) | (rw [← HW.out]))
            obtain ⟨ta, hta⟩ : ∃ ta : Option Addr, ta = some ⟨g, 0, none⟩ := ⟨_, rfl⟩
            obtain ⟨tc, htc⟩ : ∃ tc, tc = B0.length + T.length := ⟨_, rfl⟩
            have hcp : B.length ≤ tc := by have := HSl.out; omega
            have hnil : ta = none → tc = 0 := fun e => by rw [hta] at e; cases e
            rw [← HSl.out, ← hta, HSl.out, ← htc]
            rw [← HSl.out]
            rw [← hta] at HRd
            clear htc hta
            by_cases hnn : nn < 0
            · skip
              obtain ⟨q, rfl⟩ : ∃ q : Nat, nn = -((q : Int) + 1) := ⟨(-(nn + 1)).toNat, by omega⟩
              have hqq : (q : Int) ≤ 9223372036854775807 := by omega
              clear hn1 hn2
              obtain ⟨N, hN1, hN2, hN3⟩ := ex_N B
              have hN9 : N ≤ 1000000 := by omega
              have HN1 := hide hN1
              have HN2 := hide hN2
              have HKA := hide (kAll_ok (w := W) ta tc B hN1 hN2 (by omega) HRd.out hcp hnil (by omega))
              have hA : (q : Int).tmod ((N : Int) + 1) = ((q % (N + 1) : Nat) : Int) := by rw [show ((N : Int) + 1) = ((N + 1 : Nat) : Int) by simp]; exact (Int.ofNat_tmod q (N + 1)).symm
              have hAl : q % (N + 1) < N + 1 := Nat.mod_lt _ (by omega)
              generalize q % (N + 1) = m at hA hAl
              have hA : -((-((q : Int) + 1) + 1).tmod ((N : Int) + 1)) = (m : Int) := by rw [show -((q : Int) + 1) + 1 = -(q : Int) by omega, Int.neg_tmod, Int.neg_neg]; exact hA
              have hk1 : kmost N (-1) = N := by unfold kmost; rw [if_neg (by omega)]
              have hk2 : kmost N (m : Int) = m := by unfold kmost; rw [if_pos (by omega)]; omega
              clear hN1 hN2 hN3
              go_wp2_with fail
              refine HKA.out.mono ?_
              rintro e w2 ⟨v2, rfl, hg2, ho2⟩
              obtain ⟨a2, c2, rfl⟩ := own_shape ho2
              have HT := hide (taken_ok (Glob.more HGl.out (grownBy_trans HGW.out hg2)) ta tc B HN1.out HN2.out (by omega) (HRd.out.more hg2) hcp hnil (by omega) (-1))
              have HO2 := hide ho2
              have HG2 := hide hg2
              clear ho2 hg2 HKA
              go_wp2_with fail
              refine HT.out.mono ?_
              rintro e w3 ⟨v3, rfl, hg3, ho3⟩
              rw [hk1] at ho3
              have HS := hide (same_eq (rdV_own ho3) (rdV_own (own_more HO2.out hg3)) (by rw [recs_len]; omega))
              have HG3 := hide (grownBy_trans HG2.out hg3)
              have HO3 := hide (own_more HO2.out hg3)
              clear ho3 hg3 HT HO2 HG2
              go_wp2_with fail
              refine HS.out.mono ?_
              rintro e w4 ⟨rfl, hg4⟩
              have HG4 := hide (grownBy_drew (grownBy_trans HG3.out hg4))
              have HO4 := hide (own_more (own_more HO3.out hg4) (grownBy_drew (grownBy_refl w4 none)))
              obtain ⟨_, hc2⟩ := rdV_take HO3.out (Nat.le_refl N)
              have c5 : (m : Int) ≤ (c2 : Int) := by omega
              have c6 : (0 : Int) ≤ (m : Int) := by omega
              have HT2 := hide (taken_ok (w := w4.drew) (Glob.more HGl.out (grownBy_trans HGW.out HG4.out)) ta tc B HN1.out HN2.out (by omega) (HRd.out.more HG4.out) hcp hnil (by omega) (m : Int))
              clear hg4 HS HG3 HO3 hc2
              go_wp2_with fail
              go_region_held3 (fun _ => True) (first | trivial) (first | (go_at_call 15; refine HT2.out.mono ?_; rintro e w5 ⟨v5, rfl, hg5, ho5⟩; rw [hk2] at ho5; have HS5 := hide (same_eq (rdV_own ho5) (rdV_take (own_more HO4.out hg5) (by omega)).1 (by rw [recs_len]; omega)); have HG5 := hide (grownBy_trans HG4.out hg5); clear ho5 hg5) | (go_at_call 14; refine HS5.out.mono ?_; rintro e w6 ⟨rfl, hg6⟩; have HG6 := hide (grownBy_trans HGW.out (grownBy_trans HG5.out hg6)); clear hg6))
              go_wp2
              go_ret
              exact ⟨rfl, HG6.out⟩
            · skip
              obtain ⟨q, rfl⟩ := Int.eq_ofNat_of_zero_le (show 0 ≤ nn by omega)
              have hqq : (q : Int) ≤ 9223372036854775807 := by omega
              clear hn1 hn2
              obtain ⟨N, hN1, hN2, hN3⟩ := ex_N B
              have hN9 : N ≤ 1000000 := by omega
              have HN1 := hide hN1
              have HN2 := hide hN2
              have HKA := hide (kAll_ok (w := W) ta tc B hN1 hN2 (by omega) HRd.out hcp hnil (by omega))
              have hA : (q : Int).tmod ((N : Int) + 1) = ((q % (N + 1) : Nat) : Int) := by rw [show ((N : Int) + 1) = ((N + 1 : Nat) : Int) by simp]; exact (Int.ofNat_tmod q (N + 1)).symm
              have hAl : q % (N + 1) < N + 1 := Nat.mod_lt _ (by omega)
              generalize q % (N + 1) = m at hA hAl
              have hk1 : kmost N (-1) = N := by unfold kmost; rw [if_neg (by omega)]
              have hk2 : kmost N (m : Int) = m := by unfold kmost; rw [if_pos (by omega)]; omega
              clear hN1 hN2 hN3
              go_wp2_with fail
              refine HKA.out.mono ?_
              rintro e w2 ⟨v2, rfl, hg2, ho2⟩
              obtain ⟨a2, c2, rfl⟩ := own_shape ho2
              have HT := hide (taken_ok (Glob.more HGl.out (grownBy_trans HGW.out hg2)) ta tc B HN1.out HN2.out (by omega) (HRd.out.more hg2) hcp hnil (by omega) (-1))
              have HO2 := hide ho2
              have HG2 := hide hg2
              clear ho2 hg2 HKA
              go_wp2_with fail
              refine HT.out.mono ?_
              rintro e w3 ⟨v3, rfl, hg3, ho3⟩
              rw [hk1] at ho3
              have HS := hide (same_eq (rdV_own ho3) (rdV_own (own_more HO2.out hg3)) (by rw [recs_len]; omega))
              have HG3 := hide (grownBy_trans HG2.out hg3)
              have HO3 := hide (own_more HO2.out hg3)
              clear ho3 hg3 HT HO2 HG2
              go_wp2_with fail
              refine HS.out.mono ?_
              rintro e w4 ⟨rfl, hg4⟩
              have HG4 := hide (grownBy_drew (grownBy_trans HG3.out hg4))
              have HO4 := hide (own_more (own_more HO3.out hg4) (grownBy_drew (grownBy_refl w4 none)))
              obtain ⟨_, hc2⟩ := rdV_take HO3.out (Nat.le_refl N)
              have c5 : (m : Int) ≤ (c2 : Int) := by omega
              have c6 : (0 : Int) ≤ (m : Int) := by omega
              have HT2 := hide (taken_ok (w := w4.drew) (Glob.more HGl.out (grownBy_trans HGW.out HG4.out)) ta tc B HN1.out HN2.out (by omega) (HRd.out.more HG4.out) hcp hnil (by omega) (m : Int))
              clear hg4 HS HG3 HO3 hc2
              go_wp2_with fail
              go_region_held3 (fun _ => True) (first | trivial) (first | (go_at_call 15; refine HT2.out.mono ?_; rintro e w5 ⟨v5, rfl, hg5, ho5⟩; rw [hk2] at ho5; have HS5 := hide (same_eq (rdV_own ho5) (rdV_take (own_more HO4.out hg5) (by omega)).1 (by rw [recs_len]; omega)); have HG5 := hide (grownBy_trans HG4.out hg5); clear ho5 hg5) | (go_at_call 14; refine HS5.out.mono ?_; rintro e w6 ⟨rfl, hg6⟩; have HG6 := hide (grownBy_trans HGW.out (grownBy_trans HG5.out hg6)); clear hg6))
              go_wp2
              go_ret
              exact ⟨rfl, HG6.out⟩
          · have hlenI : ¬ (0 : Int) < (B0.length : Int) := by omega
            go_wp2_with (first | (at_builtin; refine wpList_append_more rfl (.tmp 40) (.tmp 41) rfl _ (bbF xs i) rfl HB5.out.own HB5.out.gr.size aj js cj rfl (HJ.out.more (grownBy_trans HG1.out HB5.out.gr)) hl2 hj3 ?_; intro v6 w6 hown6 hg6; have HB6 : Hid (OwnF w1 w6 v6 B0) := (by rw [Hid, HB0.out]; exact OwnF.mk (own_step HB5.out.gr HB5.out.own hg6) hown6 (nth_app_le HB5.out.le HJ.out.1)); clear hown6 hg6; obtain ⟨ta, tc, rfl, hrd, hcp, hnil⟩ := HB6.out.rd; have HRd := hide hrd; have HGW := hide (grownBy_trans HG1.out HB6.out.gr); clear hrd HB6))
            by_cases hnn : nn < 0
            · skip
              obtain ⟨q, rfl⟩ : ∃ q : Nat, nn = -((q : Int) + 1) := ⟨(-(nn + 1)).toNat, by omega⟩
              have hqq : (q : Int) ≤ 9223372036854775807 := by omega
              clear hn1 hn2
              obtain ⟨N, hN1, hN2, hN3⟩ := ex_N B0
              have hN9 : N ≤ 1000000 := by omega
              have HN1 := hide hN1
              have HN2 := hide hN2
              have HKA := hide (kAll_ok (w := w6) ta tc B0 hN1 hN2 (by omega) HRd.out hcp hnil (by omega))
              have hA : (q : Int).tmod ((N : Int) + 1) = ((q % (N + 1) : Nat) : Int) := by rw [show ((N : Int) + 1) = ((N + 1 : Nat) : Int) by simp]; exact (Int.ofNat_tmod q (N + 1)).symm
              have hAl : q % (N + 1) < N + 1 := Nat.mod_lt _ (by omega)
              generalize q % (N + 1) = m at hA hAl
              have hA : -((-((q : Int) + 1) + 1).tmod ((N : Int) + 1)) = (m : Int) := by rw [show -((q : Int) + 1) + 1 = -(q : Int) by omega, Int.neg_tmod, Int.neg_neg]; exact hA
              have hk1 : kmost N (-1) = N := by unfold kmost; rw [if_neg (by omega)]
              have hk2 : kmost N (m : Int) = m := by unfold kmost; rw [if_pos (by omega)]; omega
              clear hN1 hN2 hN3
              go_wp2_with fail
              refine HKA.out.mono ?_
              rintro e w2 ⟨v2, rfl, hg2, ho2⟩
              obtain ⟨a2, c2, rfl⟩ := own_shape ho2
              have HT := hide (taken_ok (Glob.more HGl.out (grownBy_trans HGW.out hg2)) ta tc B0 HN1.out HN2.out (by omega) (HRd.out.more hg2) hcp hnil (by omega) (-1))
              have HO2 := hide ho2
              have HG2 := hide hg2
              clear ho2 hg2 HKA
              go_wp2_with fail
              refine HT.out.mono ?_
              rintro e w3 ⟨v3, rfl, hg3, ho3⟩
              rw [hk1] at ho3
              have HS := hide (same_eq (rdV_own ho3) (rdV_own (own_more HO2.out hg3)) (by rw [recs_len]; omega))
              have HG3 := hide (grownBy_trans HG2.out hg3)
              have HO3 := hide (own_more HO2.out hg3)
              clear ho3 hg3 HT HO2 HG2
              go_wp2_with fail
              refine HS.out.mono ?_
              rintro e w4 ⟨rfl, hg4⟩
              have HG4 := hide (grownBy_drew (grownBy_trans HG3.out hg4))
              have HO4 := hide (own_more (own_more HO3.out hg4) (grownBy_drew (grownBy_refl w4 none)))
              obtain ⟨_, hc2⟩ := rdV_take HO3.out (Nat.le_refl N)
              have c5 : (m : Int) ≤ (c2 : Int) := by omega
              have c6 : (0 : Int) ≤ (m : Int) := by omega
              have HT2 := hide (taken_ok (w := w4.drew) (Glob.more HGl.out (grownBy_trans HGW.out HG4.out)) ta tc B0 HN1.out HN2.out (by omega) (HRd.out.more HG4.out) hcp hnil (by omega) (m : Int))
              clear hg4 HS HG3 HO3 hc2
              go_wp2_with fail
              go_region_held3 (fun _ => True) (first | trivial) (first | (go_at_call 15; refine HT2.out.mono ?_; rintro e w5 ⟨v5, rfl, hg5, ho5⟩; rw [hk2] at ho5; have HS5 := hide (same_eq (rdV_own ho5) (rdV_take (own_more HO4.out hg5) (by omega)).1 (by rw [recs_len]; omega)); have HG5 := hide (grownBy_trans HG4.out hg5); clear ho5 hg5) | (go_at_call 14; refine HS5.out.mono ?_; rintro e w6 ⟨rfl, hg6⟩; have HG6 := hide (grownBy_trans HGW.out (grownBy_trans HG5.out hg6)); clear hg6))
              go_wp2
              go_ret
              exact ⟨rfl, HG6.out⟩
            · skip
              obtain ⟨q, rfl⟩ := Int.eq_ofNat_of_zero_le (show 0 ≤ nn by omega)
              have hqq : (q : Int) ≤ 9223372036854775807 := by omega
              clear hn1 hn2
              obtain ⟨N, hN1, hN2, hN3⟩ := ex_N B0
              have hN9 : N ≤ 1000000 := by omega
              have HN1 := hide hN1
              have HN2 := hide hN2
              have HKA := hide (kAll_ok (w := w6) ta tc B0 hN1 hN2 (by omega) HRd.out hcp hnil (by omega))
              have hA : (q : Int).tmod ((N : Int) + 1) = ((q % (N + 1) : Nat) : Int) := by rw [show ((N : Int) + 1) = ((N + 1 : Nat) : Int) by simp]; exact (Int.ofNat_tmod q (N + 1)).symm
              have hAl : q % (N + 1) < N + 1 := Nat.mod_lt _ (by omega)
              generalize q % (N + 1) = m at hA hAl
              have hk1 : kmost N (-1) = N := by unfold kmost; rw [if_neg (by omega)]
              have hk2 : kmost N (m : Int) = m := by unfold kmost; rw [if_pos (by omega)]; omega
              clear hN1 hN2 hN3
              go_wp2_with fail
              refine HKA.out.mono ?_
              rintro e w2 ⟨v2, rfl, hg2, ho2⟩
              obtain ⟨a2, c2, rfl⟩ := own_shape ho2
              have HT := hide (taken_ok (Glob.more HGl.out (grownBy_trans HGW.out hg2)) ta tc B0 HN1.out HN2.out (by omega) (HRd.out.more hg2) hcp hnil (by omega) (-1))
              have HO2 := hide ho2
              have HG2 := hide hg2
              clear ho2 hg2 HKA
              go_wp2_with fail
              refine HT.out.mono ?_
              rintro e w3 ⟨v3, rfl, hg3, ho3⟩
              rw [hk1] at ho3
              have HS := hide (same_eq (rdV_own ho3) (rdV_own (own_more HO2.out hg3)) (by rw [recs_len]; omega))
              have HG3 := hide (grownBy_trans HG2.out hg3)
              have HO3 := hide (own_more HO2.out hg3)
              clear ho3 hg3 HT HO2 HG2
              go_wp2_with fail
              refine HS.out.mono ?_
              rintro e w4 ⟨rfl, hg4⟩
              have HG4 := hide (grownBy_drew (grownBy_trans HG3.out hg4))
              have HO4 := hide (own_more (own_more HO3.out hg4) (grownBy_drew (grownBy_refl w4 none)))
              obtain ⟨_, hc2⟩ := rdV_take HO3.out (Nat.le_refl N)
              have c5 : (m : Int) ≤ (c2 : Int) := by omega
              have c6 : (0 : Int) ≤ (m : Int) := by omega
              have HT2 := hide (taken_ok (w := w4.drew) (Glob.more HGl.out (grownBy_trans HGW.out HG4.out)) ta tc B0 HN1.out HN2.out (by omega) (HRd.out.more HG4.out) hcp hnil (by omega) (m : Int))
              clear hg4 HS HG3 HO3 hc2
              go_wp2_with fail
              go_region_held3 (fun _ => True) (first | trivial) (first | (go_at_call 15; refine HT2.out.mono ?_; rintro e w5 ⟨v5, rfl, hg5, ho5⟩; rw [hk2] at ho5; have HS5 := hide (same_eq (rdV_own ho5) (rdV_take (own_more HO4.out hg5) (by omega)).1 (by rw [recs_len]; omega)); have HG5 := hide (grownBy_trans HG4.out hg5); clear ho5 hg5) | (go_at_call 14; refine HS5.out.mono ?_; rintro e w6 ⟨rfl, hg6⟩; have HG6 := hide (grownBy_trans HGW.out (grownBy_trans HG5.out hg6)); clear hg6))
              go_wp2
              go_ret
              exact ⟨rfl, HG6.out⟩
        · skip
          go_wp2_with (first | (at_builtin; refine wpList_append_more rfl (.tmp 40) (.tmp 41) rfl _ (bbF xs i) rfl HB5.out.own HB5.out.gr.size aj js cj rfl (HJ.out.more (grownBy_trans HG1.out HB5.out.gr)) hl2 hj3 ?_; intro v6 w6 hown6 hg6; have HB6 : Hid (OwnF w1 w6 v6 B0) := (by rw [Hid, HB0.out]; exact OwnF.mk (own_step HB5.out.gr HB5.out.own hg6) hown6 (nth_app_le HB5.out.le HJ.out.1)); clear hown6 hg6; obtain ⟨ta, tc, rfl, hrd, hcp, hnil⟩ := HB6.out.rd; have HRd := hide hrd; have HGW := hide (grownBy_trans HG1.out HB6.out.gr); clear hrd HB6))
          by_cases hnn : nn < 0
          · skip
            obtain ⟨q, rfl⟩ : ∃ q : Nat, nn = -((q : Int) + 1) := ⟨(-(nn + 1)).toNat, by omega⟩
            have hqq : (q : Int) ≤ 9223372036854775807 := by omega
            clear hn1 hn2
            obtain ⟨N, hN1, hN2, hN3⟩ := ex_N B0
            have hN9 : N ≤ 1000000 := by omega
            have HN1 := hide hN1
            have HN2 := hide hN2
            have HKA := hide (kAll_ok (w := w6) ta tc B0 hN1 hN2 (by omega) HRd.out hcp hnil (by omega))
            have hA : (q : Int).tmod ((N : Int) + 1) = ((q % (N + 1) : Nat) : Int) := by rw [show ((N : Int) + 1) = ((N + 1 : Nat) : Int) by simp]; exact (Int.ofNat_tmod q (N + 1)).symm
            have hAl : q % (N + 1) < N + 1 := Nat.mod_lt _ (by omega)
            generalize q % (N + 1) = m at hA hAl
            have hA : -((-((q : Int) + 1) + 1).tmod ((N : Int) + 1)) = (m : Int) := by rw [show -((q : Int) + 1) + 1 = -(q : Int) by omega, Int.neg_tmod, Int.neg_neg]; exact hA
            have hk1 : kmost N (-1) = N := by unfold kmost; rw [if_neg (by omega)]
            have hk2 : kmost N (m : Int) = m := by unfold kmost; rw [if_pos (by omega)]; omega
            clear hN1 hN2 hN3
            go_wp2_with fail
            refine HKA.out.mono ?_
            rintro e w2 ⟨v2, rfl, hg2, ho2⟩
            obtain ⟨a2, c2, rfl⟩ := own_shape ho2
            have HT := hide (taken_ok (Glob.more HGl.out (grownBy_trans HGW.out hg2)) ta tc B0 HN1.out HN2.out (by omega) (HRd.out.more hg2) hcp hnil (by omega) (-1))
            have HO2 := hide ho2
            have HG2 := hide hg2
            clear ho2 hg2 HKA
            go_wp2_with fail
            refine HT.out.mono ?_
            rintro e w3 ⟨v3, rfl, hg3, ho3⟩
            rw [hk1] at ho3
            have HS := hide (same_eq (rdV_own ho3) (rdV_own (own_more HO2.out hg3)) (by rw [recs_len]; omega))
            have HG3 := hide (grownBy_trans HG2.out hg3)
            have HO3 := hide (own_more HO2.out hg3)
            clear ho3 hg3 HT HO2 HG2
            go_wp2_with fail
            refine HS.out.mono ?_
            rintro e w4 ⟨rfl, hg4⟩
            have HG4 := hide (grownBy_drew (grownBy_trans HG3.out hg4))
            have HO4 := hide (own_more (own_more HO3.out hg4) (grownBy_drew (grownBy_refl w4 none)))
            obtain ⟨_, hc2⟩ := rdV_take HO3.out (Nat.le_refl N)
            have c5 : (m : Int) ≤ (c2 : Int) := by omega
            have c6 : (0 : Int) ≤ (m : Int) := by omega
            have HT2 := hide (taken_ok (w := w4.drew) (Glob.more HGl.out (grownBy_trans HGW.out HG4.out)) ta tc B0 HN1.out HN2.out (by omega) (HRd.out.more HG4.out) hcp hnil (by omega) (m : Int))
            clear hg4 HS HG3 HO3 hc2
            go_wp2_with fail
            go_region_held3 (fun _ => True) (first | trivial) (first | (go_at_call 15; refine HT2.out.mono ?_; rintro e w5 ⟨v5, rfl, hg5, ho5⟩; rw [hk2] at ho5; have HS5 := hide (same_eq (rdV_own ho5) (rdV_take (own_more HO4.out hg5) (by omega)).1 (by rw [recs_len]; omega)); have HG5 := hide (grownBy_trans HG4.out hg5); clear ho5 hg5) | (go_at_call 14; refine HS5.out.mono ?_; rintro e w6 ⟨rfl, hg6⟩; have HG6 := hide (grownBy_trans HGW.out (grownBy_trans HG5.out hg6)); clear hg6))
            go_wp2
            go_ret
            exact ⟨rfl, HG6.out⟩
          · skip
            obtain ⟨q, rfl⟩ := Int.eq_ofNat_of_zero_le (show 0 ≤ nn by omega)
            have hqq : (q : Int) ≤ 9223372036854775807 := by omega
            clear hn1 hn2
            obtain ⟨N, hN1, hN2, hN3⟩ := ex_N B0
            have hN9 : N ≤ 1000000 := by omega
            have HN1 := hide hN1
            have HN2 := hide hN2
            have HKA := hide (kAll_ok (w := w6) ta tc B0 hN1 hN2 (by omega) HRd.out hcp hnil (by omega))
            have hA : (q : Int).tmod ((N : Int) + 1) = ((q % (N + 1) : Nat) : Int) := by rw [show ((N : Int) + 1) = ((N + 1 : Nat) : Int) by simp]; exact (Int.ofNat_tmod q (N + 1)).symm
            have hAl : q % (N + 1) < N + 1 := Nat.mod_lt _ (by omega)
            generalize q % (N + 1) = m at hA hAl
            have hk1 : kmost N (-1) = N := by unfold kmost; rw [if_neg (by omega)]
            have hk2 : kmost N (m : Int) = m := by unfold kmost; rw [if_pos (by omega)]; omega
            clear hN1 hN2 hN3
            go_wp2_with fail
            refine HKA.out.mono ?_
            rintro e w2 ⟨v2, rfl, hg2, ho2⟩
            obtain ⟨a2, c2, rfl⟩ := own_shape ho2
            have HT := hide (taken_ok (Glob.more HGl.out (grownBy_trans HGW.out hg2)) ta tc B0 HN1.out HN2.out (by omega) (HRd.out.more hg2) hcp hnil (by omega) (-1))
            have HO2 := hide ho2
            have HG2 := hide hg2
            clear ho2 hg2 HKA
            go_wp2_with fail
            refine HT.out.mono ?_
            rintro e w3 ⟨v3, rfl, hg3, ho3⟩
            rw [hk1] at ho3
            have HS := hide (same_eq (rdV_own ho3) (rdV_own (own_more HO2.out hg3)) (by rw [recs_len]; omega))
            have HG3 := hide (grownBy_trans HG2.out hg3)
            have HO3 := hide (own_more HO2.out hg3)
            clear ho3 hg3 HT HO2 HG2
            go_wp2_with fail
            refine HS.out.mono ?_
            rintro e w4 ⟨rfl, hg4⟩
            have HG4 := hide (grownBy_drew (grownBy_trans HG3.out hg4))
            have HO4 := hide (own_more (own_more HO3.out hg4) (grownBy_drew (grownBy_refl w4 none)))
            obtain ⟨_, hc2⟩ := rdV_take HO3.out (Nat.le_refl N)
            have c5 : (m : Int) ≤ (c2 : Int) := by omega
            have c6 : (0 : Int) ≤ (m : Int) := by omega
            have HT2 := hide (taken_ok (w := w4.drew) (Glob.more HGl.out (grownBy_trans HGW.out HG4.out)) ta tc B0 HN1.out HN2.out (by omega) (HRd.out.more HG4.out) hcp hnil (by omega) (m : Int))
            clear hg4 HS HG3 HO3 hc2
            go_wp2_with fail
            go_region_held3 (fun _ => True) (first | trivial) (first | (go_at_call 15; refine HT2.out.mono ?_; rintro e w5 ⟨v5, rfl, hg5, ho5⟩; rw [hk2] at ho5; have HS5 := hide (same_eq (rdV_own ho5) (rdV_take (own_more HO4.out hg5) (by omega)).1 (by rw [recs_len]; omega)); have HG5 := hide (grownBy_trans HG4.out hg5); clear ho5 hg5) | (go_at_call 14; refine HS5.out.mono ?_; rintro e w6 ⟨rfl, hg6⟩; have HG6 := hide (grownBy_trans HGW.out (grownBy_trans HG5.out hg6)); clear hg6))
            go_wp2
            go_ret
            exact ⟨rfl, HG6.out⟩
    · have q1 : ¬ (i : Int) < (xs.length : Int) := by omega
      have hln := bbF_len xs i
      have hl2 : (bbF xs i).length + js.length ≤ 140737488355328 := by omega
      have HB5 := hide hI
      obtain ⟨B0, hB0⟩ : ∃ B0, B0 = bbF xs i ++ js := ⟨_, rfl⟩
      have hBl0 : B0.length ≤ 2000000 := by rw [hB0, List.length_append]; omega
      have hle0 : ∀ j, nth B0 j ≤ 255 := by rw [hB0]; exact nth_app_le hI.le HJ.out.1
      have HB0 := hide hB0
      clear hI hB0
      by_cases hpos : 0 < tn
      · by_cases hlen : 0 < B0.length
        · have hlenI : (0 : Int) < (B0.length : Int) := by omega
          have h8 : 0 < 8 * B0.length := by omega
          obtain ⟨tq, rfl⟩ := Int.eq_ofNat_of_zero_le (show 0 ≤ tn by omega)
          have hT1 : (tq : Int).tmod (8 * (B0.length : Int)) = ((tq % (8 * B0.length) : Nat) : Int) := by rw [show (8 * (B0.length : Int)) = ((8 * B0.length : Nat) : Int) by simp]; exact (Int.ofNat_tmod tq (8 * B0.length)).symm
          have hT2 : (tq : Int) % (8 * (B0.length : Int)) = ((tq % (8 * B0.length) : Nat) : Int) := by simp
          have hTl : tq % (8 * B0.length) < 8 * B0.length := Nat.mod_lt _ h8
          have hpI : (0 : Int) < (tq : Int) := hpos
          generalize tq % (8 * B0.length) = kk at hT1 hT2 hTl
          have hJ : kk / 8 < B0.length := by omega
          have hx255 := hle0 (kk / 8)
          have hr8 : kk % 8 < 8 := Nat.mod_lt _ (by decide)
          have hp : 2 ^ (kk % 8) ≤ 255 := Nat.le_trans (Nat.pow_le_pow_right (by decide) (show kk % 8 ≤ 7 by omega)) (by decide)
          have ex : bits .xor .u8 ((nth B0 (kk / 8) : Nat) : Int) ((2 : Int) ^ (kk % 8)) = ((nth B0 (kk / 8) ^^^ 2 ^ (kk % 8) : Nat) : Int) := by simpa using xor_u8 hx255 hp
          have hy255 := xor_le hx255 hp
          have es := shl_one hr8
          have j1 : (kk : Int) / 8 = ((kk / 8 : Nat) : Int) := by omega
          have j2 : (kk : Int) % 8 = ((kk % 8 : Nat) : Int) := by omega
          have hJI : ((kk / 8 : Nat) : Int) < (B0.length : Int) := by omega
          have hJ0 : (0 : Int) ≤ ((kk / 8 : Nat) : Int) := by omega
          obtain ⟨xx, hxx⟩ : ∃ xx, xx = nth B0 (kk / 8) := ⟨_, rfl⟩
          rw [← hxx] at ex hx255 hy255
          generalize xx ^^^ 2 ^ (kk % 8) = yy at ex hy255
          generalize kk / 8 = JJ at *
          generalize kk % 8 = MM at *
          have HXX := hide hxx
          have HJ' := hide hJ
          have HY := hide hy255
          have hsl : (B0.set JJ yy).length = B0.length := by simp
          obtain ⟨B, hBd⟩ : ∃ B, B = B0.set JJ yy := ⟨_, rfl⟩
          rw [← hBd] at hsl
          have HBd := hide hBd
          have hBl : B.length ≤ 2000000 := by omega
          have HSl := hide hsl
          clear hxx hJ hy255 hBd hsl hTl h8 hle0 hx255
          go_wp2_with (first | (at_builtin; refine wpList_append_more rfl (.tmp 40) (.tmp 41) rfl _ (bbF xs i) rfl HB5.out.own HB5.out.gr.size aj js cj rfl (HJ.out.more (grownBy_trans HG1.out HB5.out.gr)) hl2 hj3 ?_; intro v6 w6 hown6 hg6; have HB6 : Hid (OwnF w1 w6 v6 B0) := (by rw [Hid, HB0.out]; exact OwnF.mk (own_step HB5.out.gr HB5.out.own hg6) hown6 (nth_app_le HB5.out.le HJ.out.1)); clear hown6 hg6; obtain ⟨g, T, hv6, hgg, hOB⟩ := own_of HB6.out.own HB6.out.le (by omega); subst hv6; have cJ := hOB.cell HJ'.out; rw [← HXX.out] at cJ; have fJ := hOB.frozen JJ; have hst := hOB.store HJ'.out HY.out; rw [← HBd.out] at hst; have hgst := grownBy_set (o := JJ) (grownBy_trans HG1.out HB6.out.gr) (show w.heap.size ≤ g by have := HG1.out.size; omega) (.int .u8 (yy : Int)); obtain ⟨W, hW⟩ : ∃ W, W = w6.setCell ⟨g, JJ, none⟩ (.int .u8 (yy : Int)) := ⟨_, rfl⟩; rw [← hW] at hst hgst; have HRd := hide hst.rdB; have HGW := hide hgst; have HW := hide hW; clear hst hgst hW hOB HB6) | (rw [← HW.out]))
          obtain ⟨ta, hta⟩ : ∃ ta : Option Addr, ta = some ⟨g, 0, none⟩ := ⟨_, rfl⟩
          obtain ⟨tc, htc⟩ : ∃ tc, tc = B0.length + T.length := ⟨_, rfl⟩
          have hcp : B.length ≤ tc := by have := HSl.out; omega
          have hnil : ta = none → tc = 0 := fun e => by rw [hta] at e; cases e
          rw [← HSl.out, ← hta, HSl.out, ← htc]
          rw [← HSl.out]
          rw [← hta] at HRd
          clear htc hta
          by_cases hnn : nn < 0
          · skip
            obtain ⟨q, rfl⟩ : ∃ q : Nat, nn = -((q : Int) + 1) := ⟨(-(nn + 1)).toNat, by omega⟩
            have hqq : (q : Int) ≤ 9223372036854775807 := by omega
            clear hn1 hn2
            obtain ⟨N, hN1, hN2, hN3⟩ := ex_N B
            have hN9 : N ≤ 1000000 := by omega
            have HN1 := hide hN1
            have HN2 := hide hN2
            have HKA := hide (kAll_ok (w := W) ta tc B hN1 hN2 (by omega) HRd.out hcp hnil (by omega))
            have hA : (q : Int).tmod ((N : Int) + 1) = ((q % (N + 1) : Nat) : Int) := by rw [show ((N : Int) + 1) = ((N + 1 : Nat) : Int) by simp]; exact (Int.ofNat_tmod q (N + 1)).symm
            have hAl : q % (N + 1) < N + 1 := Nat.mod_lt _ (by omega)
            generalize q % (N + 1) = m at hA hAl
            have hA : -((-((q : Int) + 1) + 1).tmod ((N : Int) + 1)) = (m : Int) := by rw [show -((q : Int) + 1) + 1 = -(q : Int) by omega, Int.neg_tmod, Int.neg_neg]; exact hA
            have hk1 : kmost N (-1) = N := by unfold kmost; rw [if_neg (by omega)]
            have hk2 : kmost N (m : Int) = m := by unfold kmost; rw [if_pos (by omega)]; omega
            clear hN1 hN2 hN3
            go_wp2_with fail
            refine HKA.out.mono ?_
            rintro e w2 ⟨v2, rfl, hg2, ho2⟩
            obtain ⟨a2, c2, rfl⟩ := own_shape ho2
            have HT := hide (taken_ok (Glob.more HGl.out (grownBy_trans HGW.out hg2)) ta tc B HN1.out HN2.out (by omega) (HRd.out.more hg2) hcp hnil (by omega) (-1))
            have HO2 := hide ho2
            have HG2 := hide hg2
            clear ho2 hg2 HKA
            go_wp2_with fail
            refine HT.out.mono ?_
            rintro e w3 ⟨v3, rfl, hg3, ho3⟩
            rw [hk1] at ho3
            have HS := hide (same_eq (rdV_own ho3) (rdV_own (own_more HO2.out hg3)) (by rw [recs_len]; omega))
            have HG3 := hide (grownBy_trans HG2.out hg3)
            have HO3 := hide (own_more HO2.out hg3)
            clear ho3 hg3 HT HO2 HG2
            go_wp2_with fail
            refine HS.out.mono ?_
            rintro e w4 ⟨rfl, hg4⟩
            have HG4 := hide (grownBy_drew (grownBy_trans HG3.out hg4))
            have HO4 := hide (own_more (own_more HO3.out hg4) (grownBy_drew (grownBy_refl w4 none)))
            obtain ⟨_, hc2⟩ := rdV_take HO3.out (Nat.le_refl N)
            have c5 : (m : Int) ≤ (c2 : Int) := by omega
            have c6 : (0 : Int) ≤ (m : Int) := by omega
            have HT2 := hide (taken_ok (w := w4.drew) (Glob.more HGl.out (grownBy_trans HGW.out HG4.out)) ta tc B HN1.out HN2.out (by omega) (HRd.out.more HG4.out) hcp hnil (by omega) (m : Int))
            clear hg4 HS HG3 HO3 hc2
            go_wp2_with fail
            go_region_held3 (fun _ => True) (first | trivial) (first | (go_at_call 15; refine HT2.out.mono ?_; rintro e w5 ⟨v5, rfl, hg5, ho5⟩; rw [hk2] at ho5; have HS5 := hide (same_eq (rdV_own ho5) (rdV_take (own_more HO4.out hg5) (by omega)).1 (by rw [recs_len]; omega)); have HG5 := hide (grownBy_trans HG4.out hg5); clear ho5 hg5) | (go_at_call 14; refine HS5.out.mono ?_; rintro e w6 ⟨rfl, hg6⟩; have HG6 := hide (grownBy_trans HGW.out (grownBy_trans HG5.out hg6)); clear hg6))
            go_wp2
            go_ret
            exact ⟨rfl, HG6.out⟩
          · skip
            obtain ⟨q, rfl⟩ := Int.eq_ofNat_of_zero_le (show 0 ≤ nn by omega)
            have hqq : (q : Int) ≤ 9223372036854775807 := by omega
            clear hn1 hn2
            obtain ⟨N, hN1, hN2, hN3⟩ := ex_N B
            have hN9 : N ≤ 1000000 := by omega
            have HN1 := hide hN1
            have HN2 := hide hN2
            have HKA := hide (kAll_ok (w := W) ta tc B hN1 hN2 (by omega) HRd.out hcp hnil (by omega))
            have hA : (q : Int).tmod ((N : Int) + 1) = ((q % (N + 1) : Nat) : Int) := by rw [show ((N : Int) + 1) = ((N + 1 : Nat) : Int) by simp]; exact (Int.ofNat_tmod q (N + 1)).symm
            have hAl : q % (N + 1) < N + 1 := Nat.mod_lt _ (by omega)
            generalize q % (N + 1) = m at hA hAl
            have hk1 : kmost N (-1) = N := by unfold kmost; rw [if_neg (by omega)]
            have hk2 : kmost N (m : Int) = m := by unfold kmost; rw [if_pos (by omega)]; omega
            clear hN1 hN2 hN3
            go_wp2_with fail
            refine HKA.out.mono ?_
            rintro e w2 ⟨v2, rfl, hg2, ho2⟩
            obtain ⟨a2, c2, rfl⟩ := own_shape ho2
            have HT := hide (taken_ok (Glob.more HGl.out (grownBy_trans HGW.out hg2)) ta tc B HN1.out HN2.out (by omega) (HRd.out.more hg2) hcp hnil (by omega) (-1))
            have HO2 := hide ho2
            have HG2 := hide hg2
            clear ho2 hg2 HKA
            go_wp2_with fail
            refine HT.out.mono ?_
            rintro e w3 ⟨v3, rfl, hg3, ho3⟩
            rw [hk1] at ho3
            have HS := hide (same_eq (rdV_own ho3) (rdV_own (own_more HO2.out hg3)) (by rw [recs_len]; omega))
            have HG3 := hide (grownBy_trans HG2.out hg3)
            have HO3 := hide (own_more HO2.out hg3)
            clear ho3 hg3 HT HO2 HG2
            go_wp2_with fail
            refine HS.out.mono ?_
            rintro e w4 ⟨rfl, hg4⟩
            have HG4 := hide (grownBy_drew (grownBy_trans HG3.out hg4))
            have HO4 := hide (own_more (own_more HO3.out hg4) (grownBy_drew (grownBy_refl w4 none)))
            obtain ⟨_, hc2⟩ := rdV_take HO3.out (Nat.le_refl N)
            have c5 : (m : Int) ≤ (c2 : Int) := by omega
            have c6 : (0 : Int) ≤ (m : Int) := by omega
            have HT2 := hide (taken_ok (w := w4.drew) (Glob.more HGl.out (grownBy_trans HGW.out HG4.out)) ta tc B HN1.out HN2.out (by omega) (HRd.out.more HG4.out) hcp hnil (by omega) (m : Int))
            clear hg4 HS HG3 HO3 hc2
            go_wp2_with fail
            go_region_held3 (fun _ => True) (first | trivial) (first | (go_at_call 15; refine HT2.out.mono ?_; rintro e w5 ⟨v5, rfl, hg5, ho5⟩; rw [hk2] at ho5; have HS5 := hide (same_eq (rdV_own ho5) (rdV_take (own_more HO4.out hg5) (by omega)).1 (by rw [recs_len]; omega)); have HG5 := hide (grownBy_trans HG4.out hg5); clear ho5 hg5) | (go_at_call 14; refine HS5.out.mono ?_; rintro e w6 ⟨rfl, hg6⟩; have HG6 := hide (grownBy_trans HGW.out (grownBy_trans HG5.out hg6)); clear hg6))
            go_wp2
            go_ret
            exact ⟨rfl, HG6.out⟩
        · have hlenI : ¬ (0 : Int) < (B0.length : Int) := by omega
          go_wp2_with (first | (at_builtin; refine wpList_append_more rfl (.tmp 40) (.tmp 41) rfl _ (bbF xs i) rfl HB5.out.own HB5.out.gr.size aj js cj rfl (HJ.out.more (grownBy_trans HG1.out HB5.out.gr)) hl2 hj3 ?_; intro v6 w6 hown6 hg6; have HB6 : Hid (OwnF w1 w6 v6 B0) := (by rw [Hid, HB0.out]; exact OwnF.mk (own_step HB5.out.gr HB5.out.own hg6) hown6 (nth_app_le HB5.out.le HJ.out.1)); clear hown6 hg6; obtain ⟨ta, tc, rfl, hrd, hcp, hnil⟩ := HB6.out.rd; have HRd := hide hrd; have HGW := hide (grownBy_trans HG1.out HB6.out.gr); clear hrd HB6))
          by_cases hnn : nn < 0
          · skip
            obtain ⟨q, rfl⟩ : ∃ q : Nat, nn = -((q : Int) + 1) := ⟨(-(nn + 1)).toNat, by omega⟩
            have hqq : (q : Int) ≤ 9223372036854775807 := by omega
            clear hn1 hn2
            obtain ⟨N, hN1, hN2, hN3⟩ := ex_N B0
            have hN9 : N ≤ 1000000 := by omega
            have HN1 := hide hN1
            have HN2 := hide hN2
            have HKA := hide (kAll_ok (w := w6) ta tc B0 hN1 hN2 (by omega) HRd.out hcp hnil (by omega))
            have hA : (q : Int).tmod ((N : Int) + 1) = ((q % (N + 1) : Nat) : Int) := by rw [show ((N : Int) + 1) = ((N + 1 : Nat) : Int) by simp]; exact (Int.ofNat_tmod q (N + 1)).symm
            have hAl : q % (N + 1) < N + 1 := Nat.mod_lt _ (by omega)
            generalize q % (N + 1) = m at hA hAl
            have hA : -((-((q : Int) + 1) + 1).tmod ((N : Int) + 1)) = (m : Int) := by rw [show -((q : Int) + 1) + 1 = -(q : Int) by omega, Int.neg_tmod, Int.neg_neg]; exact hA
            have hk1 : kmost N (-1) = N := by unfold kmost; rw [if_neg (by omega)]
            have hk2 : kmost N (m : Int) = m := by unfold kmost; rw [if_pos (by omega)]; omega
            clear hN1 hN2 hN3
            go_wp2_with fail
            refine HKA.out.mono ?_
            rintro e w2 ⟨v2, rfl, hg2, ho2⟩
            obtain ⟨a2, c2, rfl⟩ := own_shape ho2
            have HT := hide (taken_ok (Glob.more HGl.out (grownBy_trans HGW.out hg2)) ta tc B0 HN1.out HN2.out (by omega) (HRd.out.more hg2) hcp hnil (by omega) (-1))
            have HO2 := hide ho2
            have HG2 := hide hg2
            clear ho2 hg2 HKA
            go_wp2_with fail
            refine HT.out.mono ?_
            rintro e w3 ⟨v3, rfl, hg3, ho3⟩
            rw [hk1] at ho3
            have HS := hide (same_eq (rdV_own ho3) (rdV_own (own_more HO2.out hg3)) (by rw [recs_len]; omega))
            have HG3 := hide (grownBy_trans HG2.out hg3)
            have HO3 := hide (own_more HO2.out hg3)
            clear ho3 hg3 HT HO2 HG2
            go_wp2_with fail
            refine HS.out.mono ?_
            rintro e w4 ⟨rfl, hg4⟩
            have HG4 := hide (grownBy_drew (grownBy_trans HG3.out hg4))
            have HO4 := hide (own_more (own_more HO3.out hg4) (grownBy_drew (grownBy_refl w4 none)))
            obtain ⟨_, hc2⟩ := rdV_take HO3.out (Nat.le_refl N)
            have c5 : (m : Int) ≤ (c2 : Int) := by omega
            have c6 : (0 : Int) ≤ (m : Int) := by omega
            have HT2 := hide (taken_ok (w := w4.drew) (Glob.more HGl.out (grownBy_trans HGW.out HG4.out)) ta tc B0 HN1.out HN2.out (by omega) (HRd.out.more HG4.out) hcp hnil (by omega) (m : Int))
            clear hg4 HS HG3 HO3 hc2
            go_wp2_with fail
            go_region_held3 (fun _ => True) (first | trivial) (first | (go_at_call 15; refine HT2.out.mono ?_; rintro e w5 ⟨v5, rfl, hg5, ho5⟩; rw [hk2] at ho5; have HS5 := hide (same_eq (rdV_own ho5) (rdV_take (own_more HO4.out hg5) (by omega)).1 (by rw [recs_len]; omega)); have HG5 := hide (grownBy_trans HG4.out hg5); clear ho5 hg5) | (go_at_call 14; refine HS5.out.mono ?_; rintro e w6 ⟨rfl, hg6⟩; have HG6 := hide (grownBy_trans HGW.out (grownBy_trans HG5.out hg6)); clear hg6))
            go_wp2
            go_ret
            exact ⟨rfl, HG6.out⟩
          · skip
            obtain ⟨q, rfl⟩ := Int.eq_ofNat_of_zero_le (show 0 ≤ nn by omega)
            have hqq : (q : Int) ≤ 9223372036854775807 := by omega
            clear hn1 hn2
            obtain ⟨N, hN1, hN2, hN3⟩ := ex_N B0
            have hN9 : N ≤ 1000000 := by omega
            have HN1 := hide hN1
            have HN2 := hide hN2
            have HKA := hide (kAll_ok (w := w6) ta tc B0 hN1 hN2 (by omega) HRd.out hcp hnil (by omega))
            have hA : (q : Int).tmod ((N : Int) + 1) = ((q % (N + 1) : Nat) : Int) := by rw [show ((N : Int) + 1) = ((N + 1 : Nat) : Int) by simp]; exact (Int.ofNat_tmod q (N + 1)).symm
            have hAl : q % (N + 1) < N + 1 := Nat.mod_lt _ (by omega)
            generalize q % (N + 1) = m at hA hAl
            have hk1 : kmost N (-1) = N := by unfold kmost; rw [if_neg (by omega)]
            have hk2 : kmost N (m : Int) = m := by unfold kmost; rw [if_pos (by omega)]; omega
            clear hN1 hN2 hN3
            go_wp2_with fail
            refine HKA.out.mono ?_
            rintro e w2 ⟨v2, rfl, hg2, ho2⟩
            obtain ⟨a2, c2, rfl⟩ := own_shape ho2
            have HT := hide (taken_ok (Glob.more HGl.out (grownBy_trans HGW.out hg2)) ta tc B0 HN1.out HN2.out (by omega) (HRd.out.more hg2) hcp hnil (by omega) (-1))
            have HO2 := hide ho2
            have HG2 := hide hg2
            clear ho2 hg2 HKA
            go_wp2_with fail
            refine HT.out.mono ?_
            rintro e w3 ⟨v3, rfl, hg3, ho3⟩
            rw [hk1] at ho3
            have HS := hide (same_eq (rdV_own ho3) (rdV_own (own_more HO2.out hg3)) (by rw [recs_len]; omega))
            have HG3 := hide (grownBy_trans HG2.out hg3)
            have HO3 := hide (own_more HO2.out hg3)
            clear ho3 hg3 HT HO2 HG2
            go_wp2_with fail
            refine HS.out.mono ?_
            rintro e w4 ⟨rfl, hg4⟩
            have HG4 := hide (grownBy_drew (grownBy_trans HG3.out hg4))
            have HO4 := hide (own_more (own_more HO3.out hg4) (grownBy_drew (grownBy_refl w4 none)))
            obtain ⟨_, hc2⟩ := rdV_take HO3.out (Nat.le_refl N)
            have c5 : (m : Int) ≤ (c2 : Int) := by omega
            have c6 : (0 : Int) ≤ (m : Int) := by omega
            have HT2 := hide (taken_ok (w := w4.drew) (Glob.more HGl.out (grownBy_trans HGW.out HG4.out)) ta tc B0 HN1.out HN2.out (by omega) (HRd.out.more HG4.out) hcp hnil (by omega) (m : Int))
            clear hg4 HS HG3 HO3 hc2
            go_wp2_with fail
            go_region_held3 (fun _ => True) (first | trivial) (first | (go_at_call 15; refine HT2.out.mono ?_; rintro e w5 ⟨v5, rfl, hg5, ho5⟩; rw [hk2] at ho5; have HS5 := hide (same_eq (rdV_own ho5) (rdV_take (own_more HO4.out hg5) (by omega)).1 (by rw [recs_len]; omega)); have HG5 := hide (grownBy_trans HG4.out hg5); clear ho5 hg5) | (go_at_call 14; refine HS5.out.mono ?_; rintro e w6 ⟨rfl, hg6⟩; have HG6 := hide (grownBy_trans HGW.out (grownBy_trans HG5.out hg6)); clear hg6))
            go_wp2
            go_ret
            exact ⟨rfl, HG6.out⟩
      · skip
        go_wp2_with (first | (at_builtin; refine wpList_append_more rfl (.tmp 40) (.tmp 41) rfl _ (bbF xs i) rfl HB5.out.own HB5.out.gr.size aj js cj rfl (HJ.out.more (grownBy_trans HG1.out HB5.out.gr)) hl2 hj3 ?_; intro v6 w6 hown6 hg6; have HB6 : Hid (OwnF w1 w6 v6 B0) := (by rw [Hid, HB0.out]; exact OwnF.mk (own_step HB5.out.gr HB5.out.own hg6) hown6 (nth_app_le HB5.out.le HJ.out.1)); clear hown6 hg6; obtain ⟨ta, tc, rfl, hrd, hcp, hnil⟩ := HB6.out.rd; have HRd := hide hrd; have HGW := hide (grownBy_trans HG1.out HB6.out.gr); clear hrd HB6))
        by_cases hnn : nn < 0
        · skip
          obtain ⟨q, rfl⟩ : ∃ q : Nat, nn = -((q : Int) + 1) := ⟨(-(nn + 1)).toNat, by omega⟩
          have hqq : (q : Int) ≤ 9223372036854775807 := by omega
          clear hn1 hn2
          obtain ⟨N, hN1, hN2, hN3⟩ := ex_N B0
          have hN9 : N ≤ 1000000 := by omega
          have HN1 := hide hN1
          have HN2 := hide hN2
          have HKA := hide (kAll_ok (w := w6) ta tc B0 hN1 hN2 (by omega) HRd.out hcp hnil (by omega))
          have hA : (q : Int).tmod ((N : Int) + 1) = ((q % (N + 1) : Nat) : Int) := by rw [show ((N : Int) + 1) = ((N + 1 : Nat) : Int) by simp]; exact (Int.ofNat_tmod q (N + 1)).symm
          have hAl : q % (N + 1) < N + 1 := Nat.mod_lt _ (by omega)
          generalize q % (N + 1) = m at hA hAl
          have hA : -((-((q : Int) + 1) + 1).tmod ((N : Int) + 1)) = (m : Int) := by rw [show -((q : Int) + 1) + 1 = -(q : Int) by omega, Int.neg_tmod, Int.neg_neg]; exact hA
          have hk1 : kmost N (-1) = N := by unfold kmost; rw [if_neg (by omega)]
          have hk2 : kmost N (m : Int) = m := by unfold kmost; rw [if_pos (by omega)]; omega
          clear hN1 hN2 hN3
          go_wp2_with fail
          refine HKA.out.mono ?_
          rintro e w2 ⟨v2, rfl, hg2, ho2⟩
          obtain ⟨a2, c2, rfl⟩ := own_shape ho2
          have HT := hide (taken_ok (Glob.more HGl.out (grownBy_trans HGW.out hg2)) ta tc B0 HN1.out HN2.out (by omega) (HRd.out.more hg2) hcp hnil (by omega) (-1))
          have HO2 := hide ho2
          have HG2 := hide hg2
          clear ho2 hg2 HKA
          go_wp2_with fail
          refine HT.out.mono ?_
          rintro e w3 ⟨v3, rfl, hg3, ho3⟩
          rw [hk1] at ho3
          have HS := hide (same_eq (rdV_own ho3) (rdV_own (own_more HO2.out hg3)) (by rw [recs_len]; omega))
          have HG3 := hide (grownBy_trans HG2.out hg3)
          have HO3 := hide (own_more HO2.out hg3)
          clear ho3 hg3 HT HO2 HG2
          go_wp2_with fail
          refine HS.out.mono ?_
          rintro e w4 ⟨rfl, hg4⟩
          have HG4 := hide (grownBy_drew (grownBy_trans HG3.out hg4))
          have HO4 := hide (own_more (own_more HO3.out hg4) (grownBy_drew (grownBy_refl w4 none)))
          obtain ⟨_, hc2⟩ := rdV_take HO3.out (Nat.le_refl N)
          have c5 : (m : Int) ≤ (c2 : Int) := by omega
          have c6 : (0 : Int) ≤ (m : Int) := by omega
          have HT2 := hide (taken_ok (w := w4.drew) (Glob.more HGl.out (grownBy_trans HGW.out HG4.out)) ta tc B0 HN1.out HN2.out (by omega) (HRd.out.more HG4.out) hcp hnil (by omega) (m : Int))
          clear hg4 HS HG3 HO3 hc2
          go_wp2_with fail
          go_region_held3 (fun _ => True) (first | trivial) (first | (go_at_call 15; refine HT2.out.mono ?_; rintro e w5 ⟨v5, rfl, hg5, ho5⟩; rw [hk2] at ho5; have HS5 := hide (same_eq (rdV_own ho5) (rdV_take (own_more HO4.out hg5) (by omega)).1 (by rw [recs_len]; omega)); have HG5 := hide (grownBy_trans HG4.out hg5); clear ho5 hg5) | (go_at_call 14; refine HS5.out.mono ?_; rintro e w6 ⟨rfl, hg6⟩; have HG6 := hide (grownBy_trans HGW.out (grownBy_trans HG5.out hg6)); clear hg6))
          go_wp2
          go_ret
          exact ⟨rfl, HG6.out⟩
        · skip
          obtain ⟨q, rfl⟩ := Int.eq_ofNat_of_zero_le (show 0 ≤ nn by omega)
          have hqq : (q : Int) ≤ 9223372036854775807 := by omega
          clear hn1 hn2
          obtain ⟨N, hN1, hN2, hN3⟩ := ex_N B0
          have hN9 : N ≤ 1000000 := by omega
          have HN1 := hide hN1
          have HN2 := hide hN2
          have HKA := hide (kAll_ok (w := w6) ta tc B0 hN1 hN2 (by omega) HRd.out hcp hnil (by omega))
          have hA : (q : Int).tmod ((N : Int) + 1) = ((q % (N + 1) : Nat) : Int) := by rw [show ((N : Int) + 1) = ((N + 1 : Nat) : Int) by simp]; exact (Int.ofNat_tmod q (N + 1)).symm
          have hAl : q % (N + 1) < N + 1 := Nat.mod_lt _ (by omega)
          generalize q % (N + 1) = m at hA hAl
          have hk1 : kmost N (-1) = N := by unfold kmost; rw [if_neg (by omega)]
          have hk2 : kmost N (m : Int) = m := by unfold kmost; rw [if_pos (by omega)]; omega
          clear hN1 hN2 hN3
          go_wp2_with fail
          refine HKA.out.mono ?_
          rintro e w2 ⟨v2, rfl, hg2, ho2⟩
          obtain ⟨a2, c2, rfl⟩ := own_shape ho2
          have HT := hide (taken_ok (Glob.more HGl.out (grownBy_trans HGW.out hg2)) ta tc B0 HN1.out HN2.out (by omega) (HRd.out.more hg2) hcp hnil (by omega) (-1))
          have HO2 := hide ho2
          have HG2 := hide hg2
          clear ho2 hg2 HKA
          go_wp2_with fail
          refine HT.out.mono ?_
          rintro e w3 ⟨v3, rfl, hg3, ho3⟩
          rw [hk1] at ho3
          have HS := hide (same_eq (rdV_own ho3) (rdV_own (own_more HO2.out hg3)) (by rw [recs_len]; omega))
          have HG3 := hide (grownBy_trans HG2.out hg3)
          have HO3 := hide (own_more HO2.out hg3)
          clear ho3 hg3 HT HO2 HG2
          go_wp2_with fail
          refine HS.out.mono ?_
          rintro e w4 ⟨rfl, hg4⟩
          have HG4 := hide (grownBy_drew (grownBy_trans HG3.out hg4))
          have HO4 := hide (own_more (own_more HO3.out hg4) (grownBy_drew (grownBy_refl w4 none)))
          obtain ⟨_, hc2⟩ := rdV_take HO3.out (Nat.le_refl N)
          have c5 : (m : Int) ≤ (c2 : Int) := by omega
          have c6 : (0 : Int) ≤ (m : Int) := by omega
          have HT2 := hide (taken_ok (w := w4.drew) (Glob.more HGl.out (grownBy_trans HGW.out HG4.out)) ta tc B0 HN1.out HN2.out (by omega) (HRd.out.more HG4.out) hcp hnil (by omega) (m : Int))
          clear hg4 HS HG3 HO3 hc2
          go_wp2_with fail
          go_region_held3 (fun _ => True) (first | trivial) (first | (go_at_call 15; refine HT2.out.mono ?_; rintro e w5 ⟨v5, rfl, hg5, ho5⟩; rw [hk2] at ho5; have HS5 := hide (same_eq (rdV_own ho5) (rdV_take (own_more HO4.out hg5) (by omega)).1 (by rw [recs_len]; omega)); have HG5 := hide (grownBy_trans HG4.out hg5); clear ho5 hg5) | (go_at_call 14; refine HS5.out.mono ?_; rintro e w6 ⟨rfl, hg6⟩; have HG6 := hide (grownBy_trans HGW.out (grownBy_trans HG5.out hg6)); clear hg6))
          go_wp2
          go_ret
          exact ⟨rfl, HG6.out⟩
end Rc
end Go.Proofs.YtfmkmfjmhpgglaaDoor
