/- Decode of the program. -/
import Derived.Test.YtiojdoehlooibaaDoorZDk
import Derived.Test.YtiojdoehlooibaaDoorZPg
import Derived.Test.YtiojdoehlooibaaDoorZDh
import Derived.Test.YtiojdoehlooibaaDoorZDf
import Derived.Test.YtiojdoehlooibaaDoorZDb
namespace Go.Proofs.YtiojdoehlooibaaDoor
open Go.RowKit
namespace Gf
/-- What Decode answers. -/
def DecPost (b m t bytes c : Nat) (w : World) (W : List Nat) (e : Ending) (w' : World) : Prop := Cod w' c b m bytes t ∧ Step b w w' ∧
  ((∃ V gx gy cx cy x y Tx Ty, Near m t W V ∧ e = .returned (.tuple #[.slice (some ⟨gx, 0, none⟩) bytes cx, .slice (some ⟨gy, 0, none⟩) (pS m t) cy, num (wt (xl W V) : Nat), num 0]) ∧ OwnB b w' gx x Tx ∧ OwnB b w' gy y Ty ∧ x = bytesS (V.take (8 * bytes)) ∧ y = bytesS (V.drop (8 * bytes)) ∧ w.heap.size ≤ gx ∧ w.heap.size ≤ gy) ∨
   ((∀ V, ¬ Near m t W V) ∧ e = .returned (.tuple #[.slice none 0 0, .slice none 0 0, num 0, num 20])))
theorem OwnB.more {b m : Nat} {w w' : World} {g : Nat} {bs : List Nat} {T : List Value} (h : OwnB b w g bs T) (hF : Fld w b m) (hg : w.grownBy w' none) : OwnB b w' g bs T := h.step (hF.step_more hg)
theorem hnotD (x : Bool) (w : World) : (Op.unary .not (.bool x)).run Tryd.prog w = .ok (.bool (!x)) w := rfl
set_option maxHeartbeats 3200000 in
set_option maxRecDepth 4000 in
theorem cDecode_ok {w : World} {c b m bytes t : Nat} (h : Cod w c b m bytes t) (ad ap : Option Addr) (cd cp : Nat) (ds ps : List Nat) (hd : RdB w ad ds) (hp : RdB w ap ps) (hds : ds.length = bytes) (hps : ps.length = pS m t) :
    Calls Tryd.prog 21 #[ptr c, .slice ad ds.length cd, .slice ap ps.length cp] w fun e w' => DecPost b m t bytes c w (wrdS (rS m t) ds ps) e w' := by
  have hn := hnotD
  have hem := h.em
  have hr104 := h.r_104
  have hrle := h.r_le
  have hfits := h.fits
  have h2 := h.two
  have hb1 := h.b1
  have hb2 := h.b2
  have ht1 := h.t1
  have ht2 := h.t2
  have c1 := h.c1
  rw [← hds] at c1
  have hr1 : 1 ≤ rS m t := by unfold rS; omega
  have hpsl : 1 ≤ ps.length := by rw [hps]; unfold pS; omega
  have hr8 : rS m t ≤ 8 * ps.length := by rw [hps]; unfold pS; omega
  -- the parity's own bits
  have hBP : Bits ((bitsS ps).take (rS m t)) := bits_take (bits_bitsS ps) _
  have hPl : ((bitsS ps).take (rS m t)).length = rS m t := by rw [List.length_take, bitsS_len]; omega
  have hclean := clean_is hr1 (show ps.length = (rS m t + 7) / 8 from hps) hp.1
  have hWl := wrdS_len (ds := ds) hr8
  have hWb := bits_wrdS (rS m t) ds ps
  have hWe : wrdS (rS m t) ds ps = bitsS ds ++ (bitsS ps).take (rS m t) := rfl
  have hPar := cParity_ok h
  rw [← hps] at hPar
  have hClo := clone_ok ad cd ds hd (by omega) (by omega)
  obtain ⟨P, hP⟩ : ∃ P, P = (bitsS ps).take (rS m t) := ⟨_, rfl⟩
  rw [← hP] at hBP hPl hclean hWe
  have hcb : (bytesS P).length = ps.length := by rw [bytesS_len, hPl, hps]
  obtain ⟨W, hW⟩ : ∃ W, W = wrdS (rS m t) ds ps := ⟨_, rfl⟩
  rw [← hW] at hWl hWb hWe ⊢
  have HPar : Hid (Calls Tryd.prog 15 #[ptr c] w _) := hPar
  have HClo : Hid (Calls Tryd.prog 35 #[.slice ad ds.length cd] w _) := hClo
  have HClean : Hid _ := hclean
  have HCb : Hid _ := hcb
  have HWe : Hid _ := hWe
  have HW : Hid (W = wrdS (rS m t) ds ps) := hW
  have HPe : Hid (P = (bitsS ps).take (rS m t)) := hP
  have HPs : Hid (ps.length = pS m t) := hps
  have HDs : Hid (ds.length = bytes) := hds
  clear hPar hClo hclean hcb hWe hW hP hps hds
  go_enter Tryd.func21, Tryd.ntmps21
  go_wp2_with fail
  refine (cnone_ok h).mono ?_
  rintro e w1 ⟨rfl, rfl⟩
  go_wp2_with fail
  refine HPar.out.mono ?_
  rintro e w1 ⟨rfl, rfl⟩
  go_wp2_with fail
  refine HClo.out.mono ?_
  rintro e w2 ⟨gd, Td, rfl, hgd, hg2, hh2⟩
  have hO2 := h.fld.own_new hg2 hgd hh2 hd.1
  have hc2 := h.more hg2
  have hcl := cleaned_ok hc2 ap cp ps (hp.more hg2) HPs.out
  have HCl : Hid (Calls Tryd.prog 36 #[ptr c, .slice ap ps.length cp] w2 _) := hcl
  clear hcl HClo HPar hh2
  go_wp2_with fail
  refine HCl.out.mono ?_
  rintro e w3 ⟨gp, Tp, rfl, hgp, hg3, hO3⟩
  rw [HClean.out] at hO3
  rw [HClean.out, HCb.out]
  have hc3 := hc2.more hg3
  have hD3 := hO2.more hc2.fld hg3
  have hg23 := grownBy_trans hg2 hg3
  have hgdp : gd ≠ gp := by have := hO2.lt; omega
  have hgp' : w1.heap.size ≤ gp := by have := hg2.size; omega
  have hro := restOf_ok hc3 (some ⟨gd, 0, none⟩) (some ⟨gp, 0, none⟩) (ds.length + Td.length) (ps.length + Tp.length) ds P hD3.rdB hO3.rdB hBP hPl (by have := HDs.out; omega)
  rw [← HPs.out] at hro
  have HRo : Hid (Calls Tryd.prog 37 #[ptr c, .slice (some ⟨gd, 0, none⟩) ds.length (ds.length + Td.length), .slice (some ⟨gp, 0, none⟩) ps.length (ps.length + Tp.length)] w3 _) := hro
  clear hro HCl hO2 hg2 hg3
  go_wp2_with fail
  refine HRo.out.mono ?_
  rintro e w4 ⟨nr, hnr, rfl, hg4, hO4⟩
  have hc4 := hc3.more hg4
  have hD4 := hD3.more hc3.fld hg4
  have hP4 := hO3.more hc3.fld hg4
  have hg34 := grownBy_trans hg23 hg4
  have hnr' : nr = ((difS m t ds P).reverse).length := by rw [List.length_reverse]; exact hnr
  have hrd4 : RdN w4 (some ⟨w3.heap.size, 0, none⟩) (difS m t ds P).reverse := .inr ⟨w3.heap.size, 0, rfl, fun i hi => by rw [Nat.zero_add, hO4.cell, vals_at hi]⟩
  have hRd4 : Rd b w4 (some ⟨w3.heap.size, 0, none⟩) (ints (difS m t ds P).reverse) := .inr ⟨w3.heap.size, 0, rfl, hO4.free.1, fun i hi => by rw [ints_len] at hi; rw [ints_getD, Nat.zero_add, hO4.cell, vals_at hi]⟩
  have hdl : (difS m t ds P).length = rS m t := by rw [difS, xl_len (by rw [par_len, hPl]), par_len]
  have hcon := contains_ok (some ⟨w3.heap.size, 0, none⟩) (difS m t ds P).reverse.length (difS m t ds P).reverse hrd4 (by rw [List.length_reverse]; omega)
  have HRn : Hid _ := rest_none hem (bits_bitsS ds) hBP hPl
  have HSy : Hid (∀ e, 1 ≤ e → e ≤ 2 * t → ev m (pw m e) (difS m t ds P).reverse = ev m (pw m e) W.reverse) := fun e e1 e2 => by rw [HWe.out]; exact syn_rest hem (bits_bitsS ds) hBP hPl e1 e2
  rw [← HWe.out] at HRn
  obtain ⟨Q, hQ⟩ : ∃ Q, Q = (difS m t ds P).reverse := ⟨_, rfl⟩
  have hRn : (¬ 1 ∈ Q) ↔ IsW m t W.reverse := by rw [hQ]; exact HRn.out
  rw [← hQ] at hnr' hrd4 hRd4 hcon HSy hO4
  have hQl : Q.length ≤ 1000 := by rw [hQ, List.length_reverse]; omega
  subst hnr'
  have HCon : Hid (Calls Tryd.prog 38 #[.slice (some ⟨w3.heap.size, 0, none⟩) Q.length Q.length, num 1] w4 _) := hcon
  have HR2 : Hid _ := hRn
  clear hcon HRo HRn hRn hQ hnr hdl hg23 hD3 hO3 hc3
  go_wp2_with fail
  refine HCon.out.mono ?_
  rintro e w4' ⟨cc, rfl, hcc, rfl⟩
  have hst4 : Step b w1 w4' := h.fld.step_more hg34
  cases cc with
  | false =>
    have hno : IsW m t W.reverse := HR2.out.1 (fun hm => by have := hcc.2 hm; cases this)
    have hW0 : wt (xl W W) = 0 := by
      rw [wt, List.length_eq_zero_iff]
      refine List.eq_nil_iff_forall_not_mem.2 fun i hi => ?_
      rw [mem_supp, nth_xl rfl, Nat.xor_self] at hi
      omega
    have hx : ds = bytesS (W.take (8 * bytes)) := by
      have hl := bitsS_len ds
      rw [HWe.out, List.take_append_of_le_length (by rw [hl, HDs.out]; exact Nat.le_refl _), List.take_of_length_le (by rw [hl, HDs.out]; exact Nat.le_refl _), bytes_bits hd.1]
    have hy : bytesS P = bytesS (W.drop (8 * bytes)) := by
      have hl := bitsS_len ds
      rw [HWe.out, List.drop_append_of_le_length (by rw [hl, HDs.out]; exact Nat.le_refl _), List.drop_of_length_le (by rw [hl, HDs.out]; exact Nat.le_refl _), List.nil_append]
    have HNo : Hid (DecPost b m t bytes c w1 W (.returned (.tuple #[.slice (some ⟨gd, 0, none⟩) ds.length (ds.length + Td.length), .slice (some ⟨gp, 0, none⟩) ps.length (ps.length + Tp.length), num 0, num 0])) w4') := by
      refine ⟨hc4, hst4, .inl ⟨W, gd, gp, ds.length + Td.length, ps.length + Tp.length, ds, bytesS P, Td, Tp, ⟨rfl, hno, by rw [hW0]; exact Nat.zero_le _⟩, ?_, hD4, hP4, hx, hy, hgd, hgp'⟩⟩
      rw [hW0, HDs.out, HPs.out]
      rfl
    clear hcc hno HCon hx hy hW0
    go_wp2_with fail
    refine bodyPost_ret (v := .tuple #[.slice (some ⟨gd, 0, none⟩) ds.length (ds.length + Td.length), .slice (some ⟨gp, 0, none⟩) ps.length (ps.length + Tp.length), num 0, num 0]) (by simp [results, Tryd.f21, go_sem]) rfl HNo.out
  | true =>
    clear hcc HCon
    have hsy := syndromes_ok hc4 (some ⟨w3.heap.size, 0, none⟩) Q.length Q hRd4 (by omega)
    have HSyn : Hid (Calls Tryd.prog 40 #[ptr c, .slice (some ⟨w3.heap.size, 0, none⟩) Q.length Q.length] w4' _) := hsy
    clear hsy
    go_wp2_with fail
    refine HSyn.out.mono ?_
    rintro e w5 ⟨gs, rfl, hgs, hO5, hc5, hs5⟩
    have hSl := synS_len m (2 * t) Q
    have hSe := els_synS hem (2 * t) Q
    have HSv : Hid (∀ i, i < 2 * t → nth (synS m (2 * t) Q) i = ev m (pw m (i + 1)) W.reverse) := fun i hi => by rw [nth_synS hi]; exact HSy.out (i + 1) (by omega) (by omega)
    obtain ⟨S, hS⟩ : ∃ S, S = synS m (2 * t) Q := ⟨_, rfl⟩
    rw [← hS] at hSl hSe HSv hO5
    have hlo := locator_ok hc5 (some ⟨gs, 0, none⟩) S.length S (RdF.of_row hO5.free.1 hO5.at_) hSe (by omega) (Nat.le_refl _) (by omega)
    have HSl : Hid (S.length = 2 * t) := hSl
    rw [hSl] at hlo
    have HLo : Hid (Calls Tryd.prog 39 #[ptr c, .slice (some ⟨gs, 0, none⟩) (2 * t) (2 * t)] w5 _) := hlo
    have hD5 := hD4.step hs5
    have hP5 := hP4.step hs5
    have hst5 := hst4.trans hs5
    clear hlo HSyn hS hSl
    go_wp2_with fail
    refine HLo.out.mono ?_
    rintro e w6 ⟨ac, capc, C, B, L, rfl, hC6, hLoc, hc6, hs6, g0, hac0, hg0⟩
    have hD6 := hD5.step hs6
    have hP6 := hP5.step hs6
    have hst6 := hst5.trans hs6
    rw [HSl.out] at hLoc
    obtain ⟨hRec, hLeast⟩ := hLoc.is HSv.out
    have hCe := hLoc.elc
    have hCl := hLoc.lnc
    have hC1 : 1 ≤ C.length := by
      apply Classical.byContradiction
      intro hlt
      have := hRec.one
      rw [nth_over C (by omega)] at this
      omega
    have HNear : Hid (∀ J, L ≤ t → J ≤ 8 * bytes + rS m t → cn (rt m (8 * bytes + rS m t) C) J = L → Near m t W (xl W (tnS (rt m (8 * bytes + rS m t) C) J (8 * bytes + rS m t))) ∧ wt (xl W (xl W (tnS (rt m (8 * bytes + rS m t) C) J (8 * bytes + rS m t)))) = L) := fun J h1 h2 h3 => near_found hem hWb (by rw [hWl, HDs.out]) (by omega) hCe hRec hLeast h1 h2 h3
    have HAll : Hid (∀ V, Near m t W V → L ≤ t ∧ cn (rt m (8 * bytes + rS m t) C) (8 * bytes + rS m t) = L) := fun V hV => near_all hem hWb (by rw [hWl, HDs.out]) (by omega) hCe hRec hLeast hV
    have hLn := hLoc.len
    have c2 := hc6.c2
    obtain ⟨gl, ol, hac, hgl, hcl⟩ := hC6.resolve_left (fun e => by rw [e] at hC1; simp at hC1)
    subst hac
    have hglw : w5.heap.size ≤ gl := by
      have : gl = g0 := by simpa using congrArg (fun o : Option Addr => o.map (·.block)) hac0
      omega
    have hgl2 : gl ≠ b ∧ gl ≠ gd ∧ gl ≠ gp := ⟨hgl, by have := hD5.lt; omega, by have := hP5.lt; omega⟩
    clear HLo hRec hLeast hLoc hC6 hac0 hg0
    by_cases hLt : L ≤ t
    · have bL : ¬ (t : Int) < (L : Int) := by omega
      have hcd : c ≠ gd := by have := h.lt; omega
      have hcp : c ≠ gp := by have := h.lt; omega
      have htu := turn_ok hc6 (w0 := w1) (ds.length + Td.length) (ps.length + Tp.length) capc L ds (bytesS P) C hD6 hP6 HDs.out (by rw [HCb.out, HPs.out]) hgdp hgd hgp' hcd hcp ⟨hst6.grown, hst6.free⟩ hcl hgl2 (by omega) hC1
      rw [← HDs.out, ← HPs.out] at htu
      rw [HDs.out] at htu
      have HTu : Hid (Calls Tryd.prog 41 #[ptr c, .slice (some ⟨gd, 0, none⟩) ds.length (ds.length + Td.length), .slice (some ⟨gp, 0, none⟩) ps.length (ps.length + Tp.length), .slice (some ⟨gl, ol, none⟩) C.length capc, num (L : Nat)] w6 fun e w' => TurnPost m (8 * bytes + rS m t) bytes C ds (bytesS P) Td Tp b c t gd gp L w1 e w') := by rw [HDs.out]; exact htu
      clear htu hcl
      go_wp2_with fail
      refine HTu.out.mono ?_
      rintro e w7 ⟨J, hTS, rfl, hor⟩
      have hst7 : Step b w1 w7 := hTS.since.toStep
      have hJN := hTS.le
      by_cases hF : cn (rt m (8 * bytes + rS m t) C) J = L
      · obtain ⟨hN1, hN2⟩ := HNear.out J hLt hJN hF
        have hcpl : (bytesS P).length = (rS m t + 7) / 8 := by rw [bytesS_len, hPl]
        have hPP : (bitsS (bytesS P)).take (rS m t) = P := by
          apply List.ext_getElem
          · rw [List.length_take, bitsS_len, hcpl, hPl]; omega
          · intro i i1 i2
            have e : nth ((bitsS (bytesS P)).take (rS m t)) i = nth P i := by rw [nth_take _ (by rw [hPl] at i2; exact i2), nth_bits_bytes hBP]
            rwa [nth_of i1, nth_of i2] at e
        have hWW : wrdS (rS m t) ds (bytesS P) = W := by rw [wrdS, hPP, HWe.out]
        have hti := turned_is (m := m) (C := C) (ds := ds) (ps := bytesS P) (r := rS m t) HDs.out (by rw [hcpl]; omega) rfl hJN
        rw [hWW] at hti
        rw [← hti] at hN1 hN2
        have hxe := hTS.dat
        have hye := hTS.par
        have hxl := tb_len (rt m (8 * bytes + rS m t) C) ds (min J (8 * bytes))
        have hyl := tb_len (fun k => rt m (8 * bytes + rS m t) C (8 * bytes + k)) (bytesS P) (J - 8 * bytes)
        have hyz : ∀ i, rS m t ≤ i → nth (bitsS (tb (fun k => rt m (8 * bytes + rS m t) C (8 * bytes + k)) (bytesS P) (J - 8 * bytes))) i = 0 := fun i hi => by
          rw [nth_tb _ _ _ _ (by rw [hcpl]; omega), nth_bits_bytes hBP, nth_over P (by omega), if_neg (by omega)]; rfl
        obtain ⟨X, hX⟩ : ∃ X, X = tb (rt m (8 * bytes + rS m t) C) ds (min J (8 * bytes)) := ⟨_, rfl⟩
        obtain ⟨Y, hY⟩ : ∃ Y, Y = tb (fun k => rt m (8 * bytes + rS m t) C (8 * bytes + k)) (bytesS P) (J - 8 * bytes) := ⟨_, rfl⟩
        rw [← hX] at hxe hxl hN1 hN2
        rw [← hY] at hye hyl hyz hN1 hN2
        have hXb : (bitsS X).length = 8 * bytes := by rw [bitsS_len, hxl, HDs.out]
        have hx : X = bytesS ((wrdS (rS m t) X Y).take (8 * bytes)) := by
          rw [wrdS, List.take_append_of_le_length (by omega), List.take_of_length_le (by omega), bytes_bits hxe.le]
        have hy : Y = bytesS ((wrdS (rS m t) X Y).drop (8 * bytes)) := by
          rw [wrdS, List.drop_append_of_le_length (by omega), List.drop_of_length_le (by omega), List.nil_append, clean_bytes (by rw [hyl, hcpl]) hye.le hyz]
        have HYes : Hid (DecPost b m t bytes c w1 W (.returned (.tuple #[.slice (some ⟨gd, 0, none⟩) ds.length (ds.length + Td.length), .slice (some ⟨gp, 0, none⟩) ps.length (ps.length + Tp.length), num (L : Nat), num 0])) w7) := by
          refine ⟨hTS.cod, hst7, .inl ⟨wrdS (rS m t) X Y, gd, gp, ds.length + Td.length, ps.length + Tp.length, X, Y, Td, Tp, hN1, ?_, hxe, hye, hx, hy, hgd, hgp'⟩⟩
          rw [hN2, HDs.out, HPs.out]
        rw [hF]
        have hb : (((L : Nat) : Int) != (L : Int)) = false := by simp
        clear hti hWW hPP hN1 hN2 hxe hye hx hy hX hY hXb hxl hyl hyz hor hTS hF HNear HAll hcpl hst7 HTu
        go_wp2_with fail
        refine bodyPost_ret (v := .tuple #[.slice (some ⟨gd, 0, none⟩) ds.length (ds.length + Td.length), .slice (some ⟨gp, 0, none⟩) ps.length (ps.length + Tp.length), num (L : Nat), num 0]) (by simp [results, Tryd.f21, go_sem]) rfl HYes.out
      · have HNo : Hid (DecPost b m t bytes c w1 W (.returned (.tuple #[.slice none 0 0, .slice none 0 0, num 0, num 20])) w7) := by
          refine ⟨hTS.cod, hst7, .inr ⟨fun V hV => ?_, rfl⟩⟩
          have h1 := (HAll.out V hV).2
          rcases hor with e | e
          · exact hF e
          · rw [e] at hF; exact hF h1
        have hb : (((cn (rt m (8 * bytes + rS m t) C) J : Nat) : Int) != (L : Int)) = true := by simp; omega
        clear hor hTS hF HNear HAll hst7 HTu hJN
        go_wp2_with fail
        refine bodyPost_ret (v := .tuple #[.slice none 0 0, .slice none 0 0, num 0, num 20]) (by simp [results, Tryd.f21, go_sem]) rfl HNo.out
    · have bL : (t : Int) < (L : Int) := by omega
      have HNo : Hid (DecPost b m t bytes c w1 W (.returned (.tuple #[.slice none 0 0, .slice none 0 0, num 0, num 20])) w6) := ⟨hc6, hst6, .inr ⟨fun V hV => hLt (HAll.out V hV).1, rfl⟩⟩
      clear hLt hcl
      go_wp2_with fail
      refine bodyPost_ret (v := .tuple #[.slice none 0 0, .slice none 0 0, num 0, num 20]) (by simp [results, Tryd.f21, go_sem]) rfl HNo.out
end Gf
end Go.Proofs.YtiojdoehlooibaaDoor
