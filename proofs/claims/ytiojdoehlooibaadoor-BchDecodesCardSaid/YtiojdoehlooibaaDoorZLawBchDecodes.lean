/- The walk of BchDecodes. -/
import Derived.Test.YtiojdoehlooibaaDoorZPf
import Derived.Test.YtiojdoehlooibaaDoorZMn
import Derived.Test.YtiojdoehlooibaaDoorZNl
import Derived.Test.YtiojdoehlooibaaDoorZPd
namespace Go.Proofs.YtiojdoehlooibaaDoor
open Go.RowKit Gf
theorem conv_nil9 (w : World) : (convert 35 9 (.slice none 0 0)).run Tryd.prog w = .ok (.string ByteArray.empty) w := run_convert_bytes_nil w 35 5 Tryd.underlying35 Tryd.underlying5 0 0 9 Tryd.underlying9
set_option maxHeartbeats 800000 in
theorem cDecode_len {w : World} {c b m bytes t : Nat} (h : Cod w c b m bytes t) (ad ap : Option Addr) (cd lp cp : Nat) (hl : lp ≠ pS m t) :
    Calls Tryd.prog 21 #[ptr c, .slice ad bytes cd, .slice ap lp cp] w fun e w' => e = .returned (.tuple #[.slice none 0 0, .slice none 0 0, num 0, num 1]) ∧ w' = w := by
  have c1 := h.c1
  have hne : (((lp : Nat) : Int) != ((pS m t : Nat) : Int)) = true := by simpa using fun e : (lp : Int) = (pS m t : Int) => hl (Int.ofNat.inj e)
  have HPa : Hid (Calls Tryd.prog 15 #[ptr c] w fun e w' => e = .returned (num (pS m t : Nat)) ∧ w' = w) := cParity_ok h
  generalize pS m t = P at hne HPa
  clear hl
  go_enter Tryd.func21, Tryd.ntmps21
  go_wp2_with fail
  refine (cnone_ok h).mono ?_
  rintro e w1 ⟨rfl, rfl⟩
  go_wp2_with fail
  refine HPa.out.mono ?_
  rintro e w1 ⟨rfl, rfl⟩
  go_wp2_with fail
  refine bodyPost_ret (v := .tuple #[.slice none 0 0, .slice none 0 0, num 0, num 1]) (by simp [results, Tryd.f21, go_sem]) rfl ⟨rfl, rfl⟩
set_option maxHeartbeats 800000 in
theorem sDecode_len (m bytes t : Nat) (ao ad ap : Option Addr) (len cg cd lp cp : Nat) (hlen : len ≤ 100000) (hl : lp ≠ (len + 6) / 8) (w : World) :
    Calls Tryd.prog 22 #[codeV m bytes t (.slice ao len cg), .slice ad bytes cd, .slice ap lp cp] w fun e w' => e = .returned (.tuple #[.slice none 0 0, .slice none 0 0, num 0, num 1]) ∧ w.grownBy w' none := by
  have hne : (((lp : Nat) : Int) != (((len + 6) / 8 : Nat) : Int)) = true := by simp; omega
  have HPa : Hid (∀ w, Calls Tryd.prog 16 #[codeV m bytes t (.slice ao len cg)] w fun e w' => e = .returned (num (((len + 6) / 8 : Nat) : Int)) ∧ w.grownBy w' none) := fun w => sParity_ok m bytes t ao len cg (by omega) w
  generalize (len + 6) / 8 = P at hne HPa
  clear hl
  go_enter Tryd.func22, Tryd.ntmps22
  go_wp2_with fail
  refine (HPa.out _).mono ?_
  rintro e w1 ⟨rfl, hg1⟩
  have hgw := grownBy_trans (World.grownBy_alloc w (.cells #[num m, num bytes, num t, .slice ao len cg] 29) none) hg1
  go_wp2_with fail
  refine bodyPost_ret (v := .tuple #[.slice none 0 0, .slice none 0 0, num 0, num 1]) (by simp [results, Tryd.f22, go_sem]) rfl ⟨rfl, hgw⟩
/-- The generator's row is none of the field's. -/
theorem gH_step {w w' : World} {c b m bytes t : Nat} {ag : Option Addr} (h : Cod w c b m bytes t) (hr : RdN w ag (gH m t)) (hl : 1 ≤ (gH m t).length) (hs : Step b w w') : RdN w' ag (gH m t) := by
  rcases hr with e | ⟨g, off, rfl, hc⟩
  · exact .inl e
  · refine .inr ⟨g, off, rfl, fun i hi => ?_⟩
    have hne : g ≠ b := fun e => by
      subst e
      have h1 := hc 0 hl
      rw [gH_head h.fld.em t, Nat.add_zero] at h1
      have hm := h.m4
      rcases h.fld with hb | ⟨gp, gl, hb⟩
      · rw [cell_row (L := [.int .i64 m, .int .u32 0, .int .i32 0, .int .u32 0, .slice none 0 0, .slice none 0 0]) hb.at_] at h1
        match off, h1 with
        | 0, h1 => have h2 := Option.some.inj h1; injection h2 with _ h3; simp at h3; omega
        | 1, h1 => have h2 := Option.some.inj h1; cases h2
        | 2, h1 => have h2 := Option.some.inj h1; cases h2
        | 3, h1 => have h2 := Option.some.inj h1; cases h2
        | 4, h1 => have h2 := Option.some.inj h1; cases h2
        | 5, h1 => have h2 := Option.some.inj h1; cases h2
        | k + 6, h1 => cases h1
      · rw [cell_row (L := [.int .i64 m, .int .u32 1, .int .i32 0, .int .u32 0, pvOf m gp, lvOf m gl]) hb.at_] at h1
        match off, h1 with
        | 0, h1 => have h2 := Option.some.inj h1; injection h2 with _ h3; simp at h3; omega
        | 1, h1 => have h2 := Option.some.inj h1; cases h2
        | 2, h1 => have h2 := Option.some.inj h1; cases h2
        | 3, h1 => have h2 := Option.some.inj h1; cases h2
        | 4, h1 => have h2 := Option.some.inj h1; cases h2
        | 5, h1 => have h2 := Option.some.inj h1; cases h2
        | k + 6, h1 => cases h1
    rw [hs.cell (lt_of_cell (hc i hi)) hne]
    exact hc i hi
set_option maxHeartbeats 6400000 in
set_option maxRecDepth 4000 in
theorem law_BchDecodes (ao : Option Addr) (len cap : Nat) (bs : List Nat) {w : World} (hx : ArgB w ao len bs) (_hl : len ≤ 140737488355328 ∧ len ≤ cap) (ap : Option Addr) (lp cp : Nat) (ps : List Nat) (hxp : ArgB w ap lp ps) (hlp : lp ≤ 140737488355328 ∧ lp ≤ cp) (t : Int) (ht : I64 t) (ax : Option Addr) (lx cx : Nat) (xs : List Int) (hxs : Arg w ax lx xs) (hlx : lx ≤ 17592186044416 ∧ lx ≤ cx) (hG : Glob w) (h0 : 0 < w.heap.size) :
    Calls Tryd.prog 5 #[.slice ao len cap, .slice ap lp cp, num t, .slice ax lx cx] w fun e w' => e = .returned (.bool true) ∧ w.grownBy w' none := by
  have hn := hnot
  obtain ⟨hbl, hrd⟩ := hx
  obtain ⟨hpl0, hrp⟩ := hxp
  have hlp1 := hlp.1
  clear hlp
  by_cases hno : len = 0 ∨ 40 < len
  · have hb : (((len : Int) == 0) || decide (40 < (len : Int))) = true := by
      rcases hno with h | h
      · rw [h]; rfl
      · simp; omega
    clear hno
    go_enter Tryd.func5, Tryd.ntmps5
    go_wp2_with fail
    refine (awake2_ok w hG h0).mono ?_
    rintro e w1 ⟨rfl, hg1⟩
    go_wp2_with fail
    all_goals
      go_ret
      exact ⟨rfl, hg1⟩
  · have l1 : 1 ≤ len := by omega
    have l2 : len ≤ 40 := by omega
    have b1 : ((len : Int) == 0) = false := by simp; omega
    have b2 : ¬ (40 : Int) < (len : Int) := by omega
    clear hno
    have HBl : Hid (bs.length = len) := hbl
    have HPl0 : Hid (ps.length = lp) := hpl0
    clear hbl hpl0
    go_enter Tryd.func5, Tryd.ntmps5
    go_wp2_with fail
    refine (awake2_ok w hG h0).mono ?_
    rintro e w1 ⟨rfl, hg1⟩
    have hcode := code_ok (hG.kept (hg1.block 0 h0 (by simp))) (by have := hg1.size; omega) ao len cap t ht l1 (by omega)
    have HCode : Hid (Calls Tryd.prog 17 #[.slice ao len cap, num t] w1 _) := hcode
    clear hcode
    go_wp2_with fail
    refine HCode.out.mono ?_
    rintro e w2 ⟨c, b, m, ag, cg, hM, rfl, hc2, hrg, hg2, hb2, hcb⟩
    have hem := hM.em
    have hgl := gH_len m (tS t)
    have h2 := hc2.two
    have h104 := hc2.r_104
    have hgb := gH_bits hem (tS t)
    have hT8 := tS_bd t
    have hrle := hc2.r_le
    have hfits := hc2.fits
    obtain ⟨T, hT⟩ : ∃ T, T = tS t := ⟨_, rfl⟩
    rw [← hT] at hM hc2 hrg hgl h2 h104 hgb hT8 hrle hfits
    rw [← hT]
    clear hT
    have hG2 : 2 ≤ (gH m T).length := by omega
    have hG3 : (gH m T).length ≤ 1000 := by unfold rS at h104; omega
    have hrgl : (gH m T).length = rS m T + 1 := by unfold rS; omega
    have Hgl : Hid _ := hgl
    have HPS : Hid (((gH m T).length + 6) / 8 = pS m T) := by rw [Hid, hrgl, pS]
    have Hr1 : Hid (1 ≤ rS m T) := by rw [Hid]; omega
    have hpS1 : 1 ≤ pS m T := by have := Hr1.out; unfold pS; omega
    have hpS2 : pS m T ≤ 105 := by unfold pS; omega
    have h8 : rS m T ≤ 8 * pS m T := by unfold pS; omega
    have HPe : Hid (bytesS ((dv (gH m T) (padS (bitsS bs) ((gH m T).length - 1)) (8 * bs.length)).drop (8 * bs.length)) = parB m T bs) := by
      rw [Hid]
      show _ = bytesS (par m T (bitsS bs))
      rw [par, left, padS, Hgl.out]
      congr 1
      simp [bitsS_len]
    have Hfit : Hid (8 * len + rS m T ≤ sz m) := by rw [Hid]; omega
    have hA := World.grownBy_alloc w2 (.cells #[num m, num len, num T, .slice ag (gH m T).length cg] 29) none
    have hbx : (w2.alloc (.cells #[num m, num len, num T, .slice ag (gH m T).length cg] 29)).heap[w2.heap.size]? = some (.cells #[num m, num len, num T, .slice ag (gH m T).length cg] 29) := heap_alloc_new w2 _
    have hb2l : b < w2.heap.size := hc2.fld.lt
    have hbw : w.heap.size ≤ b := by have := hg1.size; omega
    obtain ⟨w3, hw3⟩ : ∃ w3, w3 = w2.alloc (.cells #[num m, num len, num T, .slice ag (gH m T).length cg] 29) := ⟨_, rfl⟩
    have HW3 : Hid (w2.alloc (.cells #[num m, num len, num T, .slice ag (gH m T).length cg] 29) = w3) := hw3.symm
    rw [← hw3] at hA hbx
    have hc3 := hc2.more hA
    have hrg3 := hrg.more hA
    have hrd3 := (hrd.more (grownBy_trans hg1 hg2)).more hA
    have hrp3 := (hrp.more (grownBy_trans hg1 hg2)).more hA
    have hgw3 := grownBy_trans (grownBy_trans hg1 hg2) hA
    have hxs3 := hxs.kept hgw3
    have HBox : Hid (∀ wq, w3.grownBy wq (some b) → wq.cell? ⟨w2.heap.size, 0, none⟩ = some (num m) ∧ wq.cell? ⟨w2.heap.size, 1, none⟩ = some (num len) ∧ wq.cell? ⟨w2.heap.size, 2, none⟩ = some (num T) ∧ wq.cell? ⟨w2.heap.size, 3, none⟩ = some (.slice ag (gH m T).length cg)) := fun wq hg => by
      have hb := hg.block w2.heap.size (lt_of_heap hbx) (by simp; omega)
      rw [hbx] at hb
      simp [World.cell?, hb]
    generalize hGL : (gH m T).length = GL at HBox hG2 hG3 HPS HW3
    clear hgl hrgl hw3 hbx hA hrg hc2 HCode hG h2
    by_cases hlx0 : lx = 0
    · subst hlx0
      by_cases hpl : lp = pS m T
      · have HDl : Hid (bs.length = len) := HBl.out
        have HPl : Hid (ps.length = pS m T) := by rw [Hid, HPl0.out, hpl]
        subst hpl
        obtain ⟨w5, hw5⟩ : ∃ w5, w5 = w3 := ⟨_, rfl⟩
        obtain ⟨a1, ha1⟩ : ∃ a1, a1 = ao := ⟨_, rfl⟩
        obtain ⟨a2, ha2⟩ : ∃ a2, a2 = ap := ⟨_, rfl⟩
        obtain ⟨c1, hc1⟩ : ∃ c1, c1 = cap := ⟨_, rfl⟩
        obtain ⟨c2, hc2⟩ : ∃ c2, c2 = cp := ⟨_, rfl⟩
        obtain ⟨D, hD⟩ : ∃ D, D = bs := ⟨_, rfl⟩
        obtain ⟨P, hP⟩ : ∃ P, P = ps := ⟨_, rfl⟩
        rw [← hD] at HDl
        rw [← hP] at HPl
        have hc5 : Cod w5 c b m len T := by rw [hw5]; exact hc3
        have hD5 : RdB w5 a1 D := by rw [hw5, ha1, hD]; exact hrd3
        have hP5 : RdB w5 a2 P := by rw [hw5, ha2, hP]; exact hrp3
        have hrg5 : RdN w5 ag (gH m T) := by rw [hw5]; exact hrg3
        have hgw5 : w.grownBy w5 none := by rw [hw5]; exact hgw3
        have hg35 : w3.grownBy w5 (some b) := by rw [hw5]; exact World.grownBy.refl _ _
        have HD6 : Hid (∀ w6, Step b w5 w6 → RdB w6 a1 D) := fun w6 hs => by rw [ha1, hD]; exact hrd.more (grown_step hgw5 hs hbw)
        have HP6 : Hid (∀ w6, Step b w5 w6 → RdB w6 a2 P) := fun w6 hs => by rw [ha2, hP]; exact hrp.more (grown_step hgw5 hs hbw)
        go_wp2_with fail
        rw [HW3.out, ← hw5, ← ha1, ← ha2, ← hc1, ← hc2]
        clear hw5 ha1 ha2 hc1 hc2 hD hP hc3 hrd3 hrp3 hrg3 hgw3 HBl HPl0 HPe hrd hrp hxs3 hxs
        have hde := cDecode_ok hc5 a1 a2 c1 c2 D P hD5 hP5 HDl.out HPl.out
        rw [HDl.out, HPl.out] at hde
        have HDe : Hid (Calls Tryd.prog 21 #[ptr c, .slice a1 len c1, .slice a2 (pS m T) c2] w5 fun e w' => DecPost b m T len c w5 (wrdS (rS m T) D P) e w') := hde
        have HSd : Hid (∀ w6, Step b w5 w6 → Calls Tryd.prog 22 #[codeV m len T (.slice ag GL cg), .slice a1 len c1, .slice a2 (pS m T) c2] w6 fun e w' => SDecPost m T len (rS m T) w6 (wrdS (rS m T) D P) e w') := fun w6 hs => by
          have h := sDecode_ok (w := w6) hem ag a1 a2 cg c1 c2 D P (gH_step hc5 hrg5 (by omega) hs) (HD6.out w6 hs) (HP6.out w6 hs) HDl.out HPl.out hT8.1 hT8.2 l1 (by omega) (by omega) (by omega) Hfit.out
          rw [hGL] at h
          exact h
        have HWl : Hid ((wrdS (rS m T) D P).length = 8 * len + rS m T) := by rw [Hid, wrdS_len (by rw [HPl.out]; exact h8), HDl.out]
        have HWb : Hid (Bits (wrdS (rS m T) D P)) := bits_wrdS _ D P
        have HWB : Hid (∀ wq, w5.grownBy wq (some b) → w3.grownBy wq (some b)) := fun wq hg => grownBy_trans hg35 hg
        generalize wrdS (rS m T) D P = W at HDe HSd HWl HWb
        have HRl : Hid ((rS m T + 7) / 8 = pS m T) := rfl
        generalize rS m T = r at HSd HWl Hfit h8 h104 HRl
        generalize hPq : pS m T = pl at HDe HSd hpS1 hpS2 HRl ⊢
        have HPq : Hid (pS m T = pl) := hPq
        clear hPq
        clear hde hD5 hP5 hrg5 HD6 HP6
        refine HDe.out.mono ?_
        rintro e w6 ⟨hc6, hs6, hor⟩
        have hgw6 : w.grownBy w6 none := grown_step hgw5 hs6 hbw
        obtain ⟨k0, k1, k2, k3⟩ := HBox.out w6 (HWB.out w6 hs6.grown)
        have HSd6 : Hid (Calls Tryd.prog 22 #[codeV m len T (.slice ag GL cg), .slice a1 len c1, .slice a2 pl c2] w6 fun e w' => SDecPost m T len r w6 W e w') := HSd.out w6 hs6
        clear HDe HSd
        rcases hor with ⟨V, gx, gy, cx', cy, x, y, Tx, Ty, hN, rfl, hX6, hY6, hx, hy, _, _⟩ | ⟨hnone, rfl⟩
        · have HN : Hid _ := hN
          have HX : Hid (x = bytesS (V.take (8 * len)) ∧ y = bytesS (V.drop (8 * len))) := ⟨hx, hy⟩
          have HXr := hX6.rdB
          have HYr := hY6.rdB
          obtain ⟨nw, hnw⟩ : ∃ nw, nw = wt (xl W V) := ⟨_, rfl⟩
          have HNW : Hid (wt (xl W V) = nw) := hnw.symm
          rw [← hnw, HPq.out]
          clear hN hx hy hX6 hY6 hnw
          go_wp2_with fail
          refine HSd6.out.mono ?_
          rintro e w7 ⟨hg7, hor7⟩
          rcases hor7 with ⟨V', gu, gv, hN', rfl, hu, hv⟩ | ⟨hno, _⟩
          · obtain rfl : V' = V := near_eq hem HWb.out (by rw [HWl.out]; exact Hfit.out) hN' HN.out
            have hVl : V'.length = 8 * len + r := by rw [hN'.1]; exact HWl.out
            have hxl : x.length = len := by rw [HX.out.1, bytesS_len, List.length_take, hVl]; omega
            have hyl : y.length = pl := by rw [HX.out.2, bytesS_len, List.length_drop, hVl, ← HRl.out]; congr 1; omega
            rw [← HX.out.1] at hu
            rw [← HX.out.2] at hv
            have hxb : ∀ i, nth x i ≤ 255 := by rw [HX.out.1]; exact bytesS_le _
            have hyb : ∀ i, nth y i ≤ 255 := by rw [HX.out.2]; exact bytesS_le _
            have cvx := conv_ok (HXr.more hg7) (by omega) cx'
            have cvy := conv_ok (HYr.more hg7) (by omega) cy
            have cvu := conv_ok (rdB_row (T := []) (by rw [List.append_nil]; exact hu) hxb) (by omega) len
            have cvv := conv_ok (rdB_row (T := []) (by rw [List.append_nil]; exact hv) hyb) (by omega) pl
            rw [hxl] at cvx cvu
            rw [hyl] at cvy cvv
            rw [HNW.out, HRl.out]
            have hgw7 := grownBy_trans hgw6 hg7
            clear hN' hVl hxl hyl hu hv hxb hyb HX HXr HYr HN HNW HSd6 HRl
            go_wp2_with fail
            go_ret
            exact ⟨rfl, hgw7⟩
          · exact absurd HN.out (hno V)
        · have HN : Hid _ := hnone
          clear hnone
          go_wp2_with fail
          refine HSd6.out.mono ?_
          rintro e w7 ⟨hg7, hor7⟩
          rcases hor7 with ⟨V', gu, gv, hN', _, hu, hv⟩ | ⟨hno, rfl⟩
          · exact absurd hN' (HN.out V')
          · have cvn := conv_nil9
            have hgw7 := grownBy_trans hgw6 hg7
            clear HN hno HSd6
            go_wp2_with fail
            go_ret
            exact ⟨rfl, hgw7⟩
      · have hne : Hid (lp ≠ (GL + 6) / 8) := by rw [Hid, HPS.out]; exact hpl
        have HNe : Hid (lp ≠ pS m T) := hpl
        obtain ⟨k0, k1, k2, k3⟩ := HBox.out w3 (World.grownBy.refl _ _)
        clear hpl
        go_wp2_with fail
        rw [HW3.out]
        refine (cDecode_len hc3 ao ap cap lp cp HNe.out).mono ?_
        rintro e w6 ⟨rfl, hw6⟩
        subst hw6
        go_wp2_with fail
        refine (sDecode_len m len T ag ao ap GL cg cap lp cp (by omega) hne.out _).mono ?_
        rintro e w7 ⟨rfl, hg7⟩
        have cvn := conv_nil9
        have hgw7 := grownBy_trans hgw3 hg7
        go_wp2_with fail
        go_ret
        exact ⟨rfl, hgw7⟩
    · have bx : (0 : Int) < (lx : Int) := by omega
      have hse := sEncode_ok (w := w3) m T ag ao cg cap (gH m T) bs hrg3 hrd3 hgb (by omega) (by omega) (by rw [HBl.out]; omega) (by rw [HBl.out]; omega)
      rw [hGL] at hse
      rw [HBl.out] at hse
      have HSe : Hid (Calls Tryd.prog 19 #[codeV m len T (.slice ag GL cg), .slice ao len cap] w3 _) := hse
      obtain ⟨k0, k1, k2, k3⟩ := HBox.out w3 (World.grownBy.refl _ _)
      clear hse
      go_wp2_with fail
      rw [HW3.out]
      refine HSe.out.mono ?_
      rintro e w4 ⟨g5, n5, rfl, hn5, hg5a, hg5, hh5⟩
      rw [← HBl.out, ← hGL, HPe.out] at hh5
      have hpl := parB_len m T bs
      have hnn : n5 = pS m T := by rw [hn5, ← HPS.out]; omega
      subst hnn
      have hle := bytesS_le (par m T (bitsS bs))
      have hr5 : RdB w4 (some ⟨g5, 0, none⟩) (parB m T bs) := rdB_row (T := []) (by rw [List.append_nil]; exact hh5) hle
      have hrd4 := hrd3.more hg5
      have hgw4 := grownBy_trans hgw3 hg5
      have hxl := hxs.1
      have hX : Arg w4 ax xs.length xs := by rw [hxl]; exact hxs.kept hgw4
      have hbe := bent_ok ao (some ⟨g5, 0, none⟩) ax cap (pS m T) cx bs (parB m T bs) xs hrd4 hr5 hX (by rw [HBl.out]; omega) (by rw [hpl]; omega) (by rw [HBl.out]; omega) (by rw [hpl]; omega) (by rw [hxl]; omega)
      rw [HBl.out, hpl, hxl] at hbe
      have HBe : Hid (Calls Tryd.prog 20 #[.slice ao len cap, .slice (some ⟨g5, 0, none⟩) (pS m T) (pS m T), .slice ax lx cx] w4 _) := hbe
      have HPp : Hid _ := hpl
      have HXl : Hid _ := hxl
      clear hbe hX hpl hxl HSe k0 k1 k2 k3 hn5 hh5
      go_wp2_with fail
      refine HBe.out.mono ?_
      rintro e w5 ⟨g1, g2, c1, c2, D, P, T1, T2, rfl, hBR, hBn⟩
      rw [HPp.out, HBl.out]
      have hgw5 := grownBy_trans hgw4 hBR.grown
      have hc4 := hc3.more hg5
      have hc5 := hc4.more hBR.grown
      have hb4 : b < w4.heap.size := hc4.fld.lt
      have hg1b : g1 ≠ b := by have := hBR.new1; omega
      have hg2b : g2 ≠ b := by have := hBR.new2; omega
      have hD5 : RdB w5 (some ⟨g1, 0, none⟩) D := rdB_row hBR.at1 hBn.bd
      have hP5 : RdB w5 (some ⟨g2, 0, none⟩) P := rdB_row hBR.at2 hBn.bp
      have HDl : Hid (D.length = len) := by rw [Hid, hBn.ld]; exact HBl.out
      have HPl : Hid (P.length = pS m T) := by rw [Hid, hBn.lp]; exact HPp.out
      have hrg5 : RdN w5 ag (gH m T) := (hrg3.more hg5).more hBR.grown
      have hg35 : w3.grownBy w5 (some b) := by
        have h := grownBy_trans hg5 hBR.grown
        exact ⟨h.os, h.tape, h.output, h.size, fun k hk _ => h.block k hk (by simp)⟩
      have HD6 : Hid (∀ w6, Step b w5 w6 → RdB w6 (some ⟨g1, 0, none⟩) D) := fun w6 hs => hD5.stepB hs hg1b
      have HP6 : Hid (∀ w6, Step b w5 w6 → RdB w6 (some ⟨g2, 0, none⟩) P) := fun w6 hs => hP5.stepB hs hg2b
      obtain ⟨a1, ha1⟩ : ∃ a1, a1 = some (⟨g1, 0, none⟩ : Addr) := ⟨_, rfl⟩
      obtain ⟨a2, ha2⟩ : ∃ a2, a2 = some (⟨g2, 0, none⟩ : Addr) := ⟨_, rfl⟩
      rw [← ha1] at hD5 HD6
      rw [← ha2] at hP5 HP6
      rw [← ha1, ← ha2]
      clear ha1 ha2 hc4 hBR hBn hc3 hrd3 hrp3 hrg3 hgw3 HBl HPl0 HPe hrd hrp hxs3 hxs hr5 hrd4 hgw4 HBe HPp HXl
      have hde := cDecode_ok hc5 a1 a2 c1 c2 D P hD5 hP5 HDl.out HPl.out
      rw [HDl.out, HPl.out] at hde
      have HDe : Hid (Calls Tryd.prog 21 #[ptr c, .slice a1 len c1, .slice a2 (pS m T) c2] w5 fun e w' => DecPost b m T len c w5 (wrdS (rS m T) D P) e w') := hde
      have HSd : Hid (∀ w6, Step b w5 w6 → Calls Tryd.prog 22 #[codeV m len T (.slice ag GL cg), .slice a1 len c1, .slice a2 (pS m T) c2] w6 fun e w' => SDecPost m T len (rS m T) w6 (wrdS (rS m T) D P) e w') := fun w6 hs => by
        have h := sDecode_ok (w := w6) hem ag a1 a2 cg c1 c2 D P (gH_step hc5 hrg5 (by omega) hs) (HD6.out w6 hs) (HP6.out w6 hs) HDl.out HPl.out hT8.1 hT8.2 l1 (by omega) (by omega) (by omega) Hfit.out
        rw [hGL] at h
        exact h
      have HWl : Hid ((wrdS (rS m T) D P).length = 8 * len + rS m T) := by rw [Hid, wrdS_len (by rw [HPl.out]; exact h8), HDl.out]
      have HWb : Hid (Bits (wrdS (rS m T) D P)) := bits_wrdS _ D P
      have HWB : Hid (∀ wq, w5.grownBy wq (some b) → w3.grownBy wq (some b)) := fun wq hg => grownBy_trans hg35 hg
      generalize wrdS (rS m T) D P = W at HDe HSd HWl HWb
      have HRl : Hid ((rS m T + 7) / 8 = pS m T) := rfl
      generalize rS m T = r at HSd HWl Hfit h8 h104 HRl
      generalize hPq : pS m T = pl at HDe HSd hpS1 hpS2 HRl ⊢
      have HPq : Hid (pS m T = pl) := hPq
      clear hPq
      clear hde hD5 hP5 hrg5 HD6 HP6
      go_wp2_with fail
      refine HDe.out.mono ?_
      rintro e w6 ⟨hc6, hs6, hor⟩
      have hgw6 : w.grownBy w6 none := grown_step hgw5 hs6 hbw
      obtain ⟨k0, k1, k2, k3⟩ := HBox.out w6 (HWB.out w6 hs6.grown)
      have HSd6 : Hid (Calls Tryd.prog 22 #[codeV m len T (.slice ag GL cg), .slice a1 len c1, .slice a2 pl c2] w6 fun e w' => SDecPost m T len r w6 W e w') := HSd.out w6 hs6
      clear HDe HSd
      rcases hor with ⟨V, gx, gy, cx', cy, x, y, Tx, Ty, hN, rfl, hX6, hY6, hx, hy, _, _⟩ | ⟨hnone, rfl⟩
      · have HN : Hid _ := hN
        have HX : Hid (x = bytesS (V.take (8 * len)) ∧ y = bytesS (V.drop (8 * len))) := ⟨hx, hy⟩
        have HXr := hX6.rdB
        have HYr := hY6.rdB
        obtain ⟨nw, hnw⟩ : ∃ nw, nw = wt (xl W V) := ⟨_, rfl⟩
        have HNW : Hid (wt (xl W V) = nw) := hnw.symm
        rw [← hnw, HPq.out]
        clear hN hx hy hX6 hY6 hnw
        go_wp2_with fail
        refine HSd6.out.mono ?_
        rintro e w7 ⟨hg7, hor7⟩
        rcases hor7 with ⟨V', gu, gv, hN', rfl, hu, hv⟩ | ⟨hno, _⟩
        · obtain rfl : V' = V := near_eq hem HWb.out (by rw [HWl.out]; exact Hfit.out) hN' HN.out
          have hVl : V'.length = 8 * len + r := by rw [hN'.1]; exact HWl.out
          have hxl : x.length = len := by rw [HX.out.1, bytesS_len, List.length_take, hVl]; omega
          have hyl : y.length = pl := by rw [HX.out.2, bytesS_len, List.length_drop, hVl, ← HRl.out]; congr 1; omega
          rw [← HX.out.1] at hu
          rw [← HX.out.2] at hv
          have hxb : ∀ i, nth x i ≤ 255 := by rw [HX.out.1]; exact bytesS_le _
          have hyb : ∀ i, nth y i ≤ 255 := by rw [HX.out.2]; exact bytesS_le _
          have cvx := conv_ok (HXr.more hg7) (by omega) cx'
          have cvy := conv_ok (HYr.more hg7) (by omega) cy
          have cvu := conv_ok (rdB_row (T := []) (by rw [List.append_nil]; exact hu) hxb) (by omega) len
          have cvv := conv_ok (rdB_row (T := []) (by rw [List.append_nil]; exact hv) hyb) (by omega) pl
          rw [hxl] at cvx cvu
          rw [hyl] at cvy cvv
          rw [HNW.out, HRl.out]
          have hgw7 := grownBy_trans hgw6 hg7
          clear hN' hVl hxl hyl hu hv hxb hyb HX HXr HYr HN HNW HSd6 HRl
          go_wp2_with fail
          go_ret
          exact ⟨rfl, hgw7⟩
        · exact absurd HN.out (hno V)
      · have HN : Hid _ := hnone
        clear hnone
        go_wp2_with fail
        refine HSd6.out.mono ?_
        rintro e w7 ⟨hg7, hor7⟩
        rcases hor7 with ⟨V', gu, gv, hN', _, hu, hv⟩ | ⟨hno, rfl⟩
        · exact absurd hN' (HN.out V')
        · have cvn := conv_nil9
          have hgw7 := grownBy_trans hgw6 hg7
          clear HN hno HSd6
          go_wp2_with fail
          go_ret
          exact ⟨rfl, hgw7⟩
end Go.Proofs.YtiojdoehlooibaaDoor
