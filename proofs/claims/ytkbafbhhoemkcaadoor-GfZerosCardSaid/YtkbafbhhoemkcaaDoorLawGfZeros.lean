/- The walk of GfZeros. -/
import Derived.Test.YtkbafbhhoemkcaaDoorLay
import Derived.Test.YtkbafbhhoemkcaaDoorZer
namespace Go.Proofs.YtkbafbhhoemkcaaDoor
open Go.RowKit Gf
theorem rem_i64 (c : Int) : I64 (c.tmod 8) := by
  have h1 := Int.tmod_lt_of_pos c (show (0 : Int) < 8 by decide)
  have h2 := (tmod_form c 8 (by decide)).2.2.2
  unfold I64
  constructor <;> omega
set_option maxHeartbeats 1600000 in
theorem law_GfZeros (c : Int) (_hc : I64 c) (t : Int) (ht : I64 t) (w : World) (hG : Glob w) (h0 : 0 < w.heap.size) :
    Calls Tryd.prog 5 #[num c, num t] w fun e w' => e = .returned (.bool true) ∧ w.grownBy w' none := by
  have hn := hnot
  have hem := pick_em (c.tmod 8)
  have hc8 := rem_i64 c
  obtain ⟨m, hm⟩ : ∃ m, m = pickS (c.tmod 8) := ⟨_, rfl⟩
  have HM : Hid (m = pickS (c.tmod 8)) := hm
  rw [← hm] at hem
  clear hm
  have hsz := sz_bd hem
  by_cases hbad : t < 1 ∨ 8 < t ∨ (sz m : Int) < 2 * t
  · have HB : Hid _ := hbad
    by_cases h1 : t < 1
    · clear hbad
      go_enter Tryd.func5, Tryd.ntmps5
      go_wp2_with fail
      refine (awake_ok w hG h0).mono ?_
      rintro e w1 ⟨rfl, hg1⟩
      have hF := Fld_new hem (hG.kept (hg1.block 0 h0 (by simp))) (show 0 < w1.heap.size by have := hg1.size; omega)
      go_wp2_with fail
      refine (field_ok (c.tmod 8) hc8 _).mono ?_
      rintro e w2 ⟨rfl, rfl⟩
      rw [← HM.out]
      go_wp2_with fail
      refine (generator_no hF t HB.out).mono ?_
      rintro e w2 ⟨rfl, rfl⟩
      go_wp2_with fail
      go_ret
      exact ⟨rfl, grownBy_trans hg1 (World.grownBy_alloc _ _ none)⟩
    by_cases h2 : 8 < t
    · clear hbad
      go_enter Tryd.func5, Tryd.ntmps5
      go_wp2_with fail
      refine (awake_ok w hG h0).mono ?_
      rintro e w1 ⟨rfl, hg1⟩
      have hF := Fld_new hem (hG.kept (hg1.block 0 h0 (by simp))) (show 0 < w1.heap.size by have := hg1.size; omega)
      go_wp2_with fail
      refine (field_ok (c.tmod 8) hc8 _).mono ?_
      rintro e w2 ⟨rfl, rfl⟩
      rw [← HM.out]
      go_wp2_with fail
      refine (generator_no hF t HB.out).mono ?_
      rintro e w2 ⟨rfl, rfl⟩
      go_wp2_with fail
      go_ret
      exact ⟨rfl, grownBy_trans hg1 (World.grownBy_alloc _ _ none)⟩
    · have h3 : (sz m : Int) < 2 * t := by omega
      clear hbad
      go_enter Tryd.func5, Tryd.ntmps5
      go_wp2_with fail
      refine (awake_ok w hG h0).mono ?_
      rintro e w1 ⟨rfl, hg1⟩
      have hF := Fld_new hem (hG.kept (hg1.block 0 h0 (by simp))) (show 0 < w1.heap.size by have := hg1.size; omega)
      go_wp2_with fail
      refine (field_ok (c.tmod 8) hc8 _).mono ?_
      rintro e w2 ⟨rfl, rfl⟩
      rw [← HM.out]
      go_wp2_with fail
      refine (generator_no hF t HB.out).mono ?_
      rintro e w2 ⟨rfl, rfl⟩
      go_wp2_with fail
      refine (size_ok hF).mono ?_
      rintro e w2 ⟨rfl, rfl⟩
      go_wp2_with fail
      go_ret
      exact ⟨rfl, grownBy_trans hg1 (World.grownBy_alloc _ _ none)⟩
  · obtain ⟨T, rfl⟩ := Int.eq_ofNat_of_zero_le (show 0 ≤ t by omega)
    have hT1 : 1 ≤ T := by omega
    have hT2 : T ≤ 8 := by omega
    have hT3 : 2 * T ≤ sz m := by omega
    have hgl := genGo_len hem (2 * T)
    have hgl' : (genS m T).length ≤ 1000 := by unfold genS; omega
    obtain ⟨hB, hL1, hLast, hRo, hRs⟩ := gen_facts hem T hT1
    obtain ⟨i0, hi, hz0, hz1, hz2⟩ := info_parts Tryd.info3
    clear hbad hgl
    have HGen : Hid (∀ {b : Nat} {w : World} (_ : Fld w b m), Calls Tryd.prog 26 #[ptr b, num (T : Nat)] w fun e w' => ∃ v, e = .returned (.tuple #[v, num 0]) ∧ Res b w' w.heap.size v (genS m T) ∧ Fld w' b m ∧ Step b w w') := fun h => generator_ok h T hT1 hT2 hT3
    obtain ⟨G, hGe⟩ : ∃ G, G = genS m T := ⟨_, rfl⟩
    rw [← hGe] at hgl' hB hL1 hLast hRo hRs HGen
    clear hGe
    have HRo : Hid _ := hRo
    have HRs : Hid _ := hRs
    have HB : Hid (Bits G) := hB
    have HLast : Hid _ := hLast
    clear hRo hRs hB hLast
    go_enter Tryd.func5, Tryd.ntmps5
    go_wp2_with fail
    refine (awake_ok w hG h0).mono ?_
    rintro e w1 ⟨rfl, hg1⟩
    have hF := Fld_new hem (hG.kept (hg1.block 0 h0 (by simp))) (show 0 < w1.heap.size by have := hg1.size; omega)
    go_wp2_with fail
    refine (field_ok (c.tmod 8) hc8 _).mono ?_
    rintro e w2 ⟨rfl, rfl⟩
    rw [← HM.out]
    go_wp2_with fail
    refine (HGen.out hF).mono ?_
    rintro e w2 ⟨v2, rfl, hR2, hF2, hs2⟩
    obtain ⟨a2, c2, rfl, hRd2⟩ := hR2.rd
    rw [ints_len]
    have hg2 := hs2.since
    have hRd2' := hRd2
    obtain ⟨g2, o2, rfl, hgb, hcell⟩ := hRd2'.resolve_left (fun e => by have := ints_len G; rw [e] at this; simp at this; omega)
    clear hR2
    go_wp2_with fail
    go_loopw [10] (fun c wr => ∃ i : Nat, i ≤ G.length ∧ c = num i ∧ ∃ n, wr = w2.drewN n) (fun c _ => G.length - (intOf c).toNat)
    case atStart => exact ⟨0, Nat.zero_le _, rfl, 0, rfl⟩
    case round =>
      obtain ⟨i, hil, rfl, n1, rfl⟩ := hrel
      by_cases hlt : i < G.length
      · have c1 : (w2.drewN n1).cell? ⟨g2, o2 + i, none⟩ = some (num (nth G i : Nat)) := by
          have := hcell i (by rw [ints_len]; exact hlt)
          rw [ints_getD] at this
          exact this
        have b1 : (i : Int) < (G.length : Int) := by omega
        have hb := HB.out i
        by_cases hz : nth G i = 0
        · rw [hz] at c1
          clear hz hb
          go_wp2_with fail
          go_roundw
          case rel => exact ⟨i + 1, by omega, by go_num, _, rfl⟩
          case measure => simp [intOf]; omega
        · have hz1 : nth G i = 1 := by omega
          rw [hz1] at c1
          clear hz hb hz1
          go_wp2_with fail
          go_roundw
          case rel => exact ⟨i + 1, by omega, by go_num, _, rfl⟩
          case measure => simp [intOf]; omega
      · obtain rfl : i = G.length := by omega
        have b1 : ¬ (G.length : Int) < (G.length : Int) := by omega
        have hF3 : Fld (w2.drewN n1) w1.heap.size m := hF2.drewN n1
        have hs3 : Step w1.heap.size w2 (w2.drewN n1) := (Step.refl _ _).drewN n1
        obtain ⟨W3, hW3⟩ : ∃ W3, W3 = w2.drewN n1 := ⟨_, rfl⟩
        rw [← hW3] at hF3 hs3 ⊢
        clear hW3
        have HEv : Hid (∀ {wr : World}, Fld wr w1.heap.size m → Step w1.heap.size w2 wr → ∀ n : Nat, 1 ≤ n → n ≤ 2 * T → Calls Tryd.prog 28 #[ptr w1.heap.size, .slice (some ⟨g2, o2, none⟩) G.length c2, num (pw m (wrapS m (n : Int)))] wr fun e w' => e = .returned (num 0) ∧ Fld w' w1.heap.size m ∧ Step w1.heap.size wr w') := fun {wr} hFr hSr n hn1 hn2 => by
          have hev := eval_ok hFr (some ⟨g2, o2, none⟩) c2 (ints G) (pw m (wrapS m (n : Int)) : Nat) (hRd2.step hSr) (by rw [ints_len]; omega)
          rw [ints_len, el_of (pw_bd hem _).2, HRo.out n hn1 hn2] at hev
          exact hev
        go_wp2_with fail
        go_loopw [11] (fun c wr => ∃ n : Nat, 1 ≤ n ∧ n ≤ 2 * T + 1 ∧ c = num n ∧ Fld wr w1.heap.size m ∧ Step w1.heap.size w2 wr) (fun c _ => 2 * T + 1 - (intOf c).toNat)
        case atStart => exact ⟨1, by omega, by omega, rfl, hF3, hs3⟩
        case round =>
          obtain ⟨n, hn1, hn2, rfl, hFr, hSr⟩ := hrel
          clear hF3 hs3
          by_cases hnl : n ≤ 2 * T
          · have hnl' : (n : Int) ≤ 2 * (T : Int) := by omega
            go_wp2_with fail
            refine (exp_ok hFr _).mono ?_
            rintro e w5 ⟨rfl, hF5, hs5⟩
            go_wp2_with fail
            refine (HEv.out hF5 (hSr.trans hs5) n hn1 hnl).mono ?_
            rintro e w6 ⟨rfl, hF6, hs6⟩
            have hS6 := hSr.trans (hs5.trans hs6)
            clear hs5 hs6 hSr
            go_wp2_with fail
            go_roundw
            case rel => exact ⟨n + 1, by omega, by omega, by go_num, hF6, hS6⟩
            case measure => simp [intOf]; omega
          · have hnl' : ¬ (n : Int) ≤ 2 * (T : Int) := by omega
            have hSn := hSr.size
            have HV : Hid (((zs (sz m + 1)).set 0 (.int .i64 1)).set (sz m) (.int .i64 1) = vals (xn m)) := by
              have e1 := vals_set (List.replicate (sz m + 1) 0) 0 1
              have e2 := vals_set ((List.replicate (sz m + 1) 0).set 0 1) (sz m) 1
              rw [← vals_zeros] at e1
              rw [← e1] at e2
              exact e2
            have hF4 := hFr.alloc (.cells ((zs (sz m + 1)).set 0 (.int .i64 1)).toArray 3)
            have hF5 := hFr.alloc (.cells (vals (xn m)).toArray 3)
            have hS5 : Step w1.heap.size w2 (wr.alloc (.cells (vals (xn m)).toArray 3)) := hSr.trans (Step.alloc hFr _)
            have hRx := Rd_new hFr (xn m)
            have hRg := hRd2.step hS5
            have hrs := rest_ok hF5 (some ⟨wr.heap.size, 0, none⟩) (some ⟨g2, o2, none⟩) (sz m + 1) c2 (ints (xn m)) (ints G) hRx hRg (by rw [ints_len, xn_len]; omega) (by rw [ints_len]; omega)
            rw [ints_len, ints_len, xn_len, HRs.out] at hrs
            have HRest : Hid (Calls Tryd.prog 25 #[ptr w1.heap.size, .slice (some ⟨wr.heap.size, 0, none⟩) (sz m + 1) (sz m + 1), .slice (some ⟨g2, o2, none⟩) G.length c2] (wr.alloc (.cells (vals (xn m)).toArray 3)) _) := hrs
            have hgl : g2 < w2.heap.size := lt_of_cell (hcell 0 (by rw [ints_len]; omega))
            have cl : (wr.alloc (.cells (((zs (sz m + 1)).set 0 (.int .i64 1)).set (sz m) (.int .i64 1)).toArray 3)).cell? ⟨g2, o2 + (G.length - 1), none⟩ = some (num 1) := by
              rw [HV.out, hS5.cell hgl hgb]
              have := hcell (G.length - 1) (by rw [ints_len]; omega)
              rw [ints_getD, HLast.out] at this
              exact this
            have g0 : (zs (sz m + 1))[0]? = some (.int .i64 0) := by simp [zs]
            have g1 : ((zs (sz m + 1)).set 0 (.int .i64 1))[sz m]? = some (.int .i64 0) := by
              rw [List.getElem?_set_ne (by omega)]
              simp [zs]
            have bl : ((G.length : Int) - 1).toNat = G.length - 1 := by omega
            have bL : (1 : Int) < (G.length : Int) := by omega
            clear hrs hRx hRg
            go_wp2_with fail
            refine (size_ok hFr).mono ?_
            rintro e w' ⟨rfl, rfl⟩
            go_wp2_with (first | (at_make; go_must (refine wpList_make_own0 _ rfl _ _ 30 rfl 3 i0 Tryd.underlying30 hi hz0 hz1 hz2 .i64 .i64 _ _ (sz m + 1) rfl rfl (by omega) (by omega) (by omega) ?_)))
            refine (size_ok hF4).mono ?_
            rintro e w5 ⟨rfl, rfl⟩
            go_wp2_with fail
            rw [HV.out]
            refine HRest.out.mono ?_
            rintro e w7 ⟨v7, rfl, hR7, hF7, hs7⟩
            obtain ⟨a7, c7, rfl, -⟩ := hR7.rd
            go_wp2_with fail
            go_ret
            exact ⟨rfl, grownBy_trans hg1 (hs2.trans (hS5.trans hs7)).since⟩
end Go.Proofs.YtkbafbhhoemkcaaDoor
