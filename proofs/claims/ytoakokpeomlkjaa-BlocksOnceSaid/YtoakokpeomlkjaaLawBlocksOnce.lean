/- Layer 7 (blocks): BlocksOnce, walked. -/
import Derived.Test.YtoakokpeomlkjaaBm
namespace Go.Proofs.Ytoakokpeomlkjaa
open Go.RowKit Go.Maps
namespace Bk
set_option maxHeartbeats 8000000 in
set_option maxRecDepth 8000 in
theorem law_BlocksOnce (x : Int) (hx : I64 x) (ao : Option Addr) (len cap : Nat) (xs : List Int) {w : World} (hxs : Arg w ao len xs) (hl : len ≤ 9223372036854775807) : Calls Try.prog 4 #[num x, .slice ao len cap] w fun e w' => e = .returned (.bool true) ∧ w.grownBy w' none := by
  have HA := hide (awake_ok w)
  have HX := hide (abs_ok x hx)
  obtain ⟨m, hm⟩ : ∃ m : Nat, m = 1 + absS x % 10 := ⟨_, rfl⟩
  have m1 : 1 ≤ m := by omega
  have m10 : m ≤ 10 := by omega
  have e1 : 1 + ((absS x : Nat) : Int) % 10 = (m : Int) := by omega
  have ax := absS_le hx
  generalize absS x = X at HX e1 ax
  have ax' : (X : Int) ≤ 9223372036854775807 := by omega
  have hl' : (len : Int) ≤ 9223372036854775807 := by omega
  have mm : (m : Int) ≤ 10 := by omega
  have hmm := @run_makeMap Try.prog
  clear hm hx ax
  go_enter Try.func4, Try.ntmps4
  go_wp2_with fail
  refine HA.out.mono ?_
  rintro e w1 ⟨rfl, hg1⟩
  go_wp2_with fail
  refine (HX.out _).mono ?_
  rintro e w1 ⟨rfl, rfl⟩
  have HN := hide (New_ok 2 m (by decide) (by decide) m1 (by omega) w1)
  go_wp2_with fail
  refine HN.out.mono ?_
  rintro e w2 ⟨P, hn, hm, hHi, rfl, hg2, hP⟩
  clear e1 HN
  subst hm
  have hlow := hP.low
  obtain ⟨B, hB⟩ : ∃ B, B = w2.heap.size := ⟨_, rfl⟩
  have hst0 : ∀ j, j < P.m → (fresh 1 j).st = 1 ∨ (fresh 1 j).st = 2 ∨ (fresh 1 j).st = 4 := fun _ _ => .inl rfl
  have g12 := grownBy_trans hg1 hg2
  have hR0 : OnceR w P B 0 fresh ((w2.alloc (.map #[] 0)).alloc (.map #[] 0)) := by
    have hA := SetM.made w2 (r := fresh 1) (m := P.m) (s := 2) (fun _ _ => by show (1 : Int) ≠ 2; decide)
    have hC := SetM.made (w2.alloc (.map #[] 0)) (r := fresh 1) (m := P.m) (s := 4) (fun _ _ => by show (1 : Int) ≠ 4; decide)
    rw [World.size_alloc] at hC
    rw [hB]
    exact ⟨hP.grown (grownBy_alloc' (World.grownBy_alloc w2 _ none) _), hlow, hst0, fun _ => rfl, hA.kept (Below.heap_alloc _ _ _ hA.lt), hC, (Stp.of_grown g12).trans (.of_grown (grownBy_alloc' (World.grownBy_alloc w2 _ none) _)), ⟨by have := hg1.size; have := hHi.1; omega, by have := hg1.size; have := hHi.2.1; omega, fun i hi => by have := hg1.size; have := hHi.2.2 i hi; omega⟩, g12.size⟩
  obtain ⟨W0, hW0⟩ : ∃ W0, W0 = (w2.alloc (.map #[] 0)).alloc (.map #[] 0) := ⟨_, rfl⟩
  rw [← hW0] at hR0
  have HW0 := hide hW0
  have HB := hide hB
  have HR0 := hide hR0
  have hpn : 1 < P.n := by omega
  have hp0 : 0 < P.n := by omega
  have m64 : P.m ≤ 64 := by omega
  have HXS := hide hxs
  clear hP hg1 hg2 g12 HA HX hHi hlow hst0 hn hB hW0 hR0 hxs
  go_wp2_with fail
  rw [← HW0.out, ← HB.out]
  go_loopw [10] (fun i wr => ∃ k : Nat, k ≤ len ∧ k ≤ 80 ∧ i = num k ∧ ∃ f, OnceR w P B k f wr) (fun i _ => 80 - (intOf i).toNat)
  case atStart => exact ⟨0, Nat.zero_le _, by omega, rfl, _, HR0.out⟩
  case round =>
    clear HR0 HW0 HB hmm
    obtain ⟨k, hk, hk8, rfl, f, hR⟩ := hrel
    by_cases hkl : k < len
    · by_cases h80 : k < 80
      · have p1 : (k : Int) < (len : Int) := by omega
        have p2 : (k : Int) < 80 := by omega
        obtain ⟨g, off, rfl, hc, hv⟩ := HXS.out.at hR.stp hkl
        have HV := hide (abs_ok (nthI xs k) hv)
        have hKl := absS_le hv
        generalize nthI xs k = v at hc HV hKl hv
        generalize absS v = K at HV hKl
        have hK9 : (K : Int) ≤ 9223372036854775807 := by omega
        have hK4 : K % 4 = 0 ∨ K % 4 = 1 ∨ K % 4 = 2 ∨ K % 4 = 3 := by omega
        clear HXS hv hKl
        rcases hK4 with hK4 | hK4 | hK4 | hK4
        · skip
          have q0 : (K : Int) % 4 = 0 := by omega
          cases hpk : pick (f 1) P.m with
          | some y =>
            obtain ⟨hys, _⟩ := pick_some hpk
            have hym := y.2
            have H1 := hide (Take_some hR.pool (i := 1) hpn hpk)
            have HR := hide hR
            have HYS := hide hys
            have d2 : decide ((f 1 y.1).st = 2) = false := by rw [hys]; decide
            have d4 : decide ((f 1 y.1).st = 4) = false := by rw [hys]; decide
            have D2 := hide d2
            have D4 := hide d4
            clear hR hys d2 d4 hpk hK4
            go_wp2_with fail
            refine (HV.out _).mono ?_
            rintro e wr ⟨rfl, rfl⟩
            go_wp2_with fail
            refine H1.out.mono ?_
            rintro e w3 ⟨rfl, hP3, s3⟩
            obtain ⟨v1, hv1⟩ := (HR.out.held.kept (s3.same _ HR.out.held.lt (not_K HR.out.low (Nat.le_refl _)))).look hym m64
            obtain ⟨v2, hv2⟩ := (HR.out.bad.kept (s3.same _ HR.out.bad.lt (not_K HR.out.low (by omega)))).look hym m64
            rw [D2.out] at hv1
            rw [D4.out] at hv2
            obtain ⟨w4, hput, hR4⟩ := HR.out.take (by omega) hym HYS.out hP3 s3
            have HR4 := hide hR4
            clear hP3 s3 hR4 H1 HR D2 D4
            go_wp2
            go_roundw
            case rel => exact ⟨k + 1, by omega, by omega, by go_num, _, HR4.out⟩
            case measure => simp [intOf]; omega
          | none =>
            have hno := pick_none hpk
            have H1 := hide (Take_none hR.pool (i := 1) hpn hpk)
            have HR := hide hR
            have hsum := hR.sum
            rw [cnt_none hno] at hsum
            have hc2 := cnt_le (r := f 1) (m := P.m) (s := 2)
            have hc4 := cnt_le (r := f 1) (m := P.m) (s := 4)
            clear hR hno hpk hK4
            go_wp2_with fail
            refine (HV.out _).mono ?_
            rintro e wr ⟨rfl, rfl⟩
            go_wp2_with fail
            refine H1.out.mono ?_
            rintro e w3 ⟨rfl, hP3, s3⟩
            have hR3 := HR.out.still hP3 s3
            obtain ⟨v1, hv1⟩ := hR3.held.look (k := 0) (by omega) m64
            obtain ⟨v2, hv2⟩ := hR3.bad.look (k := 0) (by omega) m64
            have hl1 := fun ty => hR3.held.len ty
            have hl2 := fun ty => hR3.bad.len ty
            have HR3 := hide (hR3.more (k' := k + 1) (by omega))
            generalize decide ((f 1 0).st = 2) = b2 at hv1
            generalize decide ((f 1 0).st = 4) = b4 at hv2
            generalize cnt (f 1) P.m 2 = c2 at hsum hl1 hc2
            generalize cnt (f 1) P.m 4 = c4 at hsum hl2 hc4
            have e9 : ((c2 : Int) + (c4 : Int) != (P.m : Int)) = false := by simp; omega
            have i2 : (c2 : Int) ≤ 64 := by omega
            have i4 : (c4 : Int) ≤ 64 := by omega
            replace hv1 : (Instr.lookup 34 (.map (some B)) (num 0) true).run Try.prog w3 = .ok (.tuple #[num v1, .bool b2]) w3 := hv1
            replace hv2 : (Instr.lookup 34 (.map (some (B + 1))) (num 0) true).run Try.prog w3 = .ok (.tuple #[num v2, .bool b4]) w3 := hv2
            clear hP3 s3 hR3 H1 HR hsum hc2 hc4
            go_wp2
            go_roundw
            case rel => exact ⟨k + 1, by omega, by omega, by go_num, _, HR3.out⟩
            case measure => simp [intOf]; omega
        · skip
          have q0 : (K : Int) % 4 = 1 := by omega
          cases hpk : pick (f 1) P.m with
          | some y =>
            obtain ⟨hys, _⟩ := pick_some hpk
            have hym := y.2
            have H1 := hide (Take_some hR.pool (i := 1) hpn hpk)
            have HR := hide hR
            have HYS := hide hys
            have d2 : decide ((f 1 y.1).st = 2) = false := by rw [hys]; decide
            have d4 : decide ((f 1 y.1).st = 4) = false := by rw [hys]; decide
            have D2 := hide d2
            have D4 := hide d4
            clear hR hys d2 d4 hpk hK4
            go_wp2_with fail
            refine (HV.out _).mono ?_
            rintro e wr ⟨rfl, rfl⟩
            go_wp2_with fail
            refine H1.out.mono ?_
            rintro e w3 ⟨rfl, hP3, s3⟩
            obtain ⟨v1, hv1⟩ := (HR.out.held.kept (s3.same _ HR.out.held.lt (not_K HR.out.low (Nat.le_refl _)))).look hym m64
            obtain ⟨v2, hv2⟩ := (HR.out.bad.kept (s3.same _ HR.out.bad.lt (not_K HR.out.low (by omega)))).look hym m64
            rw [D2.out] at hv1
            rw [D4.out] at hv2
            obtain ⟨w4, hput, hR4⟩ := HR.out.take (by omega) hym HYS.out hP3 s3
            have HR4 := hide hR4
            clear hP3 s3 hR4 H1 HR D2 D4
            go_wp2
            go_roundw
            case rel => exact ⟨k + 1, by omega, by omega, by go_num, _, HR4.out⟩
            case measure => simp [intOf]; omega
          | none =>
            have hno := pick_none hpk
            have H1 := hide (Take_none hR.pool (i := 1) hpn hpk)
            have HR := hide hR
            have hsum := hR.sum
            rw [cnt_none hno] at hsum
            have hc2 := cnt_le (r := f 1) (m := P.m) (s := 2)
            have hc4 := cnt_le (r := f 1) (m := P.m) (s := 4)
            clear hR hno hpk hK4
            go_wp2_with fail
            refine (HV.out _).mono ?_
            rintro e wr ⟨rfl, rfl⟩
            go_wp2_with fail
            refine H1.out.mono ?_
            rintro e w3 ⟨rfl, hP3, s3⟩
            have hR3 := HR.out.still hP3 s3
            obtain ⟨v1, hv1⟩ := hR3.held.look (k := 0) (by omega) m64
            obtain ⟨v2, hv2⟩ := hR3.bad.look (k := 0) (by omega) m64
            have hl1 := fun ty => hR3.held.len ty
            have hl2 := fun ty => hR3.bad.len ty
            have HR3 := hide (hR3.more (k' := k + 1) (by omega))
            generalize decide ((f 1 0).st = 2) = b2 at hv1
            generalize decide ((f 1 0).st = 4) = b4 at hv2
            generalize cnt (f 1) P.m 2 = c2 at hsum hl1 hc2
            generalize cnt (f 1) P.m 4 = c4 at hsum hl2 hc4
            have e9 : ((c2 : Int) + (c4 : Int) != (P.m : Int)) = false := by simp; omega
            have i2 : (c2 : Int) ≤ 64 := by omega
            have i4 : (c4 : Int) ≤ 64 := by omega
            replace hv1 : (Instr.lookup 34 (.map (some B)) (num 0) true).run Try.prog w3 = .ok (.tuple #[num v1, .bool b2]) w3 := hv1
            replace hv2 : (Instr.lookup 34 (.map (some (B + 1))) (num 0) true).run Try.prog w3 = .ok (.tuple #[num v2, .bool b4]) w3 := hv2
            clear hP3 s3 hR3 H1 HR hsum hc2 hc4
            go_wp2
            go_roundw
            case rel => exact ⟨k + 1, by omega, by omega, by go_num, _, HR3.out⟩
            case measure => simp [intOf]; omega
        · skip
          have q0 : (K : Int) % 4 = 2 := by omega
          obtain ⟨K4, hk4⟩ : ∃ K4 : Nat, K4 = K / 4 := ⟨_, rfl⟩
          obtain ⟨b, hb⟩ : ∃ b : Nat, b = K4 % P.m := ⟨_, rfl⟩
          have hbm : b < P.m := by rw [hb]; exact Nat.mod_lt _ (by omega)
          have d1 : (K : Int) / 4 = (K4 : Int) := by omega
          have d2 : (K4 : Int) % (P.m : Int) = (b : Int) := by rw [hb]; exact (Int.natCast_emod K4 P.m).symm
          have d3 : ¬ (P.m : Int) = 0 := by omega
          have d4 : (K4 : Int) ≤ 9223372036854775807 := by omega
          clear hk4 hb hK4
          have hst := hR.st b hbm
          obtain ⟨v1, hv1⟩ := hR.held.look hbm m64
          have H2 := hide (Free_in hR.pool (i := 1) hpn hbm)
          have HR := hide hR
          clear hR
          by_cases hs : (f 1 b).st = 2
          · rw [hs] at hv1
            have HS := hide hs
            replace hv1 : (Instr.lookup 34 (.map (some B)) (num (b : Int)) true).run Try.prog wr = .ok (.tuple #[num v1, .bool true]) wr := hv1
            clear hst hs
            go_wp2_with fail
            refine (HV.out _).mono ?_
            rintro e wr ⟨rfl, rfl⟩
            go_wp2_with fail
            refine H2.out.mono ?_
            intro e w3 hp
            obtain ⟨rfl, hP3, s3⟩ := hp.yes (by rw [HS.out]; decide)
            obtain ⟨w4, hdel, hR4⟩ := HR.out.free hbm (fun j => upd_zero _ j) (upd_row _) (.inl (by rw [upd_at])) (by rw [upd_at, HS.out]; exact (by decide : (1 : Int) = 4 ↔ (2 : Int) = 4)) hP3 s3 0
            have HR4 := hide (hR4.more (k' := k + 1) (by omega))
            clear hP3 s3 hR4 H2 HR hp hv1
            go_wp2
            go_roundw
            case rel => exact ⟨k + 1, by omega, by omega, by go_num, _, HR4.out⟩
            case measure => simp [intOf]; omega
          · have hs2 : (f 1 b).st = 1 ∨ (f 1 b).st = 4 := by
              rcases hst with e | e | e
              · exact .inl e
              · exact absurd e hs
              · exact .inr e
            have HS := hide hs2
            have dd : decide ((f 1 b).st = 2) = false := by simpa using hs
            rw [dd] at hv1
            clear hst hs hs2 dd
            go_wp2_with fail
            refine (HV.out _).mono ?_
            rintro e wr ⟨rfl, rfl⟩
            go_wp2_with fail
            refine H2.out.mono ?_
            intro e w3 hp
            obtain ⟨rfl, hP3, s3⟩ := hp.no (by rcases HS.out with e | e <;> rw [e] <;> decide)
            obtain ⟨w4, hdel, hR4⟩ := HR.out.free hbm (fun _ => rfl) (fun _ _ => rfl) HS.out Iff.rfl hP3 s3 0
            have HR4 := hide (hR4.more (k' := k + 1) (by omega))
            clear hP3 s3 hR4 H2 HR hp hv1
            go_wp2
            go_roundw
            case rel => exact ⟨k + 1, by omega, by omega, by go_num, _, HR4.out⟩
            case measure => simp [intOf]; omega
        · skip
          have q0 : (K : Int) % 4 = 3 := by omega
          obtain ⟨K4, hk4⟩ : ∃ K4 : Nat, K4 = K / 4 := ⟨_, rfl⟩
          obtain ⟨b, hb⟩ : ∃ b : Nat, b = K4 % P.m := ⟨_, rfl⟩
          have hbm : b < P.m := by rw [hb]; exact Nat.mod_lt _ (by omega)
          have d1 : (K : Int) / 4 = (K4 : Int) := by omega
          have d2 : (K4 : Int) % (P.m : Int) = (b : Int) := by rw [hb]; exact (Int.natCast_emod K4 P.m).symm
          have d3 : ¬ (P.m : Int) = 0 := by omega
          have d4 : (K4 : Int) ≤ 9223372036854775807 := by omega
          clear hk4 hb hK4
          have hst := hide (hR.st b hbm)
          have H2 := hide (Bad_in hR.pool (i := 1) hpn hbm)
          have HR := hide hR
          clear hR
          go_wp2_with fail
          refine (HV.out _).mono ?_
          rintro e wr ⟨rfl, rfl⟩
          go_wp2_with fail
          refine H2.out.mono ?_
          intro e w3 hp
          obtain ⟨rfl, hP3, s3⟩ := hp.yes (by rcases hst.out with e | e | e <;> rw [e] <;> decide)
          obtain ⟨w4, w5, hdel, hput, hR5⟩ := HR.out.spoil (by omega) hbm hP3 s3 0
          have HR5 := hide hR5
          clear hP3 s3 hR5 H2 HR hp hst
          go_wp2
          go_roundw
          case rel => exact ⟨k + 1, by omega, by omega, by go_num, _, HR5.out⟩
          case measure => simp [intOf]; omega
      · obtain rfl : k = 80 := by omega
        have p1 : ((80 : Nat) : Int) < (len : Int) := by omega
        have H1 := hide (Count_ok hR.pool (dieRow_in hR.pool (i := 1) hpn) 1)
        have HR := hide hR
        have hsum := hR.sum
        have hc2 := cnt_le (r := f 1) (m := P.m) (s := 2)
        have hc4 := cnt_le (r := f 1) (m := P.m) (s := 4)
        generalize cnt (f 1) P.m 1 = c1 at H1 hsum
        clear hR
        go_wp2_with fail
        refine H1.out.mono ?_
        rintro e w6 ⟨rfl, hg6⟩
        have hl1 := fun ty => (HR.out.held.kept (hg6.block _ HR.out.held.lt (by simp))).len ty
        have hl2 := fun ty => (HR.out.bad.kept (hg6.block _ HR.out.bad.lt (by simp))).len ty
        generalize cnt (f 1) P.m 2 = c2 at hsum hl1 hc2
        generalize cnt (f 1) P.m 4 = c4 at hsum hl2 hc4
        have hP6 := HR.out.pool.grown hg6
        have H0 := hide (Count_ok hP6 (dieRow_in hP6 (i := 0) hp0) 1)
        have H00 : Hid (cnt (f 0) P.m 1 = P.m) := cnt_all fun j _ => by rw [HR.out.zero j]
        rw [H00.out] at H0
        have e9 : ((c1 : Int) == (P.m : Int) - (c2 : Int) - (c4 : Int)) = true := by simp; omega
        have HG := hide (HR.out.stp.trans (.of_grown hg6))
        have i1 : (c1 : Int) ≤ 64 := by omega
        have i2 : (c2 : Int) ≤ 64 := by omega
        have i4 : (c4 : Int) ≤ 64 := by omega
        clear hP6 hg6 hsum hc2 hc4 H1
        go_wp2_with fail
        refine H0.out.mono ?_
        rintro e w7 ⟨rfl, hg7⟩
        have HF : Hid (w.grownBy w7 none) := grown_of_below ((HG.out.trans (.of_grown hg7)).below (Nat.le_refl _) fun _ h => h)
        clear hg7
        go_wp2
        go_ret
        exact ⟨ret_bool (by simp), HF.out⟩
    · obtain rfl : k = len := by omega
      have p1 : ¬ (k : Int) < (k : Int) := by omega
      have H1 := hide (Count_ok hR.pool (dieRow_in hR.pool (i := 1) hpn) 1)
      have HR := hide hR
      have hsum := hR.sum
      have hc2 := cnt_le (r := f 1) (m := P.m) (s := 2)
      have hc4 := cnt_le (r := f 1) (m := P.m) (s := 4)
      generalize cnt (f 1) P.m 1 = c1 at H1 hsum
      clear hR
      go_wp2_with fail
      refine H1.out.mono ?_
      rintro e w6 ⟨rfl, hg6⟩
      have hl1 := fun ty => (HR.out.held.kept (hg6.block _ HR.out.held.lt (by simp))).len ty
      have hl2 := fun ty => (HR.out.bad.kept (hg6.block _ HR.out.bad.lt (by simp))).len ty
      generalize cnt (f 1) P.m 2 = c2 at hsum hl1 hc2
      generalize cnt (f 1) P.m 4 = c4 at hsum hl2 hc4
      have hP6 := HR.out.pool.grown hg6
      have H0 := hide (Count_ok hP6 (dieRow_in hP6 (i := 0) hp0) 1)
      have H00 : Hid (cnt (f 0) P.m 1 = P.m) := cnt_all fun j _ => by rw [HR.out.zero j]
      rw [H00.out] at H0
      have e9 : ((c1 : Int) == (P.m : Int) - (c2 : Int) - (c4 : Int)) = true := by simp; omega
      have HG := hide (HR.out.stp.trans (.of_grown hg6))
      have i1 : (c1 : Int) ≤ 64 := by omega
      have i2 : (c2 : Int) ≤ 64 := by omega
      have i4 : (c4 : Int) ≤ 64 := by omega
      clear hP6 hg6 hsum hc2 hc4 H1
      go_wp2_with fail
      refine H0.out.mono ?_
      rintro e w7 ⟨rfl, hg7⟩
      have HF : Hid (w.grownBy w7 none) := grown_of_below ((HG.out.trans (.of_grown hg7)).below (Nat.le_refl _) fun _ h => h)
      clear hg7
      go_wp2
      go_ret
      exact ⟨ret_bool (by simp), HF.out⟩
end Bk
end Go.Proofs.Ytoakokpeomlkjaa
