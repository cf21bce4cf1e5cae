/- Layer 7 (blocks): BlocksPlay, walked. -/
import Derived.Test.YtoakokpeomlkjaaDoorCg
namespace Go.Proofs.YtoakokpeomlkjaaDoor
open Go.RowKit Go.Maps
namespace Bk
open Cr (Glob)
set_option maxHeartbeats 16000000 in
set_option maxRecDepth 16000 in
theorem law_BlocksPlay (x : Int) (_ : I64 x) (y : Int) (_ : I64 y) (ao : Option Addr) (len cap : Nat) (os : List OpE) {w : World} (hos : ArgO w ao len os) (hl : len ≤ 9223372036854775807) (hG : Glob w) : Calls Tryd.prog 3 #[num x, num y, .slice ao len cap] w fun e w' => e = .returned (.bool true) ∧ w.grownBy w' none := by
  have HA := hide (awake_ok w)
  have hl' : (len : Int) ≤ 9223372036854775807 := by omega
  by_cases hin : InNew x y
  · obtain ⟨n, rfl⟩ : ∃ n : Nat, x = (n : Int) := ⟨x.toNat, by have := hin.1; omega⟩
    obtain ⟨m, rfl⟩ : ∃ m : Nat, y = (m : Int) := ⟨y.toNat, by have := hin.2.2.1; omega⟩
    obtain ⟨i1, i2, i3, i4⟩ := hin
    have n1 : 1 ≤ n := by omega
    have n8 : n ≤ 8 := by omega
    have m1 : 1 ≤ m := by omega
    have m64 : m ≤ 64 := by omega
    have HOS := hide hos
    have HG := hide hG
    clear hos hG i1 i2 i3 i4
    go_enter Tryd.func3, Tryd.ntmps3
    go_wp2_with fail
    refine HA.out.mono ?_
    rintro e w1 ⟨rfl, hg1⟩
    have HN := hide (New_ok n m n1 n8 m1 m64 w1)
    go_wp2_with fail
    refine HN.out.mono ?_
    rintro e w2 ⟨P, hPn, hPm, hHi, rfl, hg2, hP⟩
    have HN2 := hide (kNew_ok n m n1 n8 m1 m64 w2)
    clear HN HA
    go_wp2_with fail
    refine HN2.out.mono ?_
    rintro e w3 ⟨R, hRn, hRm, hr1, hr2, hr3, rfl, hg3, hR⟩
    have hlw := hP.low
    have hAp : Apart P R := by
      obtain ⟨l1, l2, l3⟩ := hlw
      refine ⟨fun hk => ?_, fun hk => ?_, fun i hi hk => ?_, fun hk => ?_, fun hk => ?_, fun hk => ?_⟩
      · rcases hk with hk | hk <;> omega
      · rcases hk with hk | hk <;> omega
      · have := l3 i hi
        rcases hk with hk | hk <;> omega
      · obtain ⟨i, hi, e⟩ := hk
        have := l3 i hi
        omega
      · obtain ⟨i, hi, e⟩ := hk
        have := l3 i hi
        omega
      · obtain ⟨i, hi, e⟩ := hk
        have := l3 i hi
        omega
    have HAP := hide hAp
    have hn : R.n = P.n := hRn.trans hPn.symm
    have hm : R.m = P.m := hRm.trans hPm.symm
    have HNM : Hid (R.n = P.n ∧ R.m = P.m) := ⟨hn, hm⟩
    have hw1 := hg1.size
    have hw2 := hg2.size
    have HK : Hid (∀ g, KK P R g → w.heap.size ≤ g) := fun g hg => by
      rcases hg with hg | hg | hg
      · have := hHi.K g hg; omega
      · omega
      · omega
    have H0 : Hid ((∃ f, Two w3 P R f) ∧ Stp (fun g => w.heap.size ≤ g) w w3) := ⟨⟨_, hP.grown hg3, hR⟩, ((Stp.of_grown hg1).trans (.of_grown hg2)).trans (.of_grown hg3)⟩
    have rn8 : (R.n : Int) ≤ 8 := by omega
    have rn1 : 1 ≤ (R.n : Int) := by omega
    have rm1 : 1 ≤ (R.m : Int) := by omega
    have rm64 : (R.m : Int) ≤ 64 := by omega
    clear hlw hAp hn hm hw1 hw2 hr1 hr2 hr3 hPn hPm hRn hRm hHi hg1 hg2 hg3 hP hR HN2 n1 n8 m1 m64
    go_wp2_with fail
    go_loopw [12] (fun i wr => ∃ k : Nat, k ≤ len ∧ k ≤ 100 ∧ i = num k ∧ (∃ f, Two wr P R f) ∧ Stp (fun g => w.heap.size ≤ g) w wr) (fun i _ => 100 - (intOf i).toNat)
    case atStart => exact ⟨0, Nat.zero_le _, by omega, rfl, H0.out.1, H0.out.2⟩
    case round =>
      clear H0
      obtain ⟨k, hk, hk8, rfl, ⟨f, hT⟩, hs⟩ := hrel
      by_cases hkl : k < len
      · by_cases h80 : k < 100
        · have p1 : (k : Int) < (len : Int) := by omega
          have p2 : (k : Int) < 100 := by omega
          obtain ⟨g, off, rfl, ⟨c0, c1, c2⟩, hi⟩ := HOS.out.at hs hkl
          have HKd := hide (abs_ok _ hi.kind)
          have HD := hide (abs_ok _ hi.die)
          have HB := hide (abs_ok _ hi.block)
          have k1 := absS_le hi.kind
          have k2 := absS_le hi.die
          have k3 := absS_le hi.block
          generalize nthO os k = z at c0 c1 c2 HKd HD HB k1 k2 k3 hi
          obtain ⟨zk, zd, zb⟩ := z
          simp only at c0 c1 c2 HKd HD HB k1 k2 k3
          generalize absS zk = K at HKd k1
          generalize absS zd = D at HD k2
          generalize absS zb = Bb at HB k3
          have l1 : (K : Int) ≤ 9223372036854775807 := by omega
          have l2 : (D : Int) ≤ 9223372036854775807 := by omega
          have l3 : (Bb : Int) ≤ 9223372036854775807 := by omega
          have w1 : IntKind.i64.wrap ((R.n : Int) + 1) = (R.n : Int) + 1 := by rw [IntKind.wrap_i64]; omega
          have w2 : IntKind.i64.wrap ((R.m : Int) + 1) = (R.m : Int) + 1 := by rw [IntKind.wrap_i64]; omega
          have z1 : ¬ (R.n : Int) + 1 = 0 := by omega
          have z2 : ¬ (R.m : Int) + 1 = 0 := by omega
          obtain ⟨V, hV⟩ : ∃ V, V = wr.alloc (.cells #[num zk, num zd, num zb] 32) := ⟨_, rfl⟩
          have hgV : wr.grownBy V none := by rw [hV]; exact World.grownBy_alloc wr _ none
          have hVo : V.heap[wr.heap.size]? = some (.cells #[num zk, num zd, num zb] 32) := by rw [hV]; exact heap_alloc_new wr _
          have hTV := hT.grown hgV
          obtain ⟨bx, hbx⟩ : ∃ bx, bx = wr.heap.size := ⟨_, rfl⟩
          rw [← hbx] at hVo
          have HS0 : Hid (V.drew.cell? ⟨bx, 0, none⟩ = some (num zk) ∧ V.drew.cell? ⟨bx, 1, none⟩ = some (num zd) ∧ V.drew.cell? ⟨bx, 2, none⟩ = some (num zb) ∧ V.drew.cell? ⟨R.r, 0, none⟩ = some (num R.n) ∧ V.drew.cell? ⟨R.r, 1, none⟩ = some (num R.m)) :=
            ⟨cell_at (w := V) hVo rfl, cell_at (w := V) hVo rfl, cell_at (w := V) hVo rfl, cell_at (w := V) hTV.r.box rfl, cell_at (w := V) hTV.r.box rfl⟩
          obtain ⟨U, hU⟩ : ∃ U, U = V.drew.drew := ⟨_, rfl⟩
          have hgU : V.grownBy U none := by rw [hU]; exact grownBy_drew (grownBy_drew (grownBy_refl V none))
          have HS1 : Hid (U.cell? ⟨bx, 0, none⟩ = some (num zk) ∧ U.cell? ⟨bx, 1, none⟩ = some (num zd) ∧ U.cell? ⟨bx, 2, none⟩ = some (num zb) ∧ U.cell? ⟨R.r, 0, none⟩ = some (num R.n) ∧ U.cell? ⟨R.r, 1, none⟩ = some (num R.m)) := by rw [hU]; exact HS0.out
          have HTU := hide (hTV.grown hgU)
          have HSU := hide ((hs.trans (.of_grown hgV)).trans (.of_grown hgU))
          have HV := hide hV
          have HU := hide hU
          have HBx := hide hbx
          clear HOS hi k1 k2 k3 hV hgV hVo hTV hT hs hbx hU hgU
          go_wp2_with fail
          rw [← HV.out, ← HBx.out]
          clear HV HBx c0 c1 c2
          go_region_held3 (fun w' => w'.cell? ⟨bx, 0, none⟩ = some (num zk) ∧ w'.cell? ⟨bx, 1, none⟩ = some (num zd) ∧ w'.cell? ⟨bx, 2, none⟩ = some (num zb) ∧ w'.cell? ⟨R.r, 0, none⟩ = some (num R.n) ∧ w'.cell? ⟨R.r, 1, none⟩ = some (num R.m)) (first | assumption | exact HS0.out)
            (first | (go_at_call 9; refine (HD.out _).mono ?_; rintro e w' ⟨rfl, rfl⟩) | (go_at_call 9; refine (HKd.out _).mono ?_; rintro e w' ⟨rfl, rfl⟩))
          clear ‹_ ∧ _›
          generalize IntKind.i64.wrap ((D : Int).tmod ((R.n : Int) + 1) - IntKind.i64.wrap (((K : Int).tmod 53).tdiv 52)) = d
          go_wp2_with fail
          have HS2 : Hid (V.drew.drew.cell? ⟨bx, 0, none⟩ = some (num zk) ∧ V.drew.drew.cell? ⟨bx, 1, none⟩ = some (num zd) ∧ V.drew.drew.cell? ⟨bx, 2, none⟩ = some (num zb) ∧ V.drew.drew.cell? ⟨R.r, 0, none⟩ = some (num R.n) ∧ V.drew.drew.cell? ⟨R.r, 1, none⟩ = some (num R.m)) := HS0.out
          go_region_held3 (fun w' => w'.cell? ⟨bx, 0, none⟩ = some (num zk) ∧ w'.cell? ⟨bx, 1, none⟩ = some (num zd) ∧ w'.cell? ⟨bx, 2, none⟩ = some (num zb) ∧ w'.cell? ⟨R.r, 0, none⟩ = some (num R.n) ∧ w'.cell? ⟨R.r, 1, none⟩ = some (num R.m)) (first | assumption | exact HS2.out)
            (first | (go_at_call 9; refine (HB.out _).mono ?_; rintro e w' ⟨rfl, rfl⟩) | (go_at_call 9; refine (HKd.out _).mono ?_; rintro e w' ⟨rfl, rfl⟩))
          clear ‹_ ∧ _›
          generalize IntKind.i64.wrap ((Bb : Int).tmod ((R.m : Int) + 1) - IntKind.i64.wrap (((K : Int).tmod 59).tdiv 58)) = b
          rw [← HU.out]
          obtain ⟨s0, -, -, -, -⟩ := HS1.out
          clear HU HS0 HS1 HS2 HD HB w1 w2 z1 z2 l2 l3
          have hK8 : K % 8 = 0 ∨ K % 8 = 1 ∨ K % 8 = 2 ∨ K % 8 = 3 ∨ K % 8 = 4 ∨ K % 8 = 5 ∨ K % 8 = 6 ∨ K % 8 = 7 := by omega
          go_wp2_with fail
          refine (HKd.out _).mono ?_
          rintro e w' ⟨rfl, rfl⟩
          rcases hK8 with hK8 | hK8 | hK8 | hK8 | hK8 | hK8 | hK8 | hK8
          · have q0 : (K : Int) % 8 = 0 := by omega
            clear hK8
            have H1 := hide (step_take HAP.out HTU.out HNM.out.1 HNM.out.2 d)
            go_wp2_with fail
            refine H1.out.mono ?_
            rintro e w1 ⟨x, y, rfl, h2⟩
            have H2 := hide h2
            clear h2 H1
            go_wp2_with fail
            refine H2.out.mono ?_
            rintro e w2 ⟨rfl, hN⟩
            have HN := hide (And.intro hN.1 (HSU.out.trans (hN.2.more HK.out)))
            clear hN H2
            go_wp2_with fail
            go_roundw
            case rel => exact ⟨k + 1, by omega, by omega, by go_num, HN.out.1, HN.out.2⟩
            case measure => simp [intOf]; omega
          · have q0 : (K : Int) % 8 = 1 := by omega
            clear hK8
            have H1 := hide (step_take HAP.out HTU.out HNM.out.1 HNM.out.2 d)
            go_wp2_with fail
            refine H1.out.mono ?_
            rintro e w1 ⟨x, y, rfl, h2⟩
            have H2 := hide h2
            clear h2 H1
            go_wp2_with fail
            refine H2.out.mono ?_
            rintro e w2 ⟨rfl, hN⟩
            have HN := hide (And.intro hN.1 (HSU.out.trans (hN.2.more HK.out)))
            clear hN H2
            go_wp2_with fail
            go_roundw
            case rel => exact ⟨k + 1, by omega, by omega, by go_num, HN.out.1, HN.out.2⟩
            case measure => simp [intOf]; omega
          · have q0 : (K : Int) % 8 = 2 := by omega
            clear hK8
            have H1 := hide (step_close HAP.out HTU.out HNM.out.1 HNM.out.2 d b)
            go_wp2_with fail
            refine H1.out.mono ?_
            rintro e w1 ⟨x, rfl, h2⟩
            have H2 := hide h2
            clear h2 H1
            go_wp2_with fail
            refine H2.out.mono ?_
            rintro e w2 ⟨rfl, hN⟩
            have HN := hide (And.intro hN.1 (HSU.out.trans (hN.2.more HK.out)))
            clear hN H2
            go_wp2_with fail
            go_roundw
            case rel => exact ⟨k + 1, by omega, by omega, by go_num, HN.out.1, HN.out.2⟩
            case measure => simp [intOf]; omega
          · have q0 : (K : Int) % 8 = 3 := by omega
            clear hK8
            have H1 := hide (step_free HAP.out HTU.out HNM.out.1 HNM.out.2 d b)
            go_wp2_with fail
            refine H1.out.mono ?_
            rintro e w1 ⟨x, rfl, h2⟩
            have H2 := hide h2
            clear h2 H1
            go_wp2_with fail
            refine H2.out.mono ?_
            rintro e w2 ⟨rfl, hN⟩
            have HN := hide (And.intro hN.1 (HSU.out.trans (hN.2.more HK.out)))
            clear hN H2
            go_wp2_with fail
            go_roundw
            case rel => exact ⟨k + 1, by omega, by omega, by go_num, HN.out.1, HN.out.2⟩
            case measure => simp [intOf]; omega
          · have q0 : (K : Int) % 8 = 4 := by omega
            clear hK8
            have H1 := hide (step_free HAP.out HTU.out HNM.out.1 HNM.out.2 d b)
            go_wp2_with fail
            refine H1.out.mono ?_
            rintro e w1 ⟨x, rfl, h2⟩
            have H2 := hide h2
            clear h2 H1
            go_wp2_with fail
            refine H2.out.mono ?_
            rintro e w2 ⟨rfl, hN⟩
            have HN := hide (And.intro hN.1 (HSU.out.trans (hN.2.more HK.out)))
            clear hN H2
            go_wp2_with fail
            go_roundw
            case rel => exact ⟨k + 1, by omega, by omega, by go_num, HN.out.1, HN.out.2⟩
            case measure => simp [intOf]; omega
          · have q0 : (K : Int) % 8 = 5 := by omega
            clear hK8
            by_cases h5 : (K : Int) % 5 = 0
            · have H1 := hide (step_bad HAP.out HTU.out HNM.out.1 HNM.out.2 d b)
              go_wp2_with fail
              refine (HKd.out _).mono ?_
              rintro e w' ⟨rfl, rfl⟩
              go_wp2_with fail
              refine H1.out.mono ?_
              rintro e w1 ⟨x, rfl, h2⟩
              have H2 := hide h2
              clear h2 H1
              go_wp2_with fail
              refine H2.out.mono ?_
              rintro e w2 ⟨rfl, hN⟩
              have HN := hide (And.intro hN.1 (HSU.out.trans (hN.2.more HK.out)))
              clear hN H2
              go_wp2_with fail
              go_roundw
              case rel => exact ⟨k + 1, by omega, by omega, by go_num, HN.out.1, HN.out.2⟩
              case measure => simp [intOf]; omega
            · have HN := hide (And.intro (Exists.intro f HTU.out) HSU.out)
              go_wp2_with fail
              refine (HKd.out _).mono ?_
              rintro e w' ⟨rfl, rfl⟩
              go_wp2_with fail
              go_roundw
              case rel => exact ⟨k + 1, by omega, by omega, by go_num, HN.out.1, HN.out.2⟩
              case measure => simp [intOf]; omega
          · have q0 : (K : Int) % 8 = 6 := by omega
            clear hK8
            have H1 := hide (step_era HAP.out HTU.out HNM.out.1 HNM.out.2 d b)
            go_wp2_with fail
            refine H1.out.mono ?_
            rintro e w1 ⟨x, rfl, h2⟩
            have H2 := hide h2
            clear h2 H1
            go_wp2_with fail
            refine H2.out.mono ?_
            rintro e w2 ⟨rfl, hN⟩
            have HN := hide (And.intro hN.1 (HSU.out.trans (hN.2.more HK.out)))
            clear hN H2
            go_wp2_with fail
            go_roundw
            case rel => exact ⟨k + 1, by omega, by omega, by go_num, HN.out.1, HN.out.2⟩
            case measure => simp [intOf]; omega
          · have q0 : (K : Int) % 8 = 7 := by omega
            clear hK8
            have H1 := hide (step_hold HAP.out HTU.out HNM.out.1 HNM.out.2 d b)
            go_wp2_with fail
            refine H1.out.mono ?_
            rintro e w1 ⟨x, rfl, h2⟩
            have H2 := hide h2
            clear h2 H1
            go_wp2_with fail
            refine H2.out.mono ?_
            rintro e w2 ⟨rfl, hN⟩
            have HN := hide (And.intro hN.1 (HSU.out.trans (hN.2.more HK.out)))
            clear hN H2
            go_wp2_with fail
            go_roundw
            case rel => exact ⟨k + 1, by omega, by omega, by go_num, HN.out.1, HN.out.2⟩
            case measure => simp [intOf]; omega
        · -- a hundred
          have p2 : ¬ (k : Int) < 100 := by omega
          have p1 : (k : Int) < (len : Int) := by omega
          have hal := alike_ok hT.p hT.r HNM.out.1 HNM.out.2 (HG.out.more (grown_of_below (hs.below (Nat.le_refl _) fun _ h => h)))
          have HAl := hide hal
          have HS := hide hs
          clear hal hT hs
          go_wp2_with fail
          refine HAl.out.mono ?_
          rintro e w4 ⟨rfl, hg4⟩
          have hfin := (HS.out.trans (.of_grown hg4)).below (Nat.le_refl _) fun _ h => h
          have HFin := hide (grown_of_below hfin)
          clear HS hg4 hfin
          go_wp2
          go_ret
          exact ⟨rfl, HFin.out⟩
      · have p1 : ¬ (k : Int) < (len : Int) := by omega
        have hal := alike_ok hT.p hT.r HNM.out.1 HNM.out.2 (HG.out.more (grown_of_below (hs.below (Nat.le_refl _) fun _ h => h)))
        have HAl := hide hal
        have HS := hide hs
        clear hal hT hs
        go_wp2_with fail
        refine HAl.out.mono ?_
        rintro e w4 ⟨rfl, hg4⟩
        have hfin := (HS.out.trans (.of_grown hg4)).below (Nat.le_refl _) fun _ h => h
        have HFin := hide (grown_of_below hfin)
        clear HS hg4 hfin
        go_wp2
        go_ret
        exact ⟨rfl, HFin.out⟩
  · have HN := hide (New_no x y hin)
    have HN2 := hide (kNew_no x y hin)
    clear hin hos hG
    go_enter Tryd.func3, Tryd.ntmps3
    go_wp2_with fail
    refine HA.out.mono ?_
    rintro e w1 ⟨rfl, hg1⟩
    go_wp2_with fail
    refine (HN.out _).mono ?_
    rintro e w2 ⟨rfl, rfl⟩
    go_wp2_with fail
    refine (HN2.out _).mono ?_
    rintro e w2 ⟨rfl, rfl⟩
    go_wp2
    go_ret
    exact ⟨rfl, hg1⟩
end Bk
end Go.Proofs.YtoakokpeomlkjaaDoor
