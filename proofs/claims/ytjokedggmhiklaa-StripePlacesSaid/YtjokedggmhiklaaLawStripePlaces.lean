/- The walk of StripePlaces. -/
import Derived.Test.YtjokedggmhiklaaSj
namespace Go.Proofs.Ytjokedggmhiklaa
open Go.ChangeShapes Go.WideShapes Go.ChangeAt Go.RowKit Go.Maps
namespace Sp
theorem emod_apart {a w : Int} {i j : Nat} (hji : j < i) (hiw : (i : Int) < w) : (a + i) % w ≠ (a + j) % w := by
  intro e
  have h1 := Int.emod_eq_emod_iff_emod_sub_eq_zero.1 e
  rw [show a + (i : Int) - (a + j) = (i : Int) - j by omega, Int.emod_eq_of_lt (by omega) (by omega)] at h1
  omega
theorem placeS_in {row width : Int} (h1 : 0 ≤ row) (h2 : 2 ≤ width) (h3 : width ≤ 255) : placeS row width = width - 1 - row % width := by
  unfold placeS
  rw [if_neg (by omega)]
set_option maxHeartbeats 6400000 in
set_option maxRecDepth 4000 in
theorem law_StripePlaces (row : Int) (hrow : I64 row) (width : Int) (_hw : I64 width) {w : World} : Calls Try.prog 3 #[num row, num width] w fun e w' => e = .returned (.bool true) ∧ w.grownBy w' none := by
  have hnn := hnot
  have hmm := @run_makeMap Try.prog
  obtain ⟨r1, r2⟩ := hrow
  have HP : Hid (∀ w, Calls Try.prog 10 #[num row, num width] w fun e w' => e = .returned (num (placeS row width)) ∧ w' = w) := fun w => place_ok row width r2 w
  have HK : Hid (∀ w, Calls Try.prog 11 #[num row, num width] w fun e w' => e = .returned (num (placeS row width)) ∧ w' = w) := fun w => kplace_ok row width r2 w
  have e0 : ∀ p : Int, (p != p) = false := fun p => by simp
  by_cases h : row < 0 ∨ width < 2 ∨ 255 < width
  · go_enter Try.func3, Try.ntmps3
    go_wp2_with fail
    refine (awake_ok w).mono ?_
    rintro e w1 ⟨rfl, hg1⟩
    go_wp2_with fail
    refine (HP.out _).mono ?_
    rintro e w1 ⟨rfl, rfl⟩
    go_wp2_with fail
    refine (HK.out _).mono ?_
    rintro e w1 ⟨rfl, rfl⟩
    generalize placeS row width = p
    clear HP HK
    by_cases h1 : row < 0
    · have e1 : decide (row < 0) = true := by simpa using h1
      clear h
      go_wp2
      go_ret
      exact ⟨rfl, hg1⟩
    · have e1 : decide (row < 0) = false := by simpa using h1
      by_cases h2 : width < 2
      · have e2 : decide (width < 2) = true := by simpa using h2
        clear h
        go_wp2
        go_ret
        exact ⟨rfl, hg1⟩
      · have e2 : decide (width < 2) = false := by simpa using h2
        have h3 : 255 < width := by omega
        have e3 : decide (255 < width) = true := by simpa using h3
        clear h
        go_wp2
        go_ret
        exact ⟨rfl, hg1⟩
  · have e1 : decide (row < 0) = false := by simp; omega
    have e2 : decide (width < 2) = false := by simp; omega
    have e3 : decide (255 < width) = false := by simp; omega
    have k1 : ¬ row < 0 := by omega
    have k2 : ¬ width < 2 := by omega
    have k3 : ¬ 255 < width := by omega
    have k1' : 0 ≤ row := by omega
    obtain ⟨r, hr⟩ : ∃ r : Nat, (r : Int) = row % 1000000 := ⟨(row % 1000000).toNat, by omega⟩
    have hr2 : r < 1000000 := by omega
    have Hr : Hid (row % 1000000 = (r : Int)) := hr.symm
    obtain ⟨W, rfl⟩ : ∃ W : Nat, width = W := ⟨width.toNat, by omega⟩
    have w2 : 2 ≤ W := by omega
    have w3 : W ≤ 255 := by omega
    have HPr : Hid (∀ (i : Nat), i < W → ∀ w, Calls Try.prog 10 #[num ((r : Int) + (i : Int)), num W] w fun e w' => e = .returned (num ((W : Int) - 1 - ((r : Int) + i) % W)) ∧ w' = w) := fun i hi w => by
      have := place_ok ((r : Int) + i) W (by omega) w
      rwa [placeS_in (by omega) (by omega) (by omega)] at this
    have HA : Hid (∀ i j : Nat, i < W → j < i → (W : Int) - 1 - ((r : Int) + i) % W ≠ (W : Int) - 1 - ((r : Int) + j) % W) := fun i j hi hj e => emod_apart (a := (r : Int)) (w := W) hj (by omega) (by omega)
    have HB : Hid (∀ i : Nat, 0 ≤ (W : Int) - 1 - ((r : Int) + i) % W ∧ (W : Int) - 1 - ((r : Int) + i) % W < W) := fun i => by
      have a1 := Int.emod_nonneg ((r : Int) + i) (show (W : Int) ≠ 0 by omega)
      have a2 := Int.emod_lt_of_pos ((r : Int) + i) (show (0 : Int) < W by omega)
      omega
    have n1 : (W : Int) ≤ 255 := by omega
    have n2 : (r : Int) < 1000000 := by omega
    clear h hr
    go_enter Try.func3, Try.ntmps3
    go_wp2_with fail
    refine (awake_ok w).mono ?_
    rintro e w1 ⟨rfl, hg1⟩
    go_wp2_with fail
    refine (HP.out _).mono ?_
    rintro e w1 ⟨rfl, rfl⟩
    go_wp2_with fail
    refine (HK.out _).mono ?_
    rintro e w1 ⟨rfl, rfl⟩
    generalize placeS row W = p
    clear HP HK
    go_wp2_with (rw [Hr.out])
    have hM := met_made w1 (fun i => (W : Int) - 1 - ((r : Int) + i) % W)
    have hgw := grownBy_trans hg1 (World.grownBy_alloc w1 (.map #[] 0) none)
    have hle : w.heap.size ≤ w1.heap.size := hg1.size
    clear hmm e1 e2 e3 hg1
    go_loopw [7] (fun i wr => ∃ k : Nat, k ≤ W ∧ i = num k ∧ MetM wr w1.heap.size k (fun i => (W : Int) - 1 - ((r : Int) + i) % W) ∧ w.grownBy wr none) (fun i _ => W - (intOf i).toNat)
    case atStart => exact ⟨0, Nat.zero_le _, rfl, hM, hgw⟩
    case round =>
      clear hM hgw
      obtain ⟨k, hk, rfl, hM, hg⟩ := hrel
      by_cases hkn : k < W
      · have q1 : (k : Int) < (W : Int) := by omega
        obtain ⟨b1, b2⟩ := HB.out k
        obtain ⟨w', hrun, hM', hg'⟩ := hM.put (by omega) ⟨by show -9223372036854775808 ≤ (W : Int) - 1 - ((r : Int) + k) % W; omega, by show (W : Int) - 1 - ((r : Int) + k) % W ≤ 9223372036854775807; omega⟩ (fun j hj => HA.out k j hkn hj)
        have HPk : Hid _ := HPr.out k hkn
        have hgn : w.grownBy w' none := grown_new hg hg' hle
        generalize (W : Int) - 1 - ((r : Int) + k) % W = P at b1 b2 HPk hrun
        have f1 : decide (P < 0) = false := by simp; omega
        have HM' : Hid _ := hM'
        have HG' : Hid _ := hgn
        clear hM hg hM' hg' hgn HA HB HPr
        go_wp2_with fail
        refine (HPk.out _).mono ?_
        rintro e w5 ⟨rfl, rfl⟩
        clear HPk e0 hr2 n2
        go_wp2
        go_roundw
        case rel => exact ⟨k + 1, by omega, by go_num, HM'.out, HG'.out⟩
        case measure => simp [intOf]; omega
      · obtain rfl : k = W := by omega
        have q1 : ¬ (k : Int) < (k : Int) := by omega
        obtain ⟨n, DM, hown, _, hs, _⟩ := hM
        have hln := fun ty => hown.len (t := 24) (e := 3) Try.underlying24 ty
        rw [hs] at hln
        have e9 : ((k : Int) == (k : Int)) = true := by simp
        go_wp2
        go_ret
        exact ⟨rfl, hg⟩
end Sp
end Go.Proofs.Ytjokedggmhiklaa
