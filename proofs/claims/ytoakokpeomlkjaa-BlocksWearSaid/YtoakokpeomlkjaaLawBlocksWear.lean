/- Layer 7 (blocks): BlocksWear, walked. -/
import Derived.Test.YtoakokpeomlkjaaBj
namespace Go.Proofs.Ytoakokpeomlkjaa
open Go.RowKit Go.Maps
namespace Bk
/-- What holds between two rounds. -/
structure WearR (w : World) (P : Lay) (k : Nat) (wr : World) : Prop where
  pool : ∃ f c, PoolM wr P f ∧ Even (f 0) P.m c ∧ c ≤ k
  stp : Stp (fun g => w.heap.size ≤ g) w wr
set_option maxHeartbeats 3200000 in
set_option maxRecDepth 4000 in
theorem law_BlocksWear (x : Int) (hx : I64 x) (y : Int) (hy : I64 y) {w : World} : Calls Try.prog 3 #[num x, num y] w fun e w' => e = .returned (.bool true) ∧ w.grownBy w' none := by
  have HA := hide (awake_ok w)
  have HX := hide (abs_ok x hx)
  have HY := hide (abs_ok y hy)
  obtain ⟨r, hr⟩ : ∃ r : Nat, r = absS x % 20 := ⟨_, rfl⟩
  obtain ⟨n, hn⟩ : ∃ n : Nat, n = absS y % 200 := ⟨_, rfl⟩
  have hr2 : r < 20 := by omega
  have hn2 : n < 200 := by omega
  have e1 : ((absS x : Nat) : Int) % 20 = (r : Int) := by omega
  have e2 : ((absS y : Nat) : Int) % 200 = (n : Int) := by omega
  have ax := absS_le hx
  have ay := absS_le hy
  generalize absS x = X at HX e1 ax
  generalize absS y = Y at HY e2 ay
  have ax' : (X : Int) ≤ 9223372036854775807 := by omega
  have ay' : (Y : Int) ≤ 9223372036854775807 := by omega
  clear hr hn hx hy ax ay
  go_enter Try.func3, Try.ntmps3
  go_wp2_with fail
  refine HA.out.mono ?_
  rintro e w1 ⟨rfl, hg1⟩
  go_wp2_with fail
  refine (HX.out _).mono ?_
  rintro e w1 ⟨rfl, rfl⟩
  have HN : Hid (Calls Try.prog 7 #[num 1, num (1 + (r : Int))] w1 (NewPost w1 1 (1 + r))) := by
    have h := New_ok 1 (1 + r) (by decide) (by decide) (by omega) (by omega) w1
    rw [Int.natCast_add] at h
    exact h
  go_wp2_with fail
  refine HN.out.mono ?_
  rintro e w2 ⟨P, hn, hm, hHi, rfl, hg2, hP⟩
  have HHi := hide hHi
  have hle := hg1.size
  have HK := hide (fun g hg => Nat.le_trans hle (hHi.K g hg))
  have HR0 : Hid (WearR w P 0 w2) := ⟨⟨fresh, 0, hP, fun k hk => ⟨rfl, Nat.le_refl _, Nat.zero_le _⟩, Nat.le_refl _⟩, (Stp.of_grown hg1).trans (.of_grown hg2)⟩
  have hi : 0 < P.n := by omega
  have hm1 : 1 ≤ P.m := by omega
  have HM := hide hm
  clear hP hg1 hg2 HA HX HN hHi hle hn hm
  go_wp2_with fail
  go_loopw [8] (fun i wr => ∃ k : Nat, k ≤ n ∧ i = num k ∧ WearR w P k wr) (fun i _ => n - (intOf i).toNat)
  case atStart => exact ⟨0, Nat.zero_le _, rfl, HR0.out⟩
  case round =>
    obtain ⟨k, hk, rfl, hR⟩ := hrel
    obtain ⟨⟨f, c, hP, hE, hc⟩, hs⟩ := hR
    have HS := hide hs
    clear HR0 hs
    by_cases hkn : k < n
    · have q1 : (k : Int) < (n : Int) := by omega
      obtain ⟨x, hx⟩ := hE.pick hm1
      have hxm := x.2
      have H1 := hide (Take_some hP hi hx)
      have HE := hide hE
      have HX := hide hx
      have hst1 : (upd f 0 x.1 ⟨2, (f 0 x.1).er⟩ 0 x.1).st ≠ 4 := by rw [upd_same]; exact (by decide : (2 : Int) ≠ 4)
      have HS1 := hide hst1
      clear hP hE hx hst1
      go_wp2_with fail
      refine (HY.out _).mono ?_
      rintro e wr ⟨rfl, rfl⟩
      go_wp2_with fail
      refine H1.out.mono ?_
      rintro e w3 ⟨rfl, hP3, s3⟩
      have H2 := hide (Erased_in hP3 hi hxm)
      have S3 := hide (HS.out.trans (s3.more HK.out))
      clear hP3 s3 H1
      go_wp2_with fail
      refine H2.out.mono ?_
      intro e w4 hp
      obtain ⟨rfl, hP4, s4⟩ := hp.yes HS1.out
      rw [upd_same] at hP4
      have H3 := hide (Free_in hP4 hi hxm)
      have S4 := hide (S3.out.trans (s4.more HK.out))
      clear hP4 s4 H2 hp
      go_wp2_with fail
      refine H3.out.mono ?_
      intro e w5 hp
      obtain ⟨rfl, hP5, s5⟩ := hp.yes (by rw [upd_same]; exact (by decide : (2 : Int) ∈ [2, 3]))
      rw [upd_same] at hP5
      have S5 := hide (S4.out.trans (s5.more HK.out))
      obtain ⟨c', hc', hE'⟩ : ∃ c', c' ≤ c + 1 ∧ Even ((upd (upd (upd f 0 x.1 ⟨2, (f 0 x.1).er⟩) 0 x.1 ⟨2, oneMore (f 0 x.1).er⟩) 0 x.1 ⟨1, oneMore (f 0 x.1).er⟩) 0) P.m c' := by
        refine HE.out.round HX.out (by rw [upd_same]) ?_ fun j hj => ?_
        · rw [upd_same, oneMore, if_pos]
          have := (HE.out x.1 hxm).2.2
          omega
        · rw [upd_other _ (fun h => hj h.2), upd_other _ (fun h => hj h.2), upd_other _ (fun h => hj h.2)]
      have hsp := hE'.spread (by omega)
      have H4 := hide (Spread_ok hP5 (dieRow_in hP5 hi))
      have HP5 := hide hP5
      have HE5 := hide hE'
      have HC5 : Hid (c' ≤ k + 1) := by unfold Hid; omega
      clear hP5 s5 H3 hp hE' hc'
      generalize upd (upd (upd f 0 x.1 ⟨2, (f 0 x.1).er⟩) 0 x.1 ⟨2, oneMore (f 0 x.1).er⟩) 0 x.1 ⟨1, oneMore (f 0 x.1).er⟩ = f5 at hsp H4 HP5 HE5
      generalize spread (f5 0) P.m = sp at hsp H4
      have hsp' : (sp : Int) ≤ 1 := by omega
      clear hsp
      go_wp2_with fail
      refine H4.out.mono ?_
      rintro e w6 ⟨rfl, hg6⟩
      have HW : Hid (WearR w P (k + 1) w6) := ⟨⟨f5, c', HP5.out.grown hg6, HE5.out, HC5.out⟩, S5.out.trans (.of_grown hg6)⟩
      clear hg6
      go_wp2
      go_roundw
      case rel => exact ⟨k + 1, by omega, by go_num, HW.out⟩
      case measure => simp [intOf]; omega
    · obtain rfl : k = n := by omega
      have q1 : ¬ (k : Int) < (k : Int) := by omega
      have H4 := hide (Count_ok hP (dieRow_in hP hi) 1)
      have HC : Hid (cnt (f 0) P.m 1 = 1 + r) := by unfold Hid; rw [hE.cnt]; exact HM.out
      rw [HC.out] at H4
      clear hP hE HC
      go_wp2_with fail
      refine (HY.out _).mono ?_
      rintro e wr ⟨rfl, rfl⟩
      go_wp2_with fail
      refine H4.out.mono ?_
      rintro e w6 ⟨rfl, hg6⟩
      have hF : w.grownBy w6 none := grown_of_below ((HS.out.trans (.of_grown hg6)).below (Nat.le_refl _) fun _ h => h)
      have e9 : (((1 + r : Nat) : Int) == 1 + (r : Int)) = true := by simp
      have HF := hide hF
      clear hF hg6
      go_wp2
      go_ret
      exact ⟨ret_bool (by simp), HF.out⟩
end Bk
end Go.Proofs.Ytoakokpeomlkjaa
