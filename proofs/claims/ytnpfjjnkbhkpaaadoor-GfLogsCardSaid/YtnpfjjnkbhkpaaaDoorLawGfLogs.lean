/- The walk of GfLogs. -/
import Derived.Test.YtnpfjjnkbhkpaaaDoorLay
import Derived.Test.YtnpfjjnkbhkpaaaDoorAlg
namespace Go.Proofs.YtnpfjjnkbhkpaaaDoor
open Go.RowKit Gf
set_option maxHeartbeats 1600000 in
theorem law_GfLogs (c : Int) (hc : I64 c) (a : Int) (_ha : I64 a) (b : Int) (_hb : I64 b) (n : Int) (_hn : I64 n) (k : Int) (_hk : I64 k) (w : World) (hG : Glob w) (h0 : 0 < w.heap.size) :
    Calls Tryd.prog 8 #[num c, num a, num b, num n, num k] w fun e w' => e = .returned (.bool true) ∧ w.grownBy w' none := by
  have hn := hnot
  have hem := pick_em c
  obtain ⟨m, hm⟩ : ∃ m, m = pickS c := ⟨_, rfl⟩
  have HM : Hid (m = pickS c) := hm
  rw [← hm] at hem
  clear hm
  have hsz := sz_bd hem
  obtain ⟨A, hA⟩ : ∃ A, A = el m a := ⟨_, rfl⟩
  obtain ⟨B, hB⟩ : ∃ B, B = el m b := ⟨_, rfl⟩
  have hAl : A ≤ sz m := by rw [hA]; exact el_le m a
  have hBl : B ≤ sz m := by rw [hB]; exact el_le m b
  have HA : Hid (el m a = A) := hA.symm
  have HB : Hid (el m b = B) := hB.symm
  clear hA hB
  have E : ∀ {x : Nat}, x ≤ sz m → Hid (el m (x : Int) = x) := fun h => el_of h
  have HAB := E (mul_le hem A B)
  have HN := E (xp_bd hem (n.tmod 100000)).2
  have HK := E (xp_bd hem (k.tmod 100000)).2
  have HPN := E (pow_le' hem A (n.tmod 100000))
  have HPK := E (pow_le' hem A (k.tmod 100000))
  have H0 : Hid (el m 0 = 0) := el_of (Nat.zero_le _)
  have L1 : Hid (xp m (n.tmod 100000 + k.tmod 100000) = mul m (xp m (n.tmod 100000)) (xp m (k.tmod 100000))) := xp_add hem _ _
  have t1 := Int.tmod_lt_of_pos n (show (0 : Int) < 100000 by decide)
  have t2 := Int.tmod_lt_of_pos k (show (0 : Int) < 100000 by decide)
  have t3 := (tmod_form n 100000 (by decide)).2.2.2
  have t4 := (tmod_form k 100000 (by decide)).2.2.2
  clear E
  go_enter Tryd.func8, Tryd.ntmps8
  go_wp2_with fail
  refine (awake_ok w hG h0).mono ?_
  rintro e w1 ⟨rfl, hg1⟩
  have hF := Fld_new hem (hG.kept (hg1.block 0 h0 (by simp))) (show 0 < w1.heap.size by have := hg1.size; omega)
  go_wp2_with fail
  refine (field_ok c hc _).mono ?_
  rintro e w2 ⟨rfl, rfl⟩
  rw [← HM.out]
  go_wp2_with fail
  refine (exp_x hF _).mono ?_
  rintro e w2 ⟨rfl, hF2, hs2⟩
  rw [L1.out]
  go_wp2_with fail
  refine (exp_x hF2 _).mono ?_
  rintro e w3 ⟨rfl, hF3, hs3⟩
  go_wp2_with fail
  refine (exp_x hF3 _).mono ?_
  rintro e w4 ⟨rfl, hF4, hs4⟩
  go_wp2_with fail
  refine (mul_ok hF4 _ _).mono ?_
  rintro e w5 ⟨rfl, hF5, hs5⟩
  rw [HN.out, HK.out]
  have hS5 := ((hs2.trans hs3).trans hs4).trans hs5
  clear hs2 hs3 hs4 hs5 hF hF2 hF3 hF4
  go_wp2_with fail
  refine (add_ok hF5 _ _).mono ?_
  rintro e w5' ⟨rfl, rfl⟩
  rw [HA.out, H0.out, Nat.xor_zero]
  by_cases hz : A = 0
  · have hz' : ((A : Int) == 0) = true := by simp [hz]
    clear hz
    go_wp2_with fail
    go_ret
    exact ⟨rfl, grownBy_trans hg1 hS5.since⟩
  have hz' : ((A : Int) == 0) = false := by simp [hz]
  go_wp2_with fail
  refine (add_ok hF5 _ _).mono ?_
  rintro e w5' ⟨rfl, rfl⟩
  rw [HB.out, H0.out, Nat.xor_zero]
  by_cases hy : B = 0
  · have hy' : ((B : Int) == 0) = true := by simp [hy]
    clear hz hy
    go_wp2_with fail
    go_ret
    exact ⟨rfl, grownBy_trans hg1 hS5.since⟩
  have hy' : ((B : Int) == 0) = false := by simp [hy]
  have La : Hid (logS m A = lg m A) := log_of hz
  have Lb : Hid (logS m B = lg m B) := log_of hy
  have Lab : Hid (logS m (mul m A B) = ((lg m A : Int) + (lg m B : Int)) % (sz m : Int)) := log_mul hem hz hy
  have Lx : Hid (xp m (lg m A) = A) := xp_lg hem hz hAl
  have Lp : Hid (powS m A (n.tmod 100000 + k.tmod 100000) = mul m (powS m A (n.tmod 100000)) (powS m A (k.tmod 100000))) := pow_add hem hz _ _
  have l1 := (lg_spec hem (show 1 ≤ A by omega) hAl).1
  have l2 := (lg_spec hem (show 1 ≤ B by omega) hBl).1
  clear hz hy
  go_wp2_with fail
  refine (mul_ok hF5 _ _).mono ?_
  rintro e w6 ⟨rfl, hF6, hs6⟩
  rw [HA.out, HB.out]
  go_wp2_with fail
  refine (log_ok hF6 _).mono ?_
  rintro e w7 ⟨rfl, hF7, hs7⟩
  rw [HAB.out, Lab.out]
  go_wp2_with fail
  refine (log_ok hF7 _).mono ?_
  rintro e w8 ⟨rfl, hF8, hs8⟩
  rw [HA.out, La.out]
  go_wp2_with fail
  refine (log_ok hF8 _).mono ?_
  rintro e w9 ⟨rfl, hF9, hs9⟩
  rw [HB.out, Lb.out]
  go_wp2_with fail
  refine (size_ok hF9).mono ?_
  rintro e w9' ⟨rfl, rfl⟩
  have hS9 := (((hS5.trans hs6).trans hs7).trans hs8).trans hs9
  clear hs6 hs7 hs8 hs9 hS5 hF5 hF6 hF7 hF8
  go_wp2_with fail
  refine (log_ok hF9 _).mono ?_
  rintro e wa ⟨rfl, hFa, hsa⟩
  rw [HA.out, La.out]
  go_wp2_with fail
  refine (exp_x hFa _).mono ?_
  rintro e wb ⟨rfl, hFb, hsb⟩
  rw [Lx.out]
  go_wp2_with fail
  refine (add_ok hFb _ _).mono ?_
  rintro e wb' ⟨rfl, rfl⟩
  rw [HA.out, H0.out, Nat.xor_zero]
  go_wp2_with fail
  refine (pow_ok hFb _ _).mono ?_
  rintro e wc ⟨rfl, hFc, hsc⟩
  rw [HA.out, Lp.out]
  go_wp2_with fail
  refine (pow_ok hFc _ _).mono ?_
  rintro e wd ⟨rfl, hFd, hsd⟩
  rw [HA.out]
  go_wp2_with fail
  refine (pow_ok hFd _ _).mono ?_
  rintro e we ⟨rfl, hFe, hse⟩
  rw [HA.out]
  go_wp2_with fail
  refine (mul_ok hFe _ _).mono ?_
  rintro e wf ⟨rfl, hFf, hsf⟩
  rw [HPN.out, HPK.out]
  go_wp2_with fail
  go_ret
  exact ⟨rfl, grownBy_trans hg1 ((((((hS9.trans hsa).trans hsb).trans hsc).trans hsd).trans hse).trans hsf).since⟩
end Go.Proofs.YtnpfjjnkbhkpaaaDoor
