/- The walk of GfLaws: it is a field. -/
import Derived.Test.YtnpfjjnkbhkpaaaDoorLay
import Derived.Test.YtnpfjjnkbhkpaaaDoorAlg
namespace Go.Proofs.YtnpfjjnkbhkpaaaDoor
open Go.RowKit Gf
set_option maxHeartbeats 1600000 in
theorem law_GfLaws (c : Int) (hc : I64 c) (a : Int) (_ha : I64 a) (b : Int) (_hb : I64 b) (d : Int) (_hd : I64 d) (w : World) (hG : Glob w) (h0 : 0 < w.heap.size) :
    Calls Tryd.prog 7 #[num c, num a, num b, num d] w fun e w' => e = .returned (.bool true) ∧ w.grownBy w' none := by
  have hn := hnot
  have hem := pick_em c
  obtain ⟨m, hm⟩ : ∃ m, m = pickS c := ⟨_, rfl⟩
  have HM : Hid (m = pickS c) := hm
  rw [← hm] at hem
  clear hm
  obtain ⟨A, hA⟩ : ∃ A, A = el m a := ⟨_, rfl⟩
  obtain ⟨B, hB⟩ : ∃ B, B = el m b := ⟨_, rfl⟩
  obtain ⟨D, hD⟩ : ∃ D, D = el m d := ⟨_, rfl⟩
  have hAl : A ≤ sz m := by rw [hA]; exact el_le m a
  have hBl : B ≤ sz m := by rw [hB]; exact el_le m b
  have hDl : D ≤ sz m := by rw [hD]; exact el_le m d
  have HA : Hid (el m a = A) := hA.symm
  have HB : Hid (el m b = B) := hB.symm
  have HD : Hid (el m d = D) := hD.symm
  have E : ∀ {x : Nat}, x ≤ sz m → Hid (el m (x : Int) = x) := fun h => el_of h
  have HAB := E (mul_le hem A B)
  have HBD := E (mul_le hem B D)
  have HAD := E (mul_le hem A D)
  have HX := E (xor_le hBl hDl)
  have HI := E (inv_le hem A)
  have H0 : Hid (el m 0 = 0) := el_of (Nat.zero_le _)
  have H1 : Hid (el m 1 = 1) := el_of (m := m) (a := 1) (by have := sz_bd hem; omega)
  have L1 : Hid (mul m B A = mul m A B) := mul_comm m B A
  have L2 : Hid (B ^^^ A = A ^^^ B) := Nat.xor_comm B A
  have L3 : Hid (mul m (mul m A B) D = mul m A (mul m B D)) := mul_assoc hem hAl hBl hDl
  have L4 : Hid (mul m A (B ^^^ D) = mul m A B ^^^ mul m A D) := mul_xor hem hAl hBl hDl
  have L5 : Hid (mul m A 1 = A) := mul_one hem hAl
  have L6 : Hid (A ≠ 0 → mul m A (invS m A) = 1) := fun h => inv_mul hem h hAl
  have L7 : Hid (A = 0 → invS m A = 0) := fun h => by rw [h]; rfl
  have L8 : Hid (A ^^^ A = 0) := Nat.xor_self A
  clear hA hB hD E
  go_enter Tryd.func7, Tryd.ntmps7
  go_wp2_with fail
  refine (awake_ok w hG h0).mono ?_
  rintro e w1 ⟨rfl, hg1⟩
  have hF := Fld_new hem (hG.kept (hg1.block 0 h0 (by simp))) (show 0 < w1.heap.size by have := hg1.size; omega)
  go_wp2_with fail
  refine (field_ok c hc _).mono ?_
  rintro e w2 ⟨rfl, rfl⟩
  rw [← HM.out]
  go_wp2_with fail
  refine (mul_ok hF _ _).mono ?_
  rintro e w2 ⟨rfl, hF2, hs2⟩
  rw [HA.out, HB.out]
  go_wp2_with fail
  refine (mul_ok hF2 _ _).mono ?_
  rintro e w3 ⟨rfl, hF3, hs3⟩
  rw [HA.out, HB.out, L1.out]
  go_wp2_with fail
  refine (add_ok hF3 _ _).mono ?_
  rintro e w3' ⟨rfl, rfl⟩
  rw [HA.out, HB.out]
  go_wp2_with fail
  refine (add_ok hF3 _ _).mono ?_
  rintro e w3' ⟨rfl, rfl⟩
  rw [HA.out, HB.out, L2.out]
  go_wp2_with fail
  refine (mul_ok hF3 _ _).mono ?_
  rintro e w4 ⟨rfl, hF4, hs4⟩
  rw [HA.out, HB.out]
  go_wp2_with fail
  refine (mul_ok hF4 _ _).mono ?_
  rintro e w5 ⟨rfl, hF5, hs5⟩
  rw [HAB.out, HD.out, L3.out]
  go_wp2_with fail
  refine (mul_ok hF5 _ _).mono ?_
  rintro e w6 ⟨rfl, hF6, hs6⟩
  rw [HB.out, HD.out]
  go_wp2_with fail
  refine (mul_ok hF6 _ _).mono ?_
  rintro e w7 ⟨rfl, hF7, hs7⟩
  rw [HA.out, HBD.out]
  go_wp2_with fail
  refine (add_ok hF7 _ _).mono ?_
  rintro e w7' ⟨rfl, rfl⟩
  rw [HB.out, HD.out]
  go_wp2_with fail
  refine (mul_ok hF7 _ _).mono ?_
  rintro e w8 ⟨rfl, hF8, hs8⟩
  rw [HA.out, HX.out, L4.out]
  go_wp2_with fail
  refine (mul_ok hF8 _ _).mono ?_
  rintro e w9 ⟨rfl, hF9, hs9⟩
  rw [HA.out, HB.out]
  go_wp2_with fail
  refine (mul_ok hF9 _ _).mono ?_
  rintro e wa ⟨rfl, hFa, hsa⟩
  rw [HA.out, HD.out]
  go_wp2_with fail
  refine (add_ok hFa _ _).mono ?_
  rintro e wa' ⟨rfl, rfl⟩
  rw [HAB.out, HAD.out]
  go_wp2_with fail
  refine (add_ok hFa _ _).mono ?_
  rintro e wa' ⟨rfl, rfl⟩
  rw [HA.out, H0.out, Nat.xor_zero]
  have hSa := (((((((hs2.trans hs3).trans hs4).trans hs5).trans hs6).trans hs7).trans hs8).trans hs9).trans hsa
  clear hs2 hs3 hs4 hs5 hs6 hs7 hs8 hs9 hsa hF hF2 hF3 hF4 hF5 hF6 hF7 hF8 hF9
  by_cases hz : A = 0
  · have hz' : ((A : Int) == 0) = true := by simp [hz]
    have L7' : Hid (invS m A = 0) := L7.out hz
    go_wp2_with fail
    refine (inv_ok hFa _).mono ?_
    rintro e wb ⟨rfl, hFb, hsb⟩
    rw [HA.out, L7'.out]
    go_wp2_with fail
    refine (mul_ok hFb _ _).mono ?_
    rintro e wc ⟨rfl, hFc, hsc⟩
    rw [HA.out, H1.out, L5.out]
    go_wp2_with fail
    refine (add_ok hFc _ _).mono ?_
    rintro e wc' ⟨rfl, rfl⟩
    rw [HA.out, L8.out]
    go_wp2_with fail
    go_ret
    exact ⟨rfl, grownBy_trans hg1 ((hSa.trans hsb).trans hsc).since⟩
  · have hz' : ((A : Int) == 0) = false := by simp [hz]
    have hz2 : ((A : Int) != 0) = true := by simp [hz]
    have L6' : Hid (mul m A (invS m A) = 1) := L6.out hz
    clear hz
    go_wp2_with fail
    refine (inv_ok hFa _).mono ?_
    rintro e wb ⟨rfl, hFb, hsb⟩
    rw [HA.out]
    go_wp2_with fail
    refine (mul_ok hFb _ _).mono ?_
    rintro e wc ⟨rfl, hFc, hsc⟩
    rw [HA.out, HI.out, L6'.out]
    go_wp2_with fail
    refine (mul_ok hFc _ _).mono ?_
    rintro e wd ⟨rfl, hFd, hsd⟩
    rw [HA.out, H1.out, L5.out]
    go_wp2_with fail
    refine (add_ok hFd _ _).mono ?_
    rintro e wd' ⟨rfl, rfl⟩
    rw [HA.out, L8.out]
    go_wp2_with fail
    go_ret
    exact ⟨rfl, grownBy_trans hg1 (((hSa.trans hsb).trans hsc).trans hsd).since⟩
end Go.Proofs.YtnpfjjnkbhkpaaaDoor
