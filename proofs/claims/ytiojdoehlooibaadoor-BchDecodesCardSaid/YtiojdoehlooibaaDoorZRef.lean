/- The document's own answers (firkinref01): In, Poly, Mul, exp, Turn, Exp: each is the plain function. -/
import Derived.Test.YtiojdoehlooibaaDoorZAlg
namespace Go.Proofs.YtiojdoehlooibaaDoor
open Go.RowKit
namespace Gf
set_option maxHeartbeats 400000 in
theorem rIn_ok {m : Nat} (hm : Em m) (a : Int) (w : World) : Calls Tryd.prog 78 #[num m, num a] w fun e w' => e = .returned (num (el m a)) ∧ w' = w := by
  have h1 : (2 : Int) ≤ m := by have := hm.1; omega
  have h2 : (m : Int) ≤ 13 := by have := hm.2; omega
  have hsh := shl_one hm
  have hs := sz_succ m
  have hp := two_pow_le hm
  rw [show ((2 ^ m : Nat) : Int) = (sz m : Int) + 1 by omega] at hsh
  by_cases ha : a < 0
  · have HE : Hid (el m a = 0) := by unfold el; rw [if_pos (.inl ha)]; rfl
    go_enter Tryd.func78, Tryd.ntmps78
    go_wp2
    go_ret
    exact ⟨ret_int (by rw [HE.out]; rfl), rfl⟩
  by_cases hb : (sz m : Int) + 1 ≤ a
  · have HE : Hid (el m a = 0) := by unfold el; rw [if_pos (.inr (by omega))]; rfl
    go_enter Tryd.func78, Tryd.ntmps78
    go_wp2
    go_ret
    exact ⟨ret_int (by rw [HE.out]; rfl), rfl⟩
  · have HE : Hid ((el m a : Int) = a) := by unfold el; rw [if_neg (by omega)]; simp only [Hid]; omega
    go_enter Tryd.func78, Tryd.ntmps78
    go_wp2
    go_ret
    exact ⟨ret_int HE.out.symm, rfl⟩
set_option maxHeartbeats 1600000 in
theorem rPoly_ok {m : Nat} (hm : Em m) (w : World) : Calls Tryd.prog 79 #[num m] w fun e w' => e = .returned (num (poly m)) ∧ w' = w := by
  rcases hm.cases with rfl | rfl | rfl | rfl | rfl | rfl | rfl | rfl | rfl | rfl | rfl | rfl
  all_goals
    go_enter Tryd.func79, Tryd.ntmps79
    go_wp2
    try rw [Exit.noGoto_ret]
    go_ret
    exact ⟨rfl, rfl⟩
/-- The product by the first i bits of b. -/
def rm (m a b : Nat) : Nat → Nat
  | 0 => 0
  | i + 1 => rm m a b i ^^^ (if b / 2 ^ i % 2 = 1 then sh m i a else 0)
theorem pw_low {m : Nat} (h : Em m) : ∀ j, j < m → pw m j = 2 ^ j
  | 0, _ => rfl
  | j + 1, hj => by
    rw [pw_succ, pw_low h j (by omega), x2, if_neg]
    · rw [Nat.pow_succ]; omega
    · have := sz_succ m
      have h2 : 2 ^ (j + 1) ≤ 2 ^ (m - 1) := Nat.pow_le_pow_right (by decide) (by omega)
      have h3 : 2 ^ m = 2 * 2 ^ (m - 1) := by
        conv => lhs; rw [show m = (m - 1) + 1 by omega]
        rw [Nat.pow_succ]; omega
      rw [Nat.pow_succ] at h2
      have := Nat.two_pow_pos (m - 1)
      omega
theorem xor_top_bit (x i : Nat) (hx : x < 2 ^ i) : x ^^^ 2 ^ i = x + 2 ^ i := by
  have := Nat.two_pow_add_eq_or_of_lt hx 1
  simp at this
  rw [Nat.add_comm, this]
  apply Nat.eq_of_testBit_eq
  intro j
  simp only [Nat.testBit_xor, Nat.testBit_or, Nat.testBit_two_pow]
  by_cases e : i = j
  · subst e
    simp [Nat.testBit_lt_two_pow hx]
  · simp [e]
theorem rm_eq {m a b : Nat} (h : Em m) (ha : a ≤ sz m) (i : Nat) (hi : i ≤ m) : rm m a b i = mul m a (b % 2 ^ i) := by
  have hs := sz_succ m
  induction i with
  | zero => simp [rm, Nat.mod_one, mul_zero]
  | succ i ih =>
    have hp := Nat.two_pow_pos i
    have hlt : b % 2 ^ i < 2 ^ i := Nat.mod_lt _ hp
    have hle : 2 ^ (i + 1) ≤ 2 ^ m := Nat.pow_le_pow_right (by decide) hi
    rw [Nat.pow_succ] at hle
    rw [rm, ih (by omega)]
    have e : b % 2 ^ (i + 1) = b % 2 ^ i + 2 ^ i * (b / 2 ^ i % 2) := by
      rw [Nat.pow_succ, Nat.mod_mul]
    by_cases hb : b / 2 ^ i % 2 = 1
    · rw [if_pos hb, e, hb, Nat.mul_one, ← xor_top_bit _ _ hlt, mul_xor h ha (by omega) (by omega)]
      congr 1
      rw [← pw_low h i (by omega), mul_comm, mul_sh h i ha]
    · have hb0 : b / 2 ^ i % 2 = 0 := by omega
      rw [if_neg hb, e, hb0]
      simp
theorem rm_end {m a b : Nat} (h : Em m) (ha : a ≤ sz m) (hb : b ≤ sz m) : rm m a b m = mul m a b := by
  have hs := sz_succ m
  rw [rm_eq h ha m (Nat.le_refl _), Nat.mod_eq_of_lt (by omega)]
theorem rm_le {m a b : Nat} (h : Em m) (ha : a ≤ sz m) (i : Nat) : rm m a b i ≤ sz m := by
  induction i with
  | zero => exact Nat.zero_le _
  | succ i ih =>
    rw [rm]
    apply xor_le ih
    split
    · exact sh_le h i ha
    · exact Nat.zero_le _
theorem x2_val {m a : Nat} (hm : Em m) (ha : a ≤ sz m) : ((sz m : Int) + 1 ≤ (a : Int) * 2 → bits .xor .i64 ((a : Int) * 2) (poly m : Int) = (x2 m a : Int)) ∧ ((a : Int) * 2 < (sz m : Int) + 1 → ((a : Int) * 2) = (x2 m a : Int)) := by
  have hb := sz_bd hm
  have hq := poly_form hm
  have := two_pow_le hm
  constructor
  · intro h
    have e : (a : Int) * 2 = ((2 * a : Nat) : Int) := by omega
    rw [e, xor_i64 _ _ (by omega) (by omega), x2, if_pos (by omega)]
  · intro h
    rw [x2, if_neg (by omega)]; omega
theorem and_bit (b i : Nat) (hb : b ≤ 8191) : (bits .and .i64 ((b : Int) / 2 ^ i) 1 == 1) = decide (b / 2 ^ i % 2 = 1) := by
  have e : ((b : Int) / 2 ^ i) = ((b / 2 ^ i : Nat) : Int) := by simp
  have hle : b / 2 ^ i ≤ b := Nat.div_le_self _ _
  have h := (bits_nat .i64 62 (by decide) (fun n h1 h2 => by
    have h3 : n < 4611686018427387904 := by simpa using h2
    rw [IntKind.wrap_i64]; omega) (b / 2 ^ i) 1 (by omega) (by decide)).1
  rw [e]
  have h' : bits .and .i64 ((b / 2 ^ i : Nat) : Int) 1 = ((b / 2 ^ i &&& 1 : Nat) : Int) := h
  rw [h', Nat.and_one_is_mod]
  rcases Nat.mod_two_eq_zero_or_one (b / 2 ^ i) with h0 | h0 <;> rw [h0] <;> rfl
theorem rm_yes {m a b : Nat} (h : Em m) (ha : a ≤ sz m) (hb : b ≤ 8191) (i : Nat) (hh : (bits .and .i64 ((b : Int) / 2 ^ i) 1 == 1) = true) : bits .xor .i64 (rm m a b i : Int) (sh m i a : Int) = (rm m a b (i + 1) : Int) := by
  have hz := sz_bd h
  rw [and_bit b i hb, decide_eq_true_eq] at hh
  rw [rm, if_pos hh]
  exact xor_i64 _ _ (by have := rm_le (b := b) h ha i; omega) (by have := sh_le h i ha; omega)
theorem rm_no {m a b : Nat} (hb : b ≤ 8191) (i : Nat) (hh : (bits .and .i64 ((b : Int) / 2 ^ i) 1 == 1) = false) : (rm m a b i : Int) = (rm m a b (i + 1) : Int) := by
  rw [and_bit b i hb, decide_eq_false_iff_not] at hh
  rw [rm, if_neg hh, Nat.xor_zero]
set_option maxHeartbeats 800000 in
theorem rMul_ok {m : Nat} (hm : Em m) (a b : Int) (w : World) : Calls Tryd.prog 64 #[num m, num a, num b] w fun e w' => e = .returned (num (mul m (el m a) (el m b))) ∧ w' = w := by
  have h1 : (2 : Int) ≤ m := by have := hm.1; omega
  have h2 : (m : Int) ≤ 13 := by have := hm.2; omega
  have hsh := shl_one hm
  have hs := sz_succ m
  have hp := two_pow_le hm
  have hq := poly_form hm
  rw [show ((2 ^ m : Nat) : Int) = (sz m : Int) + 1 by omega] at hsh
  have hA := el_le m a
  have hB := el_le m b
  have HF : Hid _ := rm_end hm hA hB
  have HI : Hid (∀ (a : Int) (w : World), Calls Tryd.prog 78 #[num m, num a] w fun e w' => e = .returned (num (el m a)) ∧ w' = w) := fun a w => rIn_ok hm a w
  go_enter Tryd.func64, Tryd.ntmps64
  go_wp2_with fail
  refine (rIn_ok hm a _).mono ?_
  rintro e w' ⟨rfl, rfl⟩
  go_wp2_with fail
  refine (rIn_ok hm b _).mono ?_
  rintro e w' ⟨rfl, rfl⟩
  go_wp2_with fail
  refine (rPoly_ok hm _).mono ?_
  rintro e w' ⟨rfl, rfl⟩
  obtain ⟨A, hAe⟩ : ∃ A, A = el m a := ⟨_, rfl⟩
  obtain ⟨B, hBe⟩ : ∃ B, B = el m b := ⟨_, rfl⟩
  rw [← hAe] at hA HF ⊢
  rw [← hBe] at hB HF ⊢
  have HAe : Hid (A = el m a) := hAe
  have HBe : Hid (B = el m b) := hBe
  clear hAe hBe HI
  go_wp2_with fail
  go_loop [1, 8, 9] (fun x o c => ∃ i : Nat, i ≤ m ∧ c = num i ∧ x = num (sh m i A) ∧ o = num (rm m A B i)) (fun _ _ c => m - (intOf c).toNat)
  case atStart => exact ⟨0, Nat.zero_le _, rfl, rfl, rfl⟩
  case round =>
    obtain ⟨i, hi, rfl, rfl, rfl⟩ := hrel
    by_cases hlt : i < m
    · have ls := sh_le hm i hA
      have lr := rm_le (b := B) hm hA i
      have hB8 : B ≤ 8191 := by omega
      have XV : Hid _ := x2_val hm ls
      have RY : Hid _ := @rm_yes m A B hm hA hB8 i
      have RN : Hid _ := @rm_no m A B hB8 i
      go_wp2_with fail
      all_goals
        go_round
        case rel => exact ⟨i + 1, by omega, by go_num, congrArg num (by first | exact XV.out.1 ‹_› | exact XV.out.2 ‹_›), congrArg num (by first | exact RY.out ‹_› | exact RN.out ‹_›)⟩
        case measure => simp [intOf]; omega
    · obtain rfl : i = m := by omega
      go_wp2_with fail
      go_ret
      exact ⟨ret_int (by rw [HF.out, HAe.out, HBe.out]), rfl⟩
theorem mul_two {m a : Nat} (h : Em m) (ha : a ≤ sz m) : mul m a (el m 2) = x2 m a := by
  have hz := sz_bd h
  have e : el m 2 = pw m 1 := by
    rw [pw_low h 1 (by have := h.1; omega)]
    exact el_of (m := m) (a := 2) (by omega)
  rw [e, mul_comm, mul_sh h 1 ha]; rfl
set_option maxHeartbeats 400000 in
theorem rexp_ok {m : Nat} (hm : Em m) (n : Nat) (hn : n ≤ 1000000) (w : World) : Calls Tryd.prog 73 #[num m, num n] w fun e w' => e = .returned (num (pw m n)) ∧ w' = w := by
  go_enter Tryd.func73, Tryd.ntmps73
  go_wp2_with fail
  go_loopw [5, 6] (fun x c wr => ∃ i : Nat, i ≤ n ∧ c = num i ∧ x = num (pw m i) ∧ wr = w) (fun _ c _ => n - (intOf c).toNat)
  case atStart => exact ⟨0, Nat.zero_le _, rfl, rfl, rfl⟩
  case round =>
    obtain ⟨i, hi, rfl, rfl, rfl⟩ := hrel
    by_cases hlt : i < n
    · have lp := pw_bd hm i
      have HE : Hid (el m (pw m i : Int) = pw m i) := el_of lp.2
      have HT : Hid (mul m (pw m i) (el m 2) = pw m (i + 1)) := mul_two hm lp.2
      go_wp2_with fail
      refine (rMul_ok hm _ _ _).mono ?_
      rintro e w1 ⟨rfl, rfl⟩
      rw [HE.out, HT.out]
      go_wp2_with fail
      go_roundw
      case rel => exact ⟨i + 1, by omega, by go_num, rfl, by first | rfl | trivial⟩
      case measure => simp [intOf]; omega
    · obtain rfl : i = n := by omega
      go_wp2_with fail
      go_ret
      exact ⟨rfl, rfl⟩
set_option maxHeartbeats 400000 in
theorem rTurn_ok {m : Nat} (hm : Em m) (n : Int) (w : World) : Calls Tryd.prog 74 #[num m, num n] w fun e w' => e = .returned (num (wrapS m n)) ∧ w' = w := by
  have h1 : (2 : Int) ≤ m := by have := hm.1; omega
  have h2 : (m : Int) ≤ 13 := by have := hm.2; omega
  have hz := sz_bd hm
  have hsz := sz_int hm
  have HW : Hid _ := wrapS_cast hm n
  obtain ⟨t1, t2, t3, t4⟩ := tmod_form n (sz m) (by omega)
  have T1 : Hid _ := t1
  have T2 : Hid _ := t2
  clear t1 t2
  by_cases hneg : n.tmod (sz m) < 0
  · go_enter Tryd.func74, Tryd.ntmps74
    go_wp2
    go_ret
    exact ⟨ret_int (by rw [HW.out]; exact T2.out (by omega)), rfl⟩
  · go_enter Tryd.func74, Tryd.ntmps74
    go_wp2
    go_ret
    exact ⟨ret_int (by rw [HW.out]; exact T1.out (by omega)), rfl⟩
set_option maxHeartbeats 400000 in
theorem rExp_ok {m : Nat} (hm : Em m) (n : Int) (w : World) : Calls Tryd.prog 54 #[num m, num n] w fun e w' => e = .returned (num (xp m n)) ∧ w' = w := by
  have h3 := sz_bd hm
  have h4 := wrapS_lt hm n
  have HR : Hid (∀ w, Calls Tryd.prog 73 #[num m, num (wrapS m n)] w fun e w' => e = .returned (num (pw m (wrapS m n))) ∧ w' = w) := fun w => rexp_ok hm (wrapS m n) (by omega) w
  go_enter Tryd.func54, Tryd.ntmps54
  go_wp2_with fail
  refine (rTurn_ok hm _ _).mono ?_
  rintro e w1 ⟨rfl, rfl⟩
  go_wp2_with fail
  refine (HR.out _).mono ?_
  rintro e w1 ⟨rfl, rfl⟩
  go_wp2_with fail
  go_ret
  exact ⟨rfl, rfl⟩
/-- Squared, and all multiplied, it is the inverse. -/
theorem inv_form {m a : Nat} (h : Em m) (h0 : a ≠ 0) : invS m a = pw m (lg m a * (2 ^ m - 2)) := by
  have hs := sz_succ m
  have hz := sz_bd h
  unfold invS
  rw [if_neg h0]
  show xp m _ = _
  rw [← xp_nat h, xp_inj h, show ((lg m a * (2 ^ m - 2) : Nat) : Int) = (lg m a : Int) * ((sz m : Int) - 1) by
    rw [Int.natCast_mul]; congr 1; omega, Int.mul_sub, Int.mul_one]
  rw [show -(lg m a : Int) - ((lg m a : Int) * (sz m : Int) - (lg m a : Int)) = - ((lg m a : Int) * (sz m : Int)) by omega]
  simp
set_option maxHeartbeats 400000 in
theorem rInv_ok {m : Nat} (hm : Em m) (a : Int) (w : World) : Calls Tryd.prog 80 #[num m, num a] w fun e w' => e = .returned (num (invS m (el m a))) ∧ w' = w := by
  have h1 := hm.1
  have h2 := hm.2
  have hA := el_le m a
  by_cases h0 : el m a = 0
  · have h0' : ((el m a : Int) == 0) = true := by simp [h0]
    have HL : Hid (invS m (el m a) = 0) := by simp [invS, h0, Hid]
    clear h0
    go_enter Tryd.func80, Tryd.ntmps80
    go_wp2_with (go_at_call 78; refine (rIn_ok hm a _).mono ?_; rintro e w' ⟨rfl, rfl⟩)
    go_ret
    exact ⟨ret_int (by rw [HL.out]; rfl), rfl⟩
  · have h0' : ((el m a : Int) == 0) = false := by simp [h0]
    obtain ⟨l1, l2⟩ := lg_spec hm (show 1 ≤ el m a by omega) hA
    have HL : Hid _ := inv_form hm h0
    obtain ⟨e, he⟩ : ∃ e, e = lg m (el m a) := ⟨_, rfl⟩
    rw [← he] at l1 l2 HL
    have HP : Hid (el m a = pw m (e * 2 ^ 0)) := by rw [← l2]; simp [Hid]
    clear h0 l2 he
    go_enter Tryd.func80, Tryd.ntmps80
    go_wp2_with fail
    refine (rIn_ok hm a _).mono ?_
    rintro e' w' ⟨rfl, rfl⟩
    go_wp2_with fail
    go_loopw [1, 5, 6] (fun y x c wr => ∃ i : Nat, i + 1 ≤ m ∧ c = num ((i : Int) + 1) ∧ y = num (pw m (e * 2 ^ i)) ∧ x = num (pw m (e * (2 ^ (i + 1) - 2))) ∧ wr = w') (fun _ _ c _ => m - (intOf c).toNat)
    case atStart => exact ⟨0, by omega, rfl, by rw [HP.out], by simp [pw], rfl⟩
    case round =>
      obtain ⟨i, hi, rfl, rfl, rfl, rfl⟩ := hrel
      by_cases hlt : i + 1 < m
      · have HE : ∀ j, Hid (el m (pw m j : Int) = pw m j) := fun j => el_of (pw_bd hm j).2
        have H1 : Hid (mul m (pw m (e * 2 ^ i)) (pw m (e * 2 ^ i)) = pw m (e * 2 ^ (i + 1))) := by
          rw [mul_pw hm, Nat.pow_succ, ← Nat.mul_assoc, Nat.mul_two]; rfl
        have H2 : Hid (mul m (pw m (e * (2 ^ (i + 1) - 2))) (pw m (e * 2 ^ (i + 1))) = pw m (e * (2 ^ (i + 1 + 1) - 2))) := by
          rw [mul_pw hm, ← Nat.mul_add]
          have := Nat.two_pow_pos i
          rw [show 2 ^ (i + 1) - 2 + 2 ^ (i + 1) = 2 ^ (i + 1 + 1) - 2 by rw [Nat.pow_succ, Nat.pow_succ]; omega]; rfl
        have e1 := HE (e * 2 ^ i)
        have e2 := HE (e * 2 ^ (i + 1))
        have e3 := HE (e * (2 ^ (i + 1) - 2))
        clear HE
        go_wp2_with fail
        refine (rMul_ok hm _ _ _).mono ?_
        rintro e' w1 ⟨rfl, rfl⟩
        rw [e1.out, H1.out]
        go_wp2_with fail
        refine (rMul_ok hm _ _ _).mono ?_
        rintro e' w1 ⟨rfl, rfl⟩
        rw [e3.out, e2.out, H2.out]
        go_wp2_with fail
        go_roundw
        case rel => exact ⟨i + 1, by omega, by go_num, rfl, rfl, by first | rfl | trivial⟩
        case measure => simp [intOf]; omega
      · obtain rfl : m = i + 1 := by omega
        go_wp2_with fail
        go_ret
        exact ⟨ret_int (by rw [HL.out]), rfl⟩
end Gf
end Go.Proofs.YtiojdoehlooibaaDoor
