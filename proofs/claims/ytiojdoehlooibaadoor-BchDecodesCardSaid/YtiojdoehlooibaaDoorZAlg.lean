/- The laws of the field, of the plain functions that the walks speak of. -/
import Derived.Test.YtiojdoehlooibaaDoorZGen
namespace Go.Proofs.YtiojdoehlooibaaDoor
namespace Gf
theorem two_mul_xor (a b : Nat) : 2 * (a ^^^ b) = (2 * a) ^^^ (2 * b) := by
  have h : ∀ n : Nat, 2 * n = n <<< 1 := fun n => by rw [Nat.shiftLeft_eq]; omega
  rw [h, h, h, Nat.shiftLeft_xor_distrib]
theorem top_bit {m a : Nat} (h : Em m) (ha : a ≤ sz m) : (sz m < 2 * a) ↔ a.testBit (m - 1) = true := by
  have hs := sz_succ m
  have h1 := h.1
  have e : 2 ^ m = 2 * 2 ^ (m - 1) := by
    conv => lhs; rw [show m = (m - 1) + 1 by omega]
    rw [Nat.pow_succ]; omega
  have hp := Nat.two_pow_pos (m - 1)
  rw [Nat.testBit_eq_decide_div_mod_eq, decide_eq_true_eq]
  constructor
  · intro h
    have : a / 2 ^ (m - 1) = 1 := by rw [Nat.div_eq_iff hp]; omega
    rw [this]
  · intro h
    have h2 : 1 ≤ a / 2 ^ (m - 1) := by
      apply Nat.one_le_iff_ne_zero.2
      intro e; rw [e] at h; simp at h
    have := (Nat.le_div_iff_mul_le hp).1 h2
    omega
theorem x2_form {m a : Nat} (h : Em m) (ha : a ≤ sz m) : x2 m a = (2 * a) ^^^ (if a.testBit (m - 1) then poly m else 0) := by
  unfold x2
  by_cases hc : sz m < 2 * a
  · rw [if_pos hc, if_pos ((top_bit h ha).1 hc)]
  · rw [if_neg hc, if_neg (fun e => hc ((top_bit h ha).2 e)), Nat.xor_zero]
theorem x2_xor {m a b : Nat} (h : Em m) (ha : a ≤ sz m) (hb : b ≤ sz m) : x2 m (a ^^^ b) = x2 m a ^^^ x2 m b := by
  rw [x2_form h ha, x2_form h hb, x2_form h (xor_le ha hb), two_mul_xor, Nat.testBit_xor]
  have c : ∀ p q r s : Nat, (p ^^^ q) ^^^ (r ^^^ s) = (p ^^^ r) ^^^ (q ^^^ s) := fun p q r s => by
    rw [Nat.xor_assoc, Nat.xor_assoc, ← Nat.xor_assoc q, Nat.xor_comm q r, Nat.xor_assoc r]
  rw [c]
  congr 1
  cases a.testBit (m - 1) <;> cases b.testBit (m - 1) <;> simp
/-- n times the root. -/
def sh (m : Nat) : Nat → Nat → Nat
  | 0, a => a
  | n + 1, a => x2 m (sh m n a)
theorem sh_le {m : Nat} (h : Em m) (n : Nat) {a : Nat} (ha : a ≤ sz m) : sh m n a ≤ sz m := by
  induction n with
  | zero => exact ha
  | succ n ih => exact x2_le h ih
theorem sh_xor {m : Nat} (h : Em m) (n : Nat) {a b : Nat} (ha : a ≤ sz m) (hb : b ≤ sz m) : sh m n (a ^^^ b) = sh m n a ^^^ sh m n b := by
  induction n with
  | zero => rfl
  | succ n ih => rw [sh, sh, sh, ih, x2_xor h (sh_le h n ha) (sh_le h n hb)]
theorem sh_zero (m n : Nat) : sh m n 0 = 0 := by
  induction n with
  | zero => rfl
  | succ n ih => rw [sh, ih]; simp [x2]
theorem sh_pw (m i j : Nat) : sh m i (pw m j) = pw m (i + j) := by
  induction i with
  | zero => rw [sh, Nat.zero_add]
  | succ i ih => rw [sh, ih, show i + 1 + j = (i + j) + 1 by omega, pw_succ]
theorem mul_sh {m : Nat} (h : Em m) (i : Nat) {x : Nat} (hx : x ≤ sz m) : mul m (pw m i) x = sh m i x := by
  by_cases h0 : x = 0
  · subst h0; rw [mul_zero, sh_zero]
  · obtain ⟨j, hj, rfl⟩ := pw_surj h (show 1 ≤ x by omega) hx
    rw [mul_pw h, sh_pw]
/-- An element is 0 or a power. -/
theorem el_cases {m a : Nat} (h : Em m) (ha : a ≤ sz m) : a = 0 ∨ ∃ i, i < sz m ∧ a = pw m i := by
  by_cases h0 : a = 0
  · exact .inl h0
  · obtain ⟨j, hj, e⟩ := pw_surj h (show 1 ≤ a by omega) ha
    exact .inr ⟨j, hj, e.symm⟩
theorem mul_xor {m a b d : Nat} (h : Em m) (ha : a ≤ sz m) (hb : b ≤ sz m) (hd : d ≤ sz m) : mul m a (b ^^^ d) = mul m a b ^^^ mul m a d := by
  rcases el_cases h ha with rfl | ⟨i, _, rfl⟩
  · simp [zero_mul]
  · rw [mul_sh h i hb, mul_sh h i hd, mul_sh h i (xor_le hb hd), sh_xor h i hb hd]
theorem xor_mul {m a b d : Nat} (h : Em m) (ha : a ≤ sz m) (hb : b ≤ sz m) (hd : d ≤ sz m) : mul m (b ^^^ d) a = mul m b a ^^^ mul m d a := by
  rw [mul_comm, mul_xor h ha hb hd, mul_comm m a b, mul_comm m a d]
theorem mul_assoc {m a b d : Nat} (h : Em m) (ha : a ≤ sz m) (hb : b ≤ sz m) (hd : d ≤ sz m) : mul m (mul m a b) d = mul m a (mul m b d) := by
  rcases el_cases h ha with rfl | ⟨i, _, rfl⟩
  · simp [zero_mul]
  · rcases el_cases h hb with rfl | ⟨j, _, rfl⟩
    · simp [zero_mul, mul_zero]
    · rcases el_cases h hd with rfl | ⟨k, _, rfl⟩
      · simp [mul_zero]
      · rw [mul_pw h, mul_pw h, mul_pw h, mul_pw h, Nat.add_assoc]
theorem mul_one {m a : Nat} (h : Em m) (ha : a ≤ sz m) : mul m a 1 = a := by
  rcases el_cases h ha with rfl | ⟨i, _, rfl⟩
  · rw [zero_mul]
  · rw [show (1 : Nat) = pw m 0 from rfl, mul_pw h, Nat.add_zero]
theorem one_mul {m a : Nat} (h : Em m) (ha : a ≤ sz m) : mul m 1 a = a := by rw [mul_comm, mul_one h ha]
theorem mul_ne {m a b : Nat} (h : Em m) (ha : a ≠ 0) (hb : b ≠ 0) : mul m a b ≠ 0 := by
  unfold mul
  rw [if_neg (by omega)]
  have := pw_bd h (lg m a + lg m b)
  omega
/-- The root's power of any number. -/
def xp (m : Nat) (n : Int) : Nat := pw m (wrapS m n)
theorem xp_nat {m : Nat} (h : Em m) (n : Nat) : xp m (n : Int) = pw m n := by
  have := wrapS_cast h (n : Int)
  unfold xp
  rw [← pw_mod h n, show wrapS m (n : Int) = n % sz m by omega]
theorem xp_add {m : Nat} (h : Em m) (n k : Int) : xp m (n + k) = mul m (xp m n) (xp m k) := by
  have h1 := wrapS_cast h n
  have h2 := wrapS_cast h k
  have h3 := wrapS_cast h (n + k)
  have hs := sz_bd h
  unfold xp
  rw [mul_pw h, ← pw_mod h (wrapS m n + wrapS m k)]
  congr 1
  have : ((wrapS m n + wrapS m k : Nat) : Int) % (sz m : Int) = (n + k) % (sz m : Int) := by
    rw [Int.natCast_add, h1, h2, ← Int.add_emod]
  omega
theorem xp_zero {m : Nat} (h : Em m) : xp m 0 = 1 := xp_nat h 0
theorem xp_bd {m : Nat} (h : Em m) (n : Int) : 1 ≤ xp m n ∧ xp m n ≤ sz m := pw_bd h _
theorem xp_inj {m : Nat} (h : Em m) (n k : Int) : xp m n = xp m k ↔ (n - k) % (sz m : Int) = 0 := by
  have h1 := wrapS_cast h n
  have h2 := wrapS_cast h k
  have hs := sz_bd h
  constructor
  · intro e
    have := pw_inj h (wrapS_lt h n) (wrapS_lt h k) e
    have e2 : n % (sz m : Int) = k % (sz m : Int) := by rw [← h1, ← h2, this]
    exact Int.emod_eq_emod_iff_emod_sub_eq_zero.1 e2
  · intro e
    have e2 := Int.emod_eq_emod_iff_emod_sub_eq_zero.2 e
    have : wrapS m n = wrapS m k := by
      have : (wrapS m n : Int) = wrapS m k := by rw [h1, h2, e2]
      omega
    unfold xp; rw [this]
theorem xp_period {m : Nat} (h : Em m) (n : Int) : xp m (n + sz m) = xp m n := by
  rw [xp_inj h, show n + (sz m : Int) - n = sz m by omega]
  simp
theorem xp_lg {m a : Nat} (h : Em m) (h0 : a ≠ 0) (ha : a ≤ sz m) : xp m (lg m a) = a := by
  rw [xp_nat h]; exact (lg_spec h (by omega) ha).2
theorem inv_mul {m a : Nat} (h : Em m) (h0 : a ≠ 0) (ha : a ≤ sz m) : mul m a (invS m a) = 1 := by
  unfold invS
  rw [if_neg h0]
  show mul m a (xp m (-(lg m a : Int))) = 1
  conv => lhs; arg 2; rw [← xp_lg h h0 ha]
  rw [← xp_add h, Int.add_right_neg, xp_zero h]
theorem inv_le {m : Nat} (h : Em m) (a : Nat) : invS m a ≤ sz m := by
  unfold invS
  split
  · exact Nat.zero_le _
  · exact (pw_bd h _).2
theorem pow_le' {m : Nat} (h : Em m) (a : Nat) (n : Int) : powS m a n ≤ sz m := by
  have := sz_bd h
  unfold powS
  split
  · omega
  · split
    · exact Nat.zero_le _
    · exact (pw_bd h _).2
theorem pow_form {m a : Nat} (h : Em m) (h0 : a ≠ 0) (n : Int) : powS m a n = xp m (lg m a * n) := by
  have hs := sz_bd h
  unfold powS
  by_cases hn : n = 0
  · rw [if_pos hn, hn, Int.mul_zero, xp_zero h]
  · rw [if_neg hn, if_neg h0]
    show xp m _ = xp m _
    rw [xp_inj h, ← Int.mul_sub, wrapS_cast h n]
    have : (n % (sz m : Int) - n) % (sz m : Int) = 0 := by
      rw [Int.sub_emod, Int.emod_emod_of_dvd _ (Int.dvd_refl _), Int.sub_self, Int.zero_emod]
    rw [Int.mul_emod, this, Int.mul_zero, Int.zero_emod]
theorem pow_add {m a : Nat} (h : Em m) (h0 : a ≠ 0) (n k : Int) : powS m a (n + k) = mul m (powS m a n) (powS m a k) := by
  rw [pow_form h h0, pow_form h h0, pow_form h h0, Int.mul_add, xp_add h]
theorem log_of {m a : Nat} (h0 : a ≠ 0) : logS m a = lg m a := by simp [logS, h0]
theorem lg_mul {m a b : Nat} (h : Em m) (ha0 : a ≠ 0) (hb0 : b ≠ 0) : lg m (mul m a b) = (lg m a + lg m b) % sz m := by
  unfold mul
  rw [if_neg (by omega), lg_pw_mod h]
theorem log_mul {m a b : Nat} (h : Em m) (ha0 : a ≠ 0) (hb0 : b ≠ 0) : logS m (mul m a b) = ((lg m a : Int) + (lg m b : Int)) % (sz m : Int) := by
  unfold logS
  rw [if_neg (mul_ne h ha0 hb0), lg_mul h ha0 hb0]
  simp
open Go.RowKit in
theorem exp_x {b m : Nat} {w : World} (h : Fld w b m) (n : Int) :
    Calls Tryd.prog 48 #[ptr b, num n] w fun e w' => e = .returned (num (xp m n)) ∧ Fld w' b m ∧ Step b w w' := exp_ok h n
end Gf
end Go.Proofs.YtiojdoehlooibaaDoor
