/- The plain arithmetic of the fields of 2^m elements, m from 2 to 13: powers of the root, their order, logarithms, products. -/
import Derived.KernelRfl
namespace Go.Proofs.YtiojdoehlooibaaDoor
namespace Gf

def poly : Nat → Nat
  | 2 => 7 | 3 => 11 | 4 => 19 | 5 => 37 | 6 => 67 | 7 => 137 | 8 => 285 | 9 => 529 | 10 => 1033 | 11 => 2053 | 12 => 4179 | 13 => 8219
  | _ => 0
/-- How many elements there are beside 0. -/
def sz (m : Nat) : Nat := 2 ^ m - 1
/-- Times the root. -/
def x2 (m a : Nat) : Nat := if sz m < 2 * a then (2 * a) ^^^ poly m else 2 * a
/-- The root's powers. -/
def pw (m : Nat) : Nat → Nat
  | 0 => 1
  | n + 1 => x2 m (pw m n)
theorem pw_zero (m : Nat) : pw m 0 = 1 := rfl
theorem pw_succ (m n : Nat) : pw m (n + 1) = x2 m (pw m n) := rfl

/-- An m that there is. -/
def Em (m : Nat) : Prop := 2 ≤ m ∧ m ≤ 13
theorem Em.cases {m : Nat} (h : Em m) : m = 2 ∨ m = 3 ∨ m = 4 ∨ m = 5 ∨ m = 6 ∨ m = 7 ∨ m = 8 ∨ m = 9 ∨ m = 10 ∨ m = 11 ∨ m = 12 ∨ m = 13 := by
  obtain ⟨h1, h2⟩ := h; omega
theorem sz_succ (m : Nat) : sz m + 1 = 2 ^ m := by
  have : 0 < 2 ^ m := Nat.two_pow_pos m
  unfold sz; omega
theorem two_pow_le {m : Nat} (h : Em m) : 4 ≤ 2 ^ m ∧ 2 ^ m ≤ 8192 := by
  rcases h.cases with rfl | rfl | rfl | rfl | rfl | rfl | rfl | rfl | rfl | rfl | rfl | rfl <;> decide
theorem sz_bd {m : Nat} (h : Em m) : 3 ≤ sz m ∧ sz m ≤ 8191 := by
  have := two_pow_le h; have := sz_succ m; omega
/-- The polynomial: 2^m and less than that besides, odd. -/
theorem poly_form {m : Nat} (h : Em m) : 2 ^ m ≤ poly m ∧ poly m < 2 * 2 ^ m ∧ poly m % 2 = 1 := by
  rcases h.cases with rfl | rfl | rfl | rfl | rfl | rfl | rfl | rfl | rfl | rfl | rfl | rfl <;> decide

/-- Where the top bit of both is set the sum has it no more. -/
theorem xor_top {m a p : Nat} (h1 : 2 ^ m ≤ a) (h2 : a < 2 * 2 ^ m) (h3 : 2 ^ m ≤ p) (h4 : p < 2 * 2 ^ m) : a ^^^ p < 2 ^ m := by
  have e : 2 * 2 ^ m = 2 ^ (m + 1) := by rw [Nat.pow_succ]; omega
  have ta : a.testBit m = true := by
    rw [Nat.testBit_eq_decide_div_mod_eq]
    have : a / 2 ^ m = 1 := by
      rw [Nat.div_eq_iff (Nat.two_pow_pos m)]; omega
    simp [this]
  have tp : p.testBit m = true := by
    rw [Nat.testBit_eq_decide_div_mod_eq]
    have : p / 2 ^ m = 1 := by
      rw [Nat.div_eq_iff (Nat.two_pow_pos m)]; omega
    simp [this]
  apply Nat.lt_pow_two_of_testBit
  intro j hj
  by_cases hjm : j = m
  · subst hjm; simp [ta, tp]
  · have a1 : a.testBit j = false := Nat.testBit_lt_two_pow (Nat.lt_of_lt_of_le (e ▸ h2) (Nat.pow_le_pow_right (by decide) (by omega)))
    have a2 : p.testBit j = false := Nat.testBit_lt_two_pow (Nat.lt_of_lt_of_le (e ▸ h4) (Nat.pow_le_pow_right (by decide) (by omega)))
    simp [a1, a2]
theorem xor_cancel {a b p : Nat} (e : a ^^^ p = b ^^^ p) : a = b := by
  have := congrArg (· ^^^ p) e
  simpa [Nat.xor_assoc] using this
theorem xor_odd (a b : Nat) : (a ^^^ b) % 2 = (a % 2 + b % 2) % 2 := by
  have h : (a ^^^ b).testBit 0 = (a.testBit 0 ^^ b.testBit 0) := Nat.testBit_xor a b 0
  simp only [Nat.testBit_zero] at h
  rcases Nat.mod_two_eq_zero_or_one a with h1 | h1 <;> rcases Nat.mod_two_eq_zero_or_one b with h2 | h2 <;> rcases Nat.mod_two_eq_zero_or_one (a ^^^ b) with h3 | h3 <;> simp [h1, h2, h3] at h ⊢

theorem x2_le {m a : Nat} (h : Em m) (ha : a ≤ sz m) : x2 m a ≤ sz m := by
  have hp := poly_form h
  have hs := sz_succ m
  unfold x2
  split
  · have := xor_top (m := m) (a := 2 * a) (p := poly m) (by omega) (by omega) hp.1 hp.2.1
    omega
  · omega
theorem x2_pos {m a : Nat} (h : Em m) (h0 : 1 ≤ a) : 1 ≤ x2 m a := by
  have hp := poly_form h
  unfold x2
  split
  · apply Nat.pos_of_ne_zero
    intro e
    have h1 : ((2 * a) ^^^ poly m) % 2 = 1 := by
      have := xor_odd (2 * a) (poly m)
      omega
    omega
  · omega
/-- Times the root, no two come to one. -/
theorem x2_inj {m a b : Nat} (h : Em m) (e : x2 m a = x2 m b) : a = b := by
  have hp := poly_form h
  have pa := xor_odd (2 * a) (poly m)
  have pb := xor_odd (2 * b) (poly m)
  unfold x2 at e
  split at e <;> split at e
  · have := xor_cancel e; omega
  · omega
  · omega
  · omega
theorem pw_bd {m : Nat} (h : Em m) (n : Nat) : 1 ≤ pw m n ∧ pw m n ≤ sz m := by
  induction n with
  | zero => have := sz_bd h; simp [pw]; omega
  | succ n ih => exact ⟨x2_pos h ih.1, x2_le h ih.2⟩

/-! ### The order of the root: by the kernel's own reckoning -/
/-- One step of a walk along the powers that is lost (0) when it comes to 1 again. -/
def st (m a : Nat) : Nat := if x2 m a = 1 then 0 else x2 m a
/-- The number reckoned first. -/
def frc (a : Nat) (k : Nat → Nat) : Nat := match a with | 0 => k 0 | n + 1 => k (n + 1)
theorem frc_eq (a : Nat) (k : Nat → Nat) : frc a k = k a := by cases a <;> rfl
/-- 2^k times. -/
def it (f : Nat → Nat) : Nat → Nat → Nat
  | 0, a => f a
  | k + 1, a => frc (it f k a) (it f k)
def fold (f : Nat → Nat) : Nat → Nat → Nat
  | 0, a => a
  | n + 1, a => f (fold f n a)
theorem fold_add (f : Nat → Nat) (n k a : Nat) : fold f (n + k) a = fold f n (fold f k a) := by
  induction n with
  | zero => simp [fold]
  | succ n ih => rw [Nat.succ_add]; simp [fold, ih]
theorem it_eq (f : Nat → Nat) (k a : Nat) : it f k a = fold f (2 ^ k) a := by
  induction k generalizing a with
  | zero => rfl
  | succ k ih => rw [it, frc_eq, ih, ih, ← fold_add]; congr 1; rw [Nat.pow_succ]; omega
theorem pw_fold (m n : Nat) : pw m n = fold (x2 m) n 1 := by
  induction n with
  | zero => rfl
  | succ n ih => simp [pw, fold, ih]
/-- The steps taken: 2^(m-1), 2^(m-2), .., 2, that is 2^m - 2 in all. -/
def run (m : Nat) : Nat → Nat → Nat
  | 0, a => a
  | k + 1, a => frc (it (st m) (k + 1) a) (run m k)
theorem run_eq (m k a : Nat) : run m k a = fold (st m) (2 ^ (k + 1) - 2) a := by
  induction k generalizing a with
  | zero => rfl
  | succ k ih =>
    rw [run, frc_eq, ih, it_eq, ← fold_add]
    congr 1
    have := Nat.two_pow_pos (k + 1)
    have e : 2 ^ (k + 1 + 1) = 2 * 2 ^ (k + 1) := by rw [Nat.pow_succ]; omega
    omega
theorem fold_st_zero (m n : Nat) (h : Em m) : fold (st m) n 0 = 0 := by
  have hs : st m 0 = 0 := by
    have := sz_bd h
    simp [st, x2]
  induction n with
  | zero => rfl
  | succ n ih => rw [fold, ih, hs]
theorem fold_st {m : Nat} (h : Em m) : ∀ n, fold (st m) n 1 ≠ 0 → fold (st m) n 1 = pw m n ∧ ∀ d, 1 ≤ d → d ≤ n → pw m d ≠ 1
  | 0, _ => ⟨rfl, fun d h1 h2 => by omega⟩
  | n + 1, hne => by
    have hn : fold (st m) n 1 ≠ 0 := fun e => hne (by
      rw [fold, e]; exact fold_st_zero m 1 h)
    obtain ⟨ih1, ih2⟩ := fold_st h n hn
    rw [fold, ih1] at hne ⊢
    have h1 : x2 m (pw m n) ≠ 1 := fun e => hne (by simp [st, e])
    refine ⟨by simp [st, h1, pw], fun d hd1 hd2 => ?_⟩
    by_cases e : d = n + 1
    · subst e; exact h1
    · exact ih2 d hd1 (by omega)
def okOrder (m : Nat) : Bool := run m (m - 1) 1 != 0 && x2 m (run m (m - 1) 1) == 1
theorem order_ok : (List.range' 2 12).all okOrder = true := by kernel_rfl
theorem okOrder_of {m : Nat} (h : Em m) : okOrder m = true := by
  have := List.all_eq_true.1 order_ok m (by simp [List.mem_range']; obtain ⟨h1, h2⟩ := h; exact ⟨m - 2, by omega, by omega⟩)
  exact this
theorem order {m : Nat} (h : Em m) : pw m (sz m) = 1 ∧ ∀ d, 1 ≤ d → d < sz m → pw m d ≠ 1 := by
  have hk := okOrder_of h
  have h1 := h.1
  have hs := sz_succ m
  have hb := sz_bd h
  simp only [okOrder, Bool.and_eq_true, bne_iff_ne, ne_eq, beq_iff_eq] at hk
  rw [run_eq] at hk
  have e : 2 ^ (m - 1 + 1) - 2 = sz m - 1 := by
    rw [Nat.sub_add_cancel (by omega)]; omega
  rw [e] at hk
  obtain ⟨f1, f2⟩ := fold_st h (sz m - 1) hk.1
  rw [f1] at hk
  refine ⟨?_, fun d hd1 hd2 => f2 d hd1 (by omega)⟩
  have : sz m = (sz m - 1) + 1 := by omega
  rw [this, pw_succ]
  exact hk.2
theorem pw_add_inj {m : Nat} (h : Em m) : ∀ (i d : Nat), pw m (d + i) = pw m i → pw m d = 1
  | 0, d, e => by simpa [pw] using e
  | i + 1, d, e => pw_add_inj h i d (x2_inj h (by simpa [← Nat.add_assoc, pw] using e))
/-- Below the order no two powers are the same. -/
theorem pw_inj {m i j : Nat} (h : Em m) (hi : i < sz m) (hj : j < sz m) (e : pw m i = pw m j) : i = j := by
  have key : ∀ i j, i < j → j < sz m → pw m j ≠ pw m i := fun i j hij hj e =>
    (order h).2 (j - i) (by omega) (by omega) (pw_add_inj h i (j - i) (by rw [Nat.sub_add_cancel (by omega)]; exact e))
  rcases Nat.lt_trichotomy i j with h1 | h1 | h1
  · exact absurd e.symm (key i j h1 hj)
  · exact h1
  · exact absurd e (key j i h1 hi)
theorem pw_period {m : Nat} (h : Em m) : ∀ n, pw m (n + sz m) = pw m n
  | 0 => by simpa [pw] using (order h).1
  | n + 1 => by
    rw [show n + 1 + sz m = (n + sz m) + 1 by omega, pw_succ, pw_period h n, ← pw_succ]
theorem pw_mod {m : Nat} (h : Em m) (n : Nat) : pw m (n % sz m) = pw m n := by
  have hs := sz_bd h
  induction n using Nat.strongRecOn with
  | ind n ih =>
    by_cases hn : n < sz m
    · rw [Nat.mod_eq_of_lt hn]
    · have := ih (n - sz m) (by omega)
      rw [Nat.mod_eq_sub_mod (by omega), this, ← pw_period h (n - sz m)]
      congr 1; omega

/-! ### Each element but 0 is a power -/
theorem nodup_le : ∀ (n : Nat) (l : List Nat), l.Nodup → (∀ x ∈ l, x < n) → l.length ≤ n
  | 0, l, _, h => by
    cases l with
    | nil => simp
    | cons x l => exact absurd (h x (by simp)) (by omega)
  | n + 1, l, hd, h => by
    by_cases hn : n ∈ l
    · have h1 := nodup_le n (l.erase n) (hd.erase n) (fun x hx => by
        have := h x (List.mem_of_mem_erase hx)
        have hne : x ≠ n := (List.Nodup.mem_erase_iff hd).1 hx |>.1
        omega)
      rw [List.length_erase_of_mem hn] at h1
      omega
    · have h1 := nodup_le n l hd (fun x hx => by
        have := h x hx
        have : x ≠ n := fun e => hn (e ▸ hx)
        omega)
      omega
theorem pw_surj {m a : Nat} (h : Em m) (h1 : 1 ≤ a) (h2 : a ≤ sz m) : ∃ n, n < sz m ∧ pw m n = a := by
  apply Classical.byContradiction
  intro hno
  have hnd : ((List.range (sz m)).map (fun n => pw m n - 1)).Nodup := by
    rw [List.nodup_iff_pairwise_ne, List.pairwise_map]
    have hr : (List.range (sz m)).Pairwise (fun i j => i < j) := List.pairwise_lt_range
    refine List.Pairwise.imp_of_mem (fun {i j} hi hj hij e => ?_) hr
    have bi := pw_bd h i; have bj := pw_bd h j
    simp at hi hj
    have := pw_inj h hi hj (by omega)
    omega
  have hmem : a - 1 ∉ (List.range (sz m)).map (fun n => pw m n - 1) := by
    intro hm
    simp at hm
    obtain ⟨n, hn, e⟩ := hm
    have bn := pw_bd h n
    exact hno ⟨n, hn, by omega⟩
  have hl := nodup_le (sz m) ((a - 1) :: (List.range (sz m)).map (fun n => pw m n - 1)) (List.nodup_cons.2 ⟨hmem, hnd⟩) (fun x hx => by
    rcases List.mem_cons.1 hx with rfl | hx
    · omega
    · simp at hx
      obtain ⟨n, hn, rfl⟩ := hx
      have bn := pw_bd h n
      omega)
  simp at hl
  omega

/-- Which power an element is. -/
def lg (m a : Nat) : Nat := ((List.range (sz m)).find? fun n => pw m n == a).getD 0
theorem lg_spec {m a : Nat} (h : Em m) (h1 : 1 ≤ a) (h2 : a ≤ sz m) : lg m a < sz m ∧ pw m (lg m a) = a := by
  obtain ⟨n, hn, e⟩ := pw_surj h h1 h2
  unfold lg
  cases hf : (List.range (sz m)).find? fun n => pw m n == a with
  | none => exact absurd (List.find?_eq_none.1 hf n (by simpa using hn)) (by simp [e])
  | some k =>
    have h3 := List.find?_some hf
    have h4 := List.mem_of_find?_eq_some hf
    simp at h3 h4
    exact ⟨h4, h3⟩
theorem lg_pw {m n : Nat} (h : Em m) (hn : n < sz m) : lg m (pw m n) = n := by
  have b := pw_bd h n
  obtain ⟨h1, h2⟩ := lg_spec h b.1 b.2
  exact pw_inj h h1 hn h2

/-- A number as an element. -/
def el (m : Nat) (a : Int) : Nat := if a < 0 ∨ (sz m : Int) < a then 0 else a.toNat
theorem el_le (m : Nat) (a : Int) : el m a ≤ sz m := by
  unfold el; split <;> omega
theorem el_of {m a : Nat} (h : a ≤ sz m) : el m a = a := by
  unfold el; rw [if_neg (by omega)]; omega
/-- The product of two elements. -/
def mul (m a b : Nat) : Nat := if a = 0 ∨ b = 0 then 0 else pw m (lg m a + lg m b)
theorem mul_le {m : Nat} (h : Em m) (a b : Nat) : mul m a b ≤ sz m := by
  unfold mul; split
  · omega
  · exact (pw_bd h _).2
theorem mul_zero (m a : Nat) : mul m a 0 = 0 := by simp [mul]
theorem zero_mul (m a : Nat) : mul m 0 a = 0 := by simp [mul]
theorem mul_comm (m a b : Nat) : mul m a b = mul m b a := by
  unfold mul
  rw [Nat.add_comm (lg m a)]
  by_cases h : a = 0 <;> by_cases h' : b = 0 <;> simp [h, h']
end Gf
end Go.Proofs.YtiojdoehlooibaaDoor
