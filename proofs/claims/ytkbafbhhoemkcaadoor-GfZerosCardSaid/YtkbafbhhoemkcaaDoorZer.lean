/- The generator: its coefficients are 0 and 1, its roots, and that it goes into x to the field's size and 1. -/
import Derived.Test.YtkbafbhhoemkcaaDoorCv
namespace Go.Proofs.YtkbafbhhoemkcaaDoor
namespace Gf
theorem xor4 (p q r s : Nat) : (p ^^^ q) ^^^ (r ^^^ s) = (p ^^^ r) ^^^ (q ^^^ s) := by
  rw [Nat.xor_assoc, Nat.xor_assoc, ← Nat.xor_assoc q, Nat.xor_comm q r, Nat.xor_assoc r]
theorem xor3 (p q r : Nat) : (p ^^^ q) ^^^ r = (p ^^^ r) ^^^ q := by
  rw [Nat.xor_assoc, Nat.xor_assoc, Nat.xor_comm q r]
theorem xor_drop (p c s t : Nat) : (p ^^^ c) ^^^ ((p ^^^ s) ^^^ t) = c ^^^ (s ^^^ t) := by
  rw [Nat.xor_assoc p s t, xor4, Nat.xor_self, Nat.zero_xor]
/-- Coefficients times (x + a). -/
def Lf (m a : Nat) (f : Nat → Nat) : Nat → Nat
  | 0 => mul m a (f 0)
  | k + 1 => mul m a (f (k + 1)) ^^^ f k
theorem Lf_le {m a : Nat} (h : Em m) {f : Nat → Nat} (hf : ∀ k, f k ≤ sz m) (k : Nat) : Lf m a f k ≤ sz m := by
  cases k with
  | zero => exact mul_le h _ _
  | succ k => exact xor_le (mul_le h _ _) (hf k)
theorem Lf_congr {m a : Nat} {f g : Nat → Nat} (e : ∀ k, f k = g k) (k : Nat) : Lf m a f k = Lf m a g k := by
  rw [show f = g from funext e]
theorem mul_swap {m a b x : Nat} (h : Em m) (ha : a ≤ sz m) (hb : b ≤ sz m) (hx : x ≤ sz m) : mul m a (mul m b x) = mul m b (mul m a x) := by
  rw [← mul_assoc h ha hb hx, mul_comm m a b, mul_assoc h hb ha hx]
theorem Lf_comm {m a b : Nat} (h : Em m) (ha : a ≤ sz m) (hb : b ≤ sz m) {f : Nat → Nat} (hf : ∀ k, f k ≤ sz m) (k : Nat) : Lf m a (Lf m b f) k = Lf m b (Lf m a f) k := by
  cases k with
  | zero => exact mul_swap h ha hb (hf 0)
  | succ k =>
    cases k with
    | zero =>
      show mul m a (mul m b (f 1) ^^^ f 0) ^^^ mul m b (f 0) = mul m b (mul m a (f 1) ^^^ f 0) ^^^ mul m a (f 0)
      rw [mul_xor h ha (mul_le h _ _) (hf 0), mul_xor h hb (mul_le h _ _) (hf 0), mul_swap h ha hb (hf 1), xor3]
    | succ k =>
      show mul m a (mul m b (f (k + 2)) ^^^ f (k + 1)) ^^^ (mul m b (f (k + 1)) ^^^ f k) = mul m b (mul m a (f (k + 2)) ^^^ f (k + 1)) ^^^ (mul m a (f (k + 1)) ^^^ f k)
      rw [mul_xor h ha (mul_le h _ _) (hf _), mul_xor h hb (mul_le h _ _) (hf _), mul_swap h ha hb (hf _), xor4]
theorem mul_sq {m a x : Nat} (h : Em m) (ha : a ≤ sz m) (hx : x ≤ sz m) : mul m (mul m a x) (mul m a x) = mul m (mul m a a) (mul m x x) := by
  rw [mul_assoc h ha hx (mul_le h _ _), mul_swap h hx ha hx, ← mul_assoc h ha ha (mul_le h _ _)]
theorem Lf_sq {m a : Nat} (h : Em m) (ha : a ≤ sz m) {f : Nat → Nat} (hf : ∀ k, f k ≤ sz m) (k : Nat) : mul m (Lf m a f k) (Lf m a f k) = Lf m (mul m a a) (fun j => mul m (f j) (f j)) k := by
  cases k with
  | zero => exact mul_sq h ha (hf 0)
  | succ k =>
    show mul m (mul m a (f (k + 1)) ^^^ f k) (mul m a (f (k + 1)) ^^^ f k) = mul m (mul m a a) (mul m (f (k + 1)) (f (k + 1))) ^^^ mul m (f k) (f k)
    rw [square_add h (mul_le h _ _) (hf k), mul_sq h ha (hf _)]
/-- The coefficients of the product of the first j of (x + the power's squares). -/
def Pf (m E : Nat) : Nat → Nat → Nat
  | 0 => fun k => if k = 0 then 1 else 0
  | j + 1 => Lf m (pw m (E * 2 ^ j)) (Pf m E j)
theorem Pf_le {m : Nat} (h : Em m) (E : Nat) : ∀ j k, Pf m E j k ≤ sz m
  | 0, k => by
    have := sz_bd h
    show (if k = 0 then 1 else 0) ≤ _
    split <;> omega
  | j + 1, k => Lf_le h (Pf_le h E j) k
theorem Pf_sq {m : Nat} (h : Em m) (E : Nat) : ∀ j k, mul m (Pf m E j k) (Pf m E j k) = Pf m (2 * E) j k
  | 0, k => by
    have := sz_bd h
    show mul m (if k = 0 then 1 else 0) (if k = 0 then 1 else 0) = if k = 0 then 1 else 0
    split
    · exact mul_one h (by omega)
    · exact zero_mul _ _
  | j + 1, k => by
    show mul m (Lf m _ _ k) (Lf m _ _ k) = Lf m (pw m (2 * E * 2 ^ j)) (Pf m (2 * E) j) k
    rw [Lf_sq h (pw_bd h _).2 (Pf_le h E j), mul_pw h, show E * 2 ^ j + E * 2 ^ j = 2 * E * 2 ^ j by rw [Nat.mul_assoc]; omega]
    exact Lf_congr (fun i => Pf_sq h E j i) k
theorem two_pow_step (E j : Nat) : E * 2 ^ (j + 1) = 2 * E * 2 ^ j := by
  rw [Nat.pow_succ, Nat.mul_comm (2 ^ j) 2, ← Nat.mul_assoc, Nat.mul_comm E 2]
theorem Pf_rot {m : Nat} (h : Em m) (E : Nat) : ∀ j k, Pf m E (j + 1) k = Lf m (pw m E) (Pf m (2 * E) j) k
  | 0, k => by
    show Lf m (pw m (E * 2 ^ 0)) _ k = _
    rw [Nat.pow_zero, Nat.mul_one]; rfl
  | j + 1, k => by
    show Lf m (pw m (E * 2 ^ (j + 1))) (Pf m E (j + 1)) k = Lf m (pw m E) (Lf m (pw m (2 * E * 2 ^ j)) (Pf m (2 * E) j)) k
    rw [Lf_congr (Pf_rot h E j) k, two_pow_step, Lf_comm h (pw_bd h _).2 (pw_bd h _).2 (Pf_le h _ j)]
theorem Pf_fix {m E d : Nat} (h : Em m) (hd : 1 ≤ d) (e : pw m (E * 2 ^ d) = pw m E) (k : Nat) : mul m (Pf m E d k) (Pf m E d k) = Pf m E d k := by
  obtain ⟨j, rfl⟩ : ∃ j, d = j + 1 := ⟨d - 1, by omega⟩
  rw [Pf_sq h, Pf_rot h E j k]
  show Lf m (pw m (2 * E * 2 ^ j)) (Pf m (2 * E) j) k = _
  rw [← two_pow_step, e]
theorem sq_fix {m c : Nat} (h : Em m) (hc : c ≤ sz m) (e : mul m c c = c) : c ≤ 1 := by
  rcases el_cases h hc with rfl | ⟨i, _, rfl⟩
  · omega
  · rw [mul_pw h] at e
    have := pw_add_inj h i i e
    omega
theorem sq_inj {m a b : Nat} (h : Em m) (ha : a ≤ sz m) (hb : b ≤ sz m) (e : mul m a a = mul m b b) : a = b := by
  have h1 := square_add h ha hb
  rw [e, Nat.xor_self] at h1
  have h2 : a ^^^ b = 0 := Classical.byContradiction fun hne => mul_ne h hne hne h1
  have := congrArg (· ^^^ b) h2
  simpa [Nat.xor_assoc] using this
theorem nth_nil (k : Nat) : nth [] k = 0 := nth_over [] (by simp)
theorem tmI_eq {m : Nat} {p q : List Nat} (hp : Els m p) (tp : Trimmed p) (hq : Els m q) (tq : Trimmed q) : tmI m p q = tmS m p q := by
  unfold tmI
  rw [rowS_ints hp, rowS_ints hq, trim_of_trimmed tp, trim_of_trimmed tq]
theorem Lf_nought (m a k : Nat) : Lf m a (fun _ => 0) k = 0 := by
  cases k with
  | zero => exact mul_zero _ _
  | succ k => show mul m a 0 ^^^ 0 = 0; rw [mul_zero]; rfl
theorem cv_lin {m a : Nat} (h : Em m) : ∀ (p : List Nat) (k : Nat), Els m p → cv m p [a, 1] k = Lf m a (nth p) k
  | [], k, _ => by
    rw [show nth ([] : List Nat) = fun _ => 0 from funext nth_nil, Lf_nought]; cases k <;> rfl
  | b :: p, 0, _ => by
    show mul m b a = mul m a b
    exact mul_comm _ _ _
  | b :: p, k + 1, hp => by
    have ih := cv_lin (a := a) h p k hp.tail
    rw [cv, ih]
    cases k with
    | zero =>
      show mul m b 1 ^^^ mul m a (nth p 0) = mul m a (nth p 0) ^^^ b
      rw [mul_one h hp.head, Nat.xor_comm]
    | succ k =>
      show mul m b (nth [a, 1] (k + 2)) ^^^ (mul m a (nth p (k + 1)) ^^^ nth p k) = mul m a (nth p (k + 1)) ^^^ nth p k
      rw [nth_over [a, 1] (by simp), mul_zero, Nat.zero_xor]
/-- A product with (x + b) put to the second. -/
theorem cv_lin2 {m b : Nat} (h : Em m) (hb : b ≤ sz m) {G H : List Nat} (hG : Els m G) (e : ∀ k, nth H k = Lf m b (nth G) k) : ∀ (A : List Nat) (k : Nat), Els m A → cv m A H k = Lf m b (cv m A G) k
  | [], k, _ => by
    rw [show cv m [] G = fun _ => 0 from funext fun k => by cases k <;> rfl, Lf_nought]; cases k <;> rfl
  | a :: A, 0, hA => by
    rw [cv, e]
    exact mul_swap h hA.head hb (hG 0)
  | a :: A, k + 1, hA => by
    rw [cv, e, cv_lin2 h hb hG e A k hA.tail]
    cases k with
    | zero =>
      show mul m a (mul m b (nth G 1) ^^^ nth G 0) ^^^ mul m b (cv m A G 0) = mul m b (mul m a (nth G 1) ^^^ cv m A G 0) ^^^ mul m a (nth G 0)
      rw [mul_xor h hA.head (mul_le h _ _) (hG _), mul_xor h hb (mul_le h _ _) (cv_le h _ _ _), mul_swap h hA.head hb (hG _), xor3]
    | succ k =>
      show mul m a (mul m b (nth G (k + 2)) ^^^ nth G (k + 1)) ^^^ (mul m b (cv m A G (k + 1)) ^^^ cv m A G k) = mul m b (mul m a (nth G (k + 2)) ^^^ cv m A G (k + 1)) ^^^ (mul m a (nth G (k + 1)) ^^^ cv m A G k)
      rw [mul_xor h hA.head (mul_le h _ _) (hG _), mul_xor h hb (mul_le h _ _) (cv_le h _ _ _), mul_swap h hA.head hb (hG _), xor4]
/-- What is left of a row when (x + b) is taken out. -/
def sv (m b : Nat) : List Nat → List Nat
  | [] => []
  | c :: l => ev m b (c :: l) :: sv m b l
theorem sv_els {m : Nat} (h : Em m) (b : Nat) : ∀ l, Els m (sv m b l)
  | [] => fun k => by rw [sv, nth_nil]; exact Nat.zero_le _
  | _ :: l => Els.cons (ev_le h b _) (sv_els h b l)
theorem cv_sv {m b : Nat} (h : Em m) (hb : b ≤ sz m) {G : List Nat} (hG : Els m G) : ∀ (l : List Nat) (c k : Nat), Els m (c :: l) → cv m (c :: l) G k = mul m (ev m b (c :: l)) (nth G k) ^^^ Lf m b (cv m (sv m b l) G) k
  | [], c, k, hl => by
    rw [sv, show cv m [] G = fun _ => 0 from funext fun k => by cases k <;> rfl, Lf_nought, ev_cons b hl.head, ev_nil, zero_mul, Nat.zero_xor, Nat.xor_zero]
    cases k with
    | zero => rfl
    | succ k => rw [cv, cv, Nat.xor_zero]
  | d :: l, c, 0, hl => by
    have he := ev_le h b (d :: l)
    rw [ev_cons b hl.head]
    show mul m c (nth G 0) = mul m (mul m (ev m b (d :: l)) b ^^^ c) (nth G 0) ^^^ mul m b (mul m (ev m b (d :: l)) (nth G 0))
    rw [xor_mul h (hG 0) (mul_le h _ _) hl.head, ← mul_assoc h hb he (hG 0), mul_comm m b, xor3, Nat.xor_self, Nat.zero_xor]
  | d :: l, c, k + 1, hl => by
    have he := ev_le h b (d :: l)
    have ih := cv_sv h hb hG l d k hl.tail
    rw [ev_cons b hl.head, cv, ih]
    have e1 : Lf m b (cv m (sv m b (d :: l)) G) (k + 1) = mul m b (mul m (ev m b (d :: l)) (nth G (k + 1)) ^^^ cv m (sv m b l) G k) ^^^ cv m (sv m b (d :: l)) G k := rfl
    rw [e1, xor_mul h (hG _) (mul_le h _ _) hl.head, mul_xor h hb (mul_le h _ _) (cv_le h _ _ _), ← mul_assoc h hb he (hG _), mul_comm m b (ev m b (d :: l)), xor_drop]
    congr 1
    cases k with
    | zero =>
      show mul m (ev m b (d :: l)) (nth G 0) ^^^ mul m b (cv m (sv m b l) G 0) = mul m b (cv m (sv m b l) G 0) ^^^ mul m (ev m b (d :: l)) (nth G 0)
      exact Nat.xor_comm _ _
    | succ k =>
      show mul m (ev m b (d :: l)) (nth G (k + 1)) ^^^ (mul m b (cv m (sv m b l) G (k + 1)) ^^^ cv m (sv m b l) G k) = mul m b (cv m (sv m b l) G (k + 1)) ^^^ (mul m (ev m b (d :: l)) (nth G (k + 1)) ^^^ cv m (sv m b l) G k)
      rw [← Nat.xor_assoc, ← Nat.xor_assoc, Nat.xor_comm (mul m (ev m b (d :: l)) _)]
theorem ev_of_nth {m : Nat} (x : Nat) {a b : List Nat} (ha : Els m a) (hb : Els m b) (e : ∀ k, nth a k = nth b k) : ev m x a = ev m x b := by
  have : trimN a = trimN b := eq_of_nth (trimmed_trim _) (trimmed_trim _) fun k => by rw [nth_trim, nth_trim, e]
  rw [← ev_trim x ha, ← ev_trim x hb, this]
/-- What goes into X, and is not 0 at b where X is, goes into it with (x + b). -/
theorem Comb.root {m b : Nat} (h : Em m) (hb : b ≤ sz m) {G H X : List Nat} (hG : Els m G) (hX : Els m X) (e : ∀ k, nth H k = Lf m b (nth G) k) (hc : Comb m G [] X) (x0 : ev m b X = 0) (g0 : ev m b G ≠ 0) : Comb m H [] X := by
  obtain ⟨A, hA, hk⟩ := hc
  have hk' : ∀ k, nth X k = cv m A G k := fun k => by rw [hk, nth_nil, Nat.xor_zero]
  have hA0 : ev m b A = 0 := by
    have h1 := ev_of_nth b hX (tm_els h A G) (fun k => by rw [hk', nth_tm])
    rw [ev_tm h hb hA hG, x0] at h1
    exact Classical.byContradiction fun hne => mul_ne h hne g0 h1.symm
  cases A with
  | nil => exact ⟨[], hA, fun k => by rw [hk]; cases k <;> rfl⟩
  | cons c l =>
    refine ⟨sv m b l, sv_els h b l, fun k => ?_⟩
    rw [hk', cv_sv h hb hG l c k hA, hA0, zero_mul, Nat.zero_xor, nth_nil, Nat.xor_zero, cv_lin2 h hb hG e _ _ (sv_els h b l)]
/-- Coefficients 0 and 1 alone. -/
def Bits (l : List Nat) : Prop := ∀ k, nth l k ≤ 1
theorem Bits.els {m : Nat} (h : Em m) {l : List Nat} (hl : Bits l) : Els m l := fun k => by
  have := sz_bd h
  have := hl k
  omega
theorem bit_sq {m c : Nat} (h : Em m) (hc : c ≤ 1) : mul m c c = c := by
  have := sz_bd h
  by_cases e : c = 0
  · subst e; exact zero_mul _ _
  · obtain rfl : c = 1 := by omega
    exact mul_one h (by omega)
theorem ev_sq {m x : Nat} (h : Em m) (hx : x ≤ sz m) : ∀ l, Bits l → ev m (mul m x x) l = mul m (ev m x l) (ev m x l)
  | [], _ => by rw [ev_nil, ev_nil, zero_mul]
  | c :: l, hl => by
    have hs := sz_bd h
    have hc : c ≤ 1 := hl 0
    rw [ev_cons _ (by omega), ev_cons _ (by omega), ev_sq h hx l (fun k => hl (k + 1)), square_add h (mul_le h _ _) (by omega), mul_sq h (ev_le h x l) hx, bit_sq h hc]
theorem two_pow_dbl (E k : Nat) : E * 2 ^ (k + 1) = E * 2 ^ k + E * 2 ^ k := by
  rw [Nat.pow_succ, ← Nat.mul_assoc]; omega
theorem ev_conj {m E : Nat} (h : Em m) {l : List Nat} (hB : Bits l) (h0 : ev m (pw m E) l ≠ 0) : ∀ k, ev m (pw m (E * 2 ^ k)) l ≠ 0
  | 0 => by rw [Nat.pow_zero, Nat.mul_one]; exact h0
  | k + 1 => by
    rw [two_pow_dbl, ← mul_pw h, ev_sq h (pw_bd h _).2 l hB]
    exact mul_ne h (ev_conj h hB h0 k) (ev_conj h hB h0 k)
theorem ev_lin {m x a : Nat} (h : Em m) (hx : x ≤ sz m) (ha : a ≤ sz m) : ev m x [a, 1] = x ^^^ a := by
  have := sz_bd h
  rw [ev_cons x ha, ev_cons x (by omega), ev_nil, zero_mul, Nat.zero_xor, one_mul h hx]
theorem els_lin {m a : Nat} (h : Em m) (ha : a ≤ sz m) : Els m [a, 1] := by
  have := sz_bd h
  exact Els.cons ha (Els.cons (by omega) (fun k => by rw [nth_nil]; exact Nat.zero_le _))
theorem trimmed_lin (a : Nat) : Trimmed [a, 1] := fun _ => by simp [nth]
theorem tm_ne {m : Nat} {p q : List Nat} (hp : p ≠ []) (hq : q ≠ []) : tmS m p q ≠ [] := by
  have l1 : 0 < p.length := List.length_pos_iff.2 hp
  have l2 : 0 < q.length := List.length_pos_iff.2 hq
  apply List.length_pos_iff.1
  unfold tmS
  rw [if_neg (by rintro (e | e); exact hp e; exact hq e), outer_len]; simp; omega
theorem xor_ne {a b : Nat} (h : a ≠ b) : a ^^^ b ≠ 0 := fun e => h (by
  have := congrArg (· ^^^ b) e
  simpa [Nat.xor_assoc] using this)
theorem pw_back {m E i : Nat} (h : Em m) : ∀ j, pw m (E * 2 ^ (i + j)) = pw m (E * 2 ^ j) → pw m (E * 2 ^ i) = pw m E
  | 0, e => by rwa [Nat.pow_zero, Nat.mul_one, Nat.add_zero] at e
  | j + 1, e => by
    rw [← Nat.add_assoc, two_pow_dbl, two_pow_dbl, ← mul_pw h, ← mul_pw h] at e
    exact pw_back h j (sq_inj h (pw_bd h _).2 (pw_bd h _).2 e)
/-- What holds of a minimal polynomial while it is made: G stands beside it, X is what both go into. -/
structure Mi (m E : Nat) (G X p : List Nat) (k : Nat) : Prop where
  els : Els m p
  trm : Trimmed p
  ne : p ≠ []
  cf : ∀ i, nth p i = Pf m E k i
  root : ev m (pw m E) p = 0
  off : ∀ x, x ≤ sz m → (∀ j, j < k → x ≠ pw m (E * 2 ^ j)) → ev m x p ≠ 0
  dist : ∀ j, 1 ≤ j → j < k → pw m (E * 2 ^ j) ≠ pw m E
  comb : Comb m (tmS m G p) [] X
theorem Mi.start {m E : Nat} (h : Em m) {G X : List Nat} (hG : Bits G) (hX : Els m X) (x0 : ∀ i, ev m (pw m i) X = 0) (hc : Comb m G [] X) (g0 : ev m (pw m E) G ≠ 0) : Mi m E G X [pw m E, 1] 1 := by
  have ha := (pw_bd h E).2
  refine ⟨els_lin h ha, trimmed_lin _, by simp, fun i => ?_, ?_, fun x hx hj => ?_, fun j h1 h2 => by omega, ?_⟩
  · rw [Pf_rot h]
    cases i with
    | zero => show pw m E = mul m (pw m E) 1; rw [mul_one h ha]
    | succ i =>
      cases i with
      | zero => show 1 = mul m (pw m E) 0 ^^^ 1; rw [mul_zero, Nat.zero_xor]
      | succ i =>
        show nth [pw m E, 1] (i + 2) = mul m (pw m E) 0 ^^^ 0
        rw [nth_over _ (by simp), mul_zero]; rfl
  · rw [ev_lin h ha ha, Nat.xor_self]
  · rw [ev_lin h hx ha]
    have := hj 0 (by omega)
    rw [Nat.pow_zero, Nat.mul_one] at this
    exact xor_ne this
  · exact Comb.root h ha (hG.els h) hX (fun k => by rw [nth_tm, cv_lin h _ _ (hG.els h)]) hc (x0 E) g0
theorem Mi.step {m E k : Nat} (h : Em m) {G X p : List Nat} (hG : Bits G) (hX : Els m X) (x0 : ∀ i, ev m (pw m i) X = 0) (g0 : ev m (pw m E) G ≠ 0) (hi : Mi m E G X p k) (hne : pw m (E * 2 ^ k) ≠ pw m E) : Mi m E G X (tmS m p [pw m (E * 2 ^ k), 1]) (k + 1) := by
  have ha := (pw_bd h (E * 2 ^ k)).2
  have hl := els_lin h ha
  have hnw : ∀ j, j < k → pw m (E * 2 ^ k) ≠ pw m (E * 2 ^ j) := fun j hj e => by
    by_cases h0 : j = 0
    · subst h0
      rw [Nat.pow_zero, Nat.mul_one] at e
      exact hne e
    · exact hi.dist (k - j) (by omega) (by omega) (pw_back h j (by rw [Nat.sub_add_cancel (by omega)]; exact e))
  have hcf : ∀ i, nth (tmS m p [pw m (E * 2 ^ k), 1]) i = Lf m (pw m (E * 2 ^ k)) (nth p) i := fun i => by rw [nth_tm, cv_lin h _ _ hi.els]
  refine ⟨tm_els h _ _, tm_trimmed h hi.trm (trimmed_lin _), tm_ne hi.ne (by simp), fun i => ?_, ?_, fun x hx hj => ?_, fun j h1 h2 => ?_, ?_⟩
  · rw [hcf, Lf_congr hi.cf]; rfl
  · rw [ev_tm h (pw_bd h E).2 hi.els hl, hi.root, zero_mul]
  · rw [ev_tm h hx hi.els hl, ev_lin h hx ha]
    exact mul_ne h (hi.off x hx fun j hjk => hj j (by omega)) (xor_ne (hj k (by omega)))
  · by_cases e : j = k
    · subst e; exact hne
    · exact hi.dist j h1 (by omega)
  · refine Comb.root h ha (tm_els h G p) hX (fun i => ?_) hi.comb (x0 _) ?_
    · rw [nth_tm, cv_lin2 h ha hi.els hcf G i (hG.els h)]
      exact Lf_congr (fun i => by rw [nth_tm]) i
    · rw [ev_tm h ha (hG.els h) hi.els]
      exact mul_ne h (ev_conj h hG g0 k) (hi.off _ ha hnw)
theorem minGo_inv {m E : Nat} (h : Em m) {G X : List Nat} (hG : Bits G) (hX : Els m X) (x0 : ∀ i, ev m (pw m i) X = 0) (g0 : ev m (pw m E) G ≠ 0) : ∀ (f k : Nat) (p : List Nat), k + f = m + 1 → k ≤ m → 1 ≤ k → Mi m E G X p k →
    ∃ d, 1 ≤ d ∧ pw m (E * 2 ^ d) = pw m E ∧ Mi m E G X (minGo m (pw m E) f (pw m (E * 2 ^ k)) p) d
  | 0, k, p, h1, h2, _, _ => by omega
  | f + 1, k, p, h1, h2, h3, hi => by
    rw [minGo]
    split
    · rename_i e
      exact ⟨k, h3, e, hi⟩
    · rename_i hne
      have hlt : k < m := by
        rcases Nat.lt_or_ge k m with h' | h'
        · exact h'
        · exact absurd (by rw [show k = m by omega]; exact pw_frob h E) hne
      rw [mul_pw h, ← two_pow_dbl, tmI_eq hi.els hi.trm (els_lin h (pw_bd h _).2) (trimmed_lin _)]
      exact minGo_inv h hG hX x0 g0 f (k + 1) _ (by omega) (by omega) (by omega) (hi.step h hG hX x0 g0 hne)
theorem minS_inv {m : Nat} (h : Em m) (n : Int) {G X : List Nat} (hG : Bits G) (hX : Els m X) (x0 : ∀ i, ev m (pw m i) X = 0) (hc : Comb m G [] X) (g0 : ev m (pw m (wrapS m n)) G ≠ 0) :
    Bits (minS m n) ∧ Trimmed (minS m n) ∧ minS m n ≠ [] ∧ ev m (pw m (wrapS m n)) (minS m n) = 0 ∧ Comb m (tmS m G (minS m n)) [] X := by
  obtain ⟨d, h1, h2, hi⟩ := minGo_inv h hG hX x0 g0 m 1 [pw m (wrapS m n), 1] (by omega) (by have := h.1; omega) (Nat.le_refl _) (Mi.start h hG hX x0 hc g0)
  have e : minGo m (pw m (wrapS m n)) m (pw m (wrapS m n * 2 ^ 1)) [pw m (wrapS m n), 1] = minS m n := by
    unfold minS
    rw [mul_pw h, show wrapS m n + wrapS m n = wrapS m n * 2 ^ 1 by omega]
  rw [e] at hi
  refine ⟨fun k => ?_, hi.trm, hi.ne, hi.root, hi.comb⟩
  rw [hi.cf]
  exact sq_fix h (Pf_le h _ _ _) (Pf_fix h h1 h2 k)
theorem bit_mul {m a b : Nat} (h : Em m) (ha : a ≤ 1) (hb : b ≤ 1) : mul m a b ≤ 1 := by
  have := sz_bd h
  by_cases e : a = 0
  · subst e; rw [zero_mul]; omega
  · obtain rfl : a = 1 := by omega
    rw [one_mul h (by omega)]; exact hb
theorem bit_xor {a b : Nat} (ha : a ≤ 1) (hb : b ≤ 1) : a ^^^ b ≤ 1 := by
  have h1 : a = 0 ∨ a = 1 := by omega
  have h2 : b = 0 ∨ b = 1 := by omega
  rcases h1 with rfl | rfl <;> rcases h2 with rfl | rfl <;> decide
theorem cv_bits {m : Nat} (h : Em m) {Q : List Nat} (hQ : Bits Q) : ∀ (A : List Nat) (k : Nat), Bits A → cv m A Q k ≤ 1
  | [], _, _ => Nat.zero_le _
  | _ :: _, 0, hA => bit_mul h (hA 0) (hQ 0)
  | _ :: A, k + 1, hA => bit_xor (bit_mul h (hA 0) (hQ (k + 1))) (cv_bits h hQ A k (fun k => hA (k + 1)))
/-- What holds of a generator while it is made. -/
structure Gi (m : Nat) (X G : List Nat) (n : Nat) : Prop where
  bits : Bits G
  trm : Trimmed G
  ne : G ≠ []
  roots : ∀ j : Nat, 1 ≤ j → j ≤ n → ev m (pw m (wrapS m (j : Int))) G = 0
  comb : Comb m G [] X
theorem genGo_inv {m : Nat} (h : Em m) {X : List Nat} (hX : Els m X) (tX : Trimmed X) (x0 : ∀ i, ev m (pw m i) X = 0) : ∀ n, Gi m X (genGo m n) n
  | 0 => by
    refine ⟨fun k => ?_, fun _ => by simp [genGo, nth], by simp [genGo], fun j h1 h2 => by omega, X, hX, fun k => ?_⟩
    · cases k with
      | zero => exact Nat.le_refl _
      | succ k => rw [genGo, nth_over _ (by simp)]; omega
    · rw [genGo, ← nth_tm, tm_one h hX tX, nth_nil, Nat.xor_zero]
  | n + 1 => by
    have hi := genGo_inv h hX tX x0 n
    rw [genGo]
    split
    · rename_i e
      refine ⟨hi.bits, hi.trm, hi.ne, fun j h1 h2 => ?_, hi.comb⟩
      by_cases hj : j = n + 1
      · subst hj; exact e
      · exact hi.roots j h1 (by omega)
    · rename_i hne
      obtain ⟨b1, b2, b3, b4, b5⟩ := minS_inv h ((n + 1 : Nat) : Int) hi.bits hX x0 hi.comb hne
      rw [tmI_eq (hi.bits.els h) hi.trm (b1.els h) b2]
      refine ⟨fun k => ?_, tm_trimmed h hi.trm b2, tm_ne hi.ne b3, fun j h1 h2 => ?_, b5⟩
      · rw [nth_tm]; exact cv_bits h b1 _ _ hi.bits
      · rw [ev_tm h (pw_bd h _).2 (hi.bits.els h) (b1.els h)]
        by_cases hj : j = n + 1
        · subst hj; rw [b4, mul_zero]
        · rw [hi.roots j h1 (by omega), zero_mul]
/-- x to the field's size, and 1. -/
def xn (m : Nat) : List Nat := ((List.replicate (sz m + 1) 0).set 0 1).set (sz m) 1
theorem xn_len (m : Nat) : (xn m).length = sz m + 1 := by simp [xn]
theorem xn_put {m : Nat} (h : Em m) : xn m = put (put (List.replicate (sz m + 1) 0) 0 1) (sz m) 1 := by
  have := sz_bd h
  have e : nth ((List.replicate (sz m + 1) 0).set 0 1) (sz m) = 0 := by
    unfold nth
    rw [List.getD_eq_getElem?_getD, List.getElem?_set_ne (by omega), List.getElem?_replicate]
    split <;> rfl
  unfold put
  rw [nth_zeros, Nat.zero_xor, e, Nat.zero_xor]; rfl
theorem xn_els {m : Nat} (h : Em m) : Els m (xn m) := by
  have := sz_bd h
  rw [xn_put h]
  exact ((Els.zeros m _).put _ (by omega)).put _ (by omega)
theorem xn_trimmed {m : Nat} : Trimmed (xn m) := fun _ => by
  rw [xn_len, nth_of (by rw [xn_len]; omega)]
  simp [xn]
theorem px_pw {m : Nat} (h : Em m) (i : Nat) : ∀ k, px m (pw m i) k = pw m (i * k)
  | 0 => rfl
  | k + 1 => by rw [px, px_pw h i k, mul_pw h, Nat.mul_succ]
theorem xn_roots {m : Nat} (h : Em m) (i : Nat) : ev m (pw m i) (xn m) = 0 := by
  have hs := sz_bd h
  have hi := (pw_bd h i).2
  rw [xn_put h, ev_put h hi _ _ _ ((Els.zeros m _).put _ (by omega)) (by omega) (by rw [put_len]; simp), ev_put h hi _ _ _ (Els.zeros m _) (by omega) (by simp), ev_zeros, Nat.zero_xor]
  rw [px_pw h, px_pw h, ← pw_mod h (i * sz m), Nat.mul_mod_left, Nat.mul_zero, Nat.xor_self]
/-- The generator, said plainly. -/
theorem gen_facts {m : Nat} (h : Em m) (t : Nat) (ht : 1 ≤ t) :
    Bits (genS m t) ∧ 1 < (genS m t).length ∧ nth (genS m t) ((genS m t).length - 1) = 1 ∧ (∀ j : Nat, 1 ≤ j → j ≤ 2 * t → evS m (pw m (wrapS m (j : Int))) (ints (genS m t)) = 0) ∧ restS m (rowS m (ints (xn m))) (rowS m (ints (genS m t))) = [] := by
  have hi : Gi m (xn m) (genS m t) (2 * t) := genGo_inv h (xn_els h) xn_trimmed (xn_roots h) (2 * t)
  have hl : 0 < (genS m t).length := List.length_pos_iff.2 hi.ne
  have hlast : nth (genS m t) ((genS m t).length - 1) = 1 := by
    have h1 := hi.bits ((genS m t).length - 1)
    have h2 := hi.trm hi.ne
    omega
  refine ⟨hi.bits, ?_, hlast, hi.roots, ?_⟩
  · apply Classical.byContradiction
    intro hle
    have e1 : (genS m t).length = 1 := by omega
    have hr := hi.roots 1 (Nat.le_refl _) (by omega)
    obtain ⟨g, hg⟩ := List.length_eq_one_iff.1 e1
    have hb := hi.bits.els h
    rw [hg] at hr hlast hb
    rw [ev_cons _ hb.head, ev_nil, zero_mul, Nat.zero_xor] at hr
    rw [hr] at hlast
    simp [nth] at hlast
  · rw [rowS_ints (xn_els h), trim_of_trimmed xn_trimmed, rowS_ints (hi.bits.els h), trim_of_trimmed hi.trm]
    exact rest_comb h (hi.bits.els h) hi.trm hi.ne hl (fun e => absurd rfl e) (xn_els h) xn_trimmed hi.comb
end Gf
end Go.Proofs.YtkbafbhhoemkcaaDoor
