/- Polynomials: values of sums and products; products by their coefficients; division has one rest. -/
import Derived.Test.YtkbafbhhoemkcaaDoorRs
namespace Go.Proofs.YtkbafbhhoemkcaaDoor
namespace Gf
theorem mul_px_swap {m a b x : Nat} (h : Em m) (ha : a ≤ sz m) (hb : b ≤ sz m) (hx : x ≤ sz m) : mul m (mul m a b) x = mul m (mul m a x) b := by
  rw [mul_assoc h ha hb hx, mul_comm m b x, ← mul_assoc h ha hx hb]
/-- Powers of any element, one by one. -/
def px (m x : Nat) : Nat → Nat
  | 0 => 1
  | k + 1 => mul m (px m x k) x
theorem px_le {m : Nat} (h : Em m) (x k : Nat) : px m x k ≤ sz m := by
  have := sz_bd h
  cases k with
  | zero => simp [px]; omega
  | succ k => exact mul_le h _ _
/-- The value of a row. -/
def ev (m x : Nat) (l : List Nat) : Nat := evS m x (ints l)
theorem ev_nil (m x : Nat) : ev m x [] = 0 := rfl
theorem ev_cons {m c : Nat} (x : Nat) (hc : c ≤ sz m) (l : List Nat) : ev m x (c :: l) = mul m (ev m x l) x ^^^ c := by
  show mul m (evS m x (ints l)) x ^^^ el m (c : Int) = _
  rw [el_of hc]; rfl
theorem ev_le {m : Nat} (h : Em m) (x : Nat) (l : List Nat) : ev m x l ≤ sz m := evS_le h x _
theorem Els.head {m c : Nat} {l : List Nat} (h : Els m (c :: l)) : c ≤ sz m := h 0
theorem Els.tail {m c : Nat} {l : List Nat} (h : Els m (c :: l)) : Els m l := fun k => h (k + 1)
theorem Els.cons {m c : Nat} {l : List Nat} (hc : c ≤ sz m) (h : Els m l) : Els m (c :: l) := fun k => by
  cases k with
  | zero => exact hc
  | succ k => exact h k
theorem nth_cons_succ (c : Nat) (l : List Nat) (k : Nat) : nth (c :: l) (k + 1) = nth l k := by simp [nth]
theorem nth_cons_zero (c : Nat) (l : List Nat) : nth (c :: l) 0 = c := rfl
theorem ev_snoc {m x : Nat} (h : Em m) (hx : x ≤ sz m) : ∀ (l : List Nat) (c : Nat), Els m l → c ≤ sz m → ev m x (l ++ [c]) = ev m x l ^^^ mul m c (px m x l.length)
  | [], c, _, hc => by
    rw [List.nil_append, ev_cons x hc, ev_nil, zero_mul, List.length_nil, px, mul_one h hc]
  | a :: l, c, hl, hc => by
    rw [List.cons_append, ev_cons x hl.head, ev_snoc h hx l c hl.tail hc, ev_cons x hl.head, xor_mul h hx (ev_le h x l) (mul_le h _ _)]
    rw [List.length_cons, px, mul_assoc h hc (px_le h x _) hx]
    rw [Nat.xor_assoc, Nat.xor_assoc, Nat.xor_comm a]
theorem ev_put {m x : Nat} (h : Em m) (hx : x ≤ sz m) : ∀ (r : List Nat) (k v : Nat), Els m r → v ≤ sz m → k < r.length → ev m x (put r k v) = ev m x r ^^^ mul m v (px m x k)
  | [], k, v, _, _, hk => by simp at hk
  | c :: r, 0, v, hr, hv, _ => by
    have e : put (c :: r) 0 v = (c ^^^ v) :: r := rfl
    rw [e, ev_cons x (xor_le hr.head hv), ev_cons x hr.head, px, mul_one h hv, Nat.xor_assoc]
  | c :: r, k + 1, v, hr, hv, hk => by
    have e : put (c :: r) (k + 1) v = c :: put r k v := rfl
    have hk' : k < r.length := by simpa using hk
    rw [e, ev_cons x hr.head, ev_put h hx r k v hr.tail hv hk', ev_cons x hr.head, xor_mul h hx (ev_le h x r) (mul_le h _ _)]
    rw [px, mul_assoc h hv (px_le h x _) hx, Nat.xor_assoc, Nat.xor_assoc, Nat.xor_comm c]
theorem px_add {m x : Nat} (h : Em m) (hx : x ≤ sz m) (i j : Nat) : px m x (i + j) = mul m (px m x i) (px m x j) := by
  induction j with
  | zero => rw [Nat.add_zero, px, mul_one h (px_le h x i)]
  | succ j ih => rw [← Nat.add_assoc, px, ih, px, mul_assoc h (px_le h x i) (px_le h x j) hx]
theorem els_take {m : Nat} {l : List Nat} (h : Els m l) (n : Nat) : Els m (l.take n) := by
  intro k
  by_cases hk : k < n
  · rw [nth_take l hk]; exact h k
  · rw [nth_over _ (by simp; omega)]; exact Nat.zero_le _
theorem ev_take_succ {m x : Nat} (h : Em m) (hx : x ≤ sz m) {l : List Nat} (hl : Els m l) {j : Nat} (hj : j < l.length) : ev m x (l.take (j + 1)) = ev m x (l.take j) ^^^ mul m (nth l j) (px m x j) := by
  rw [take_snoc' hj, ev_snoc h hx _ _ (els_take hl j) (hl j), List.length_take, Nat.min_eq_left (by omega)]
theorem ev_inner {m x : Nat} (h : Em m) (hx : x ≤ sz m) {a : Nat} (ha : a ≤ sz m) {q : List Nat} (hq : Els m q) (i : Nat) {r : List Nat} (hr : Els m r) (j : Nat) (hj : j ≤ q.length) (hir : i + j ≤ r.length) :
    ev m x (inner m a q i r j) = ev m x r ^^^ mul m (mul m a (px m x i)) (ev m x (q.take j)) := by
  induction j with
  | zero => rw [inner, List.take_zero, ev_nil, mul_zero, Nat.xor_zero]
  | succ j ih =>
    rw [inner, ev_put h hx _ _ _ (hr.inner h _ _ _ _) (mul_le h _ _) (by rw [inner_len]; omega), ih (by omega) (by omega)]
    rw [ev_take_succ h hx hq (by omega), mul_xor h (mul_le h _ _) (ev_le h x _) (mul_le h _ _), Nat.xor_assoc]
    congr 2
    rw [px_add h hx, mul_assoc h ha (hq j) (mul_le h _ _), mul_assoc h ha (px_le h x i) (mul_le h _ _)]
    congr 1
    rw [← mul_assoc h (hq j) (px_le h x i) (px_le h x j), mul_comm m (nth q j), mul_assoc h (px_le h x i) (hq j) (px_le h x j)]
theorem ev_outer {m x : Nat} (h : Em m) (hx : x ≤ sz m) {p q r : List Nat} (hp : Els m p) (hq : Els m q) (hr : Els m r) (i : Nat) (hi : i ≤ p.length) (hlen : p.length + q.length ≤ r.length + 1) :
    ev m x (outer m p q r i) = ev m x r ^^^ mul m (ev m x (p.take i)) (ev m x q) := by
  induction i with
  | zero => rw [outer, List.take_zero, ev_nil, zero_mul, Nat.xor_zero]
  | succ i ih =>
    rw [outer, ev_inner h hx (hp i) hq i (hr.outer h _ _ _) q.length (Nat.le_refl _) (by rw [outer_len]; omega), ih (by omega), List.take_length]
    rw [ev_take_succ h hx hp (by omega), xor_mul h (ev_le h x q) (ev_le h x _) (mul_le h _ _), Nat.xor_assoc]
theorem ev_zeros {m : Nat} (x : Nat) (n : Nat) : ev m x (List.replicate n 0) = 0 := by
  induction n with
  | zero => rfl
  | succ n ih => rw [List.replicate_succ, ev_cons x (Nat.zero_le _), ih, zero_mul]; rfl
/-- The value of a product is the product of the values. -/
theorem ev_tm {m x : Nat} (h : Em m) (hx : x ≤ sz m) {p q : List Nat} (hp : Els m p) (hq : Els m q) : ev m x (tmS m p q) = mul m (ev m x p) (ev m x q) := by
  unfold tmS
  split
  · rename_i e
    rcases e with rfl | rfl
    · rw [ev_nil, zero_mul]
    · rw [ev_nil, mul_zero]
  · rename_i e
    have h1 : p.length ≠ 0 := fun h => e (.inl (List.eq_nil_of_length_eq_zero h))
    have h2 : q.length ≠ 0 := fun h => e (.inr (List.eq_nil_of_length_eq_zero h))
    rw [ev_outer h hx hp hq (Els.zeros _ _) p.length (Nat.le_refl _) (by simp; omega), ev_zeros, Nat.zero_xor, List.take_length]
theorem ev_append_zeros {m : Nat} (x : Nat) : ∀ (l z : List Nat), Els m l → (∀ c ∈ z, c = 0) → ev m x (l ++ z) = ev m x l
  | [], z, _, hz => by
    have : z = List.replicate z.length 0 := List.eq_replicate_iff.2 ⟨rfl, hz⟩
    rw [List.nil_append, this, ev_zeros, ev_nil]
  | a :: l, z, hl, hz => by
    rw [List.cons_append, ev_cons x hl.head, ev_append_zeros x l z hl.tail hz, ev_cons x hl.head]
theorem trimN_split (l : List Nat) : ∃ z, l = trimN l ++ z ∧ ∀ c ∈ z, c = 0 := by
  refine ⟨(l.reverse.takeWhile (· == 0)).reverse, ?_, fun c hc => ?_⟩
  · have := (List.takeWhile_append_dropWhile (p := fun x => x == 0) (l := l.reverse))
    have := congrArg List.reverse this
    simp only [List.reverse_append, List.reverse_reverse] at this
    exact this.symm
  · have h1 := List.all_eq_true.1 (List.all_takeWhile (p := fun x : Nat => x == 0) (l := l.reverse)) c (List.mem_reverse.1 hc)
    simpa using h1
theorem ev_trim {m : Nat} (x : Nat) {l : List Nat} (hl : Els m l) : ev m x (trimN l) = ev m x l := by
  obtain ⟨z, e, hz⟩ := trimN_split l
  have := ev_append_zeros x (trimN l) z (els_trim hl) hz
  rw [← e] at this
  exact this.symm
theorem evS_els (m x : Nat) : ∀ p : List Int, evS m x p = ev m x (p.map (el m))
  | [] => rfl
  | a :: p => by
    rw [List.map_cons, ev_cons x (el_le m a), ← evS_els m x p]; rfl
theorem els_map (m : Nat) (p : List Int) : Els m (p.map (el m)) := mem_le fun x hx => by
  simp at hx
  obtain ⟨a, _, rfl⟩ := hx
  exact el_le m a
theorem ev_row (m x : Nat) (p : List Int) : ev m x (rowS m p) = evS m x p := by
  rw [evS_els, rowS, ev_trim x (els_map m p)]
theorem square_add {m a b : Nat} (h : Em m) (ha : a ≤ sz m) (hb : b ≤ sz m) : mul m (a ^^^ b) (a ^^^ b) = mul m a a ^^^ mul m b b := by
  rw [mul_xor h (xor_le ha hb) ha hb, xor_mul h ha ha hb, xor_mul h hb ha hb, mul_comm m b a]
  rw [Nat.xor_assoc, ← Nat.xor_assoc (mul m a b), Nat.xor_self, Nat.zero_xor]
end Gf
end Go.Proofs.YtkbafbhhoemkcaaDoor
