/- Polynomials: values of sums and products; products by their coefficients; division has one rest. -/
import Derived.Test.YtiojdoehlooibaaDoorZRs
namespace Go.Proofs.YtiojdoehlooibaaDoor
namespace Gf
theorem mul_px_swap {m a b x : Nat} (h : Em m) (ha : a ≤ sz m) (hb : b ≤ sz m) (hx : x ≤ sz m) : mul m (mul m a b) x = mul m (mul m a x) b := by
  rw [mul_assoc h ha hb hx, mul_comm m b x, ← mul_assoc h ha hx hb]
/-- Powers of any element, one by one. -/
def px (m x : Nat) : Nat → Nat
  | 0 => 1
  | k + 1 => mul m (px m x k) x
theorem px_le {m : Nat} (h : Em m) (x k : Nat) : px m x k ≤ sz m := by
  have := sz_bd h
  cases k with
  | zero => simp [px]; omega
  | succ k => exact mul_le h _ _
/-- The value of a row. -/
def ev (m x : Nat) (l : List Nat) : Nat := evS m x (ints l)
theorem ev_nil (m x : Nat) : ev m x [] = 0 := rfl
theorem ev_cons {m c : Nat} (x : Nat) (hc : c ≤ sz m) (l : List Nat) : ev m x (c :: l) = mul m (ev m x l) x ^^^ c := by
  show mul m (evS m x (ints l)) x ^^^ el m (c : Int) = _
  rw [el_of hc]; rfl
theorem ev_le {m : Nat} (h : Em m) (x : Nat) (l : List Nat) : ev m x l ≤ sz m := evS_le h x _
theorem Els.head {m c : Nat} {l : List Nat} (h : Els m (c :: l)) : c ≤ sz m := h 0
theorem Els.tail {m c : Nat} {l : List Nat} (h : Els m (c :: l)) : Els m l := fun k => h (k + 1)
theorem Els.cons {m c : Nat} {l : List Nat} (hc : c ≤ sz m) (h : Els m l) : Els m (c :: l) := fun k => by
  cases k with
  | zero => exact hc
  | succ k => exact h k
theorem nth_cons_succ (c : Nat) (l : List Nat) (k : Nat) : nth (c :: l) (k + 1) = nth l k := by simp [nth]
theorem nth_cons_zero (c : Nat) (l : List Nat) : nth (c :: l) 0 = c := rfl
theorem ev_snoc {m x : Nat} (h : Em m) (hx : x ≤ sz m) : ∀ (l : List Nat) (c : Nat), Els m l → c ≤ sz m → ev m x (l ++ [c]) = ev m x l ^^^ mul m c (px m x l.length)
  | [], c, _, hc => by
    rw [List.nil_append, ev_cons x hc, ev_nil, zero_mul, List.length_nil, px, mul_one h hc]
  | a :: l, c, hl, hc => by
    rw [List.cons_append, ev_cons x hl.head, ev_snoc h hx l c hl.tail hc, ev_cons x hl.head, xor_mul h hx (ev_le h x l) (mul_le h _ _)]
    rw [List.length_cons, px, mul_assoc h hc (px_le h x _) hx]
    rw [Nat.xor_assoc, Nat.xor_assoc, Nat.xor_comm a]
theorem ev_put {m x : Nat} (h : Em m) (hx : x ≤ sz m) : ∀ (r : List Nat) (k v : Nat), Els m r → v ≤ sz m → k < r.length → ev m x (put r k v) = ev m x r ^^^ mul m v (px m x k)
  | [], k, v, _, _, hk => by simp at hk
  | c :: r, 0, v, hr, hv, _ => by
    have e : put (c :: r) 0 v = (c ^^^ v) :: r := rfl
    rw [e, ev_cons x (xor_le hr.head hv), ev_cons x hr.head, px, mul_one h hv, Nat.xor_assoc]
  | c :: r, k + 1, v, hr, hv, hk => by
    have e : put (c :: r) (k + 1) v = c :: put r k v := rfl
    have hk' : k < r.length := by simpa using hk
    rw [e, ev_cons x hr.head, ev_put h hx r k v hr.tail hv hk', ev_cons x hr.head, xor_mul h hx (ev_le h x r) (mul_le h _ _)]
    rw [px, mul_assoc h hv (px_le h x _) hx, Nat.xor_assoc, Nat.xor_assoc, Nat.xor_comm c]
theorem px_add {m x : Nat} (h : Em m) (hx : x ≤ sz m) (i j : Nat) : px m x (i + j) = mul m (px m x i) (px m x j) := by
  induction j with
  | zero => rw [Nat.add_zero, px, mul_one h (px_le h x i)]
  | succ j ih => rw [← Nat.add_assoc, px, ih, px, mul_assoc h (px_le h x i) (px_le h x j) hx]
theorem els_take {m : Nat} {l : List Nat} (h : Els m l) (n : Nat) : Els m (l.take n) := by
  intro k
  by_cases hk : k < n
  · rw [nth_take l hk]; exact h k
  · rw [nth_over _ (by simp; omega)]; exact Nat.zero_le _
theorem ev_take_succ {m x : Nat} (h : Em m) (hx : x ≤ sz m) {l : List Nat} (hl : Els m l) {j : Nat} (hj : j < l.length) : ev m x (l.take (j + 1)) = ev m x (l.take j) ^^^ mul m (nth l j) (px m x j) := by
  rw [take_snoc' hj, ev_snoc h hx _ _ (els_take hl j) (hl j), List.length_take, Nat.min_eq_left (by omega)]
theorem ev_inner {m x : Nat} (h : Em m) (hx : x ≤ sz m) {a : Nat} (ha : a ≤ sz m) {q : List Nat} (hq : Els m q) (i : Nat) {r : List Nat} (hr : Els m r) (j : Nat) (hj : j ≤ q.length) (hir : i + j ≤ r.length) :
    ev m x (inner m a q i r j) = ev m x r ^^^ mul m (mul m a (px m x i)) (ev m x (q.take j)) := by
  induction j with
  | zero => rw [inner, List.take_zero, ev_nil, mul_zero, Nat.xor_zero]
  | succ j ih =>
    rw [inner, ev_put h hx _ _ _ (hr.inner h _ _ _ _) (mul_le h _ _) (by rw [inner_len]; omega), ih (by omega) (by omega)]
    rw [ev_take_succ h hx hq (by omega), mul_xor h (mul_le h _ _) (ev_le h x _) (mul_le h _ _), Nat.xor_assoc]
    congr 2
    rw [px_add h hx, mul_assoc h ha (hq j) (mul_le h _ _), mul_assoc h ha (px_le h x i) (mul_le h _ _)]
    congr 1
    rw [← mul_assoc h (hq j) (px_le h x i) (px_le h x j), mul_comm m (nth q j), mul_assoc h (px_le h x i) (hq j) (px_le h x j)]
theorem ev_outer {m x : Nat} (h : Em m) (hx : x ≤ sz m) {p q r : List Nat} (hp : Els m p) (hq : Els m q) (hr : Els m r) (i : Nat) (hi : i ≤ p.length) (hlen : p.length + q.length ≤ r.length + 1) :
    ev m x (outer m p q r i) = ev m x r ^^^ mul m (ev m x (p.take i)) (ev m x q) := by
  induction i with
  | zero => rw [outer, List.take_zero, ev_nil, zero_mul, Nat.xor_zero]
  | succ i ih =>
    rw [outer, ev_inner h hx (hp i) hq i (hr.outer h _ _ _) q.length (Nat.le_refl _) (by rw [outer_len]; omega), ih (by omega), List.take_length]
    rw [ev_take_succ h hx hp (by omega), xor_mul h (ev_le h x q) (ev_le h x _) (mul_le h _ _), Nat.xor_assoc]
theorem ev_zeros {m : Nat} (x : Nat) (n : Nat) : ev m x (List.replicate n 0) = 0 := by
  induction n with
  | zero => rfl
  | succ n ih => rw [List.replicate_succ, ev_cons x (Nat.zero_le _), ih, zero_mul]; rfl
/-- The value of a product is the product of the values. -/
theorem ev_tm {m x : Nat} (h : Em m) (hx : x ≤ sz m) {p q : List Nat} (hp : Els m p) (hq : Els m q) : ev m x (tmS m p q) = mul m (ev m x p) (ev m x q) := by
  unfold tmS
  split
  · rename_i e
    rcases e with rfl | rfl
    · rw [ev_nil, zero_mul]
    · rw [ev_nil, mul_zero]
  · rename_i e
    have h1 : p.length ≠ 0 := fun h => e (.inl (List.eq_nil_of_length_eq_zero h))
    have h2 : q.length ≠ 0 := fun h => e (.inr (List.eq_nil_of_length_eq_zero h))
    rw [ev_outer h hx hp hq (Els.zeros _ _) p.length (Nat.le_refl _) (by simp; omega), ev_zeros, Nat.zero_xor, List.take_length]
theorem ev_append_zeros {m : Nat} (x : Nat) : ∀ (l z : List Nat), Els m l → (∀ c ∈ z, c = 0) → ev m x (l ++ z) = ev m x l
  | [], z, _, hz => by
    have : z = List.replicate z.length 0 := List.eq_replicate_iff.2 ⟨rfl, hz⟩
    rw [List.nil_append, this, ev_zeros, ev_nil]
  | a :: l, z, hl, hz => by
    rw [List.cons_append, ev_cons x hl.head, ev_append_zeros x l z hl.tail hz, ev_cons x hl.head]
theorem trimN_split (l : List Nat) : ∃ z, l = trimN l ++ z ∧ ∀ c ∈ z, c = 0 := by
  refine ⟨(l.reverse.takeWhile (· == 0)).reverse, ?_, fun c hc => ?_⟩
  · have := (List.takeWhile_append_dropWhile (p := fun x => x == 0) (l := l.reverse))
    have := congrArg List.reverse this
    simp only [List.reverse_append, List.reverse_reverse] at this
    exact this.symm
  · have h1 := List.all_eq_true.1 (List.all_takeWhile (p := fun x : Nat => x == 0) (l := l.reverse)) c (List.mem_reverse.1 hc)
    simpa using h1
theorem ev_trim {m : Nat} (x : Nat) {l : List Nat} (hl : Els m l) : ev m x (trimN l) = ev m x l := by
  obtain ⟨z, e, hz⟩ := trimN_split l
  have := ev_append_zeros x (trimN l) z (els_trim hl) hz
  rw [← e] at this
  exact this.symm
theorem evS_els (m x : Nat) : ∀ p : List Int, evS m x p = ev m x (p.map (el m))
  | [] => rfl
  | a :: p => by
    rw [List.map_cons, ev_cons x (el_le m a), ← evS_els m x p]; rfl
theorem els_map (m : Nat) (p : List Int) : Els m (p.map (el m)) := mem_le fun x hx => by
  simp at hx
  obtain ⟨a, _, rfl⟩ := hx
  exact el_le m a
theorem ev_row (m x : Nat) (p : List Int) : ev m x (rowS m p) = evS m x p := by
  rw [evS_els, rowS, ev_trim x (els_map m p)]
theorem square_add {m a b : Nat} (h : Em m) (ha : a ≤ sz m) (hb : b ≤ sz m) : mul m (a ^^^ b) (a ^^^ b) = mul m a a ^^^ mul m b b := by
  rw [mul_xor h (xor_le ha hb) ha hb, xor_mul h ha ha hb, xor_mul h hb ha hb, mul_comm m b a]
  rw [Nat.xor_assoc, ← Nat.xor_assoc (mul m a b), Nat.xor_self, Nat.zero_xor]
end Gf
end Go.Proofs.YtiojdoehlooibaaDoor

/- Products of polynomials by their coefficients; what is left of a product and something less is that something. -/
namespace Go.Proofs.YtiojdoehlooibaaDoor
namespace Gf
/-- The coefficient of x^k in a product. -/
def cv (m : Nat) : List Nat → List Nat → Nat → Nat
  | [], _, _ => 0
  | a :: _, Q, 0 => mul m a (nth Q 0)
  | a :: A, Q, k + 1 => mul m a (nth Q (k + 1)) ^^^ cv m A Q k
theorem cv_le {m : Nat} (h : Em m) : ∀ (A Q : List Nat) (k : Nat), cv m A Q k ≤ sz m
  | [], _, _ => Nat.zero_le _
  | _ :: _, _, 0 => mul_le h _ _
  | _ :: A, Q, k + 1 => xor_le (mul_le h _ _) (cv_le h A Q k)
/-- A coefficient times x^s put on. -/
def addAt : List Nat → Nat → Nat → List Nat
  | [], 0, f => [f]
  | [], s + 1, f => 0 :: addAt [] s f
  | a :: A, 0, f => (a ^^^ f) :: A
  | a :: A, s + 1, f => a :: addAt A s f
/-- What one coefficient gives to a product. -/
def tk (m f : Nat) (Q : List Nat) (s k : Nat) : Nat := if s ≤ k then mul m f (nth Q (k - s)) else 0
theorem tk_succ (m f : Nat) (Q : List Nat) (s k : Nat) : tk m f Q (s + 1) (k + 1) = tk m f Q s k := by
  unfold tk
  by_cases h : s ≤ k
  · rw [if_pos h, if_pos (by omega), show k + 1 - (s + 1) = k - s by omega]
  · rw [if_neg h, if_neg (by omega)]
theorem tk_zero (m f : Nat) (Q : List Nat) (k : Nat) : tk m f Q 0 k = mul m f (nth Q k) := by
  unfold tk; rw [if_pos (Nat.zero_le _), Nat.sub_zero]
theorem tk_under (m f : Nat) (Q : List Nat) (s : Nat) : tk m f Q (s + 1) 0 = 0 := by
  unfold tk; rw [if_neg (by omega)]
theorem cv_addAt {m : Nat} (h : Em m) {Q : List Nat} (hQ : Els m Q) {f : Nat} (hf : f ≤ sz m) : ∀ (A : List Nat) (s k : Nat), Els m A → cv m (addAt A s f) Q k = cv m A Q k ^^^ tk m f Q s k
  | [], 0, 0, _ => by rw [addAt, cv, cv, Nat.zero_xor, tk_zero]
  | [], 0, k + 1, _ => by rw [addAt, cv, cv, cv, Nat.zero_xor, tk_zero, Nat.xor_zero]
  | [], s + 1, 0, _ => by rw [addAt, cv, cv, zero_mul, tk_under]; rfl
  | [], s + 1, k + 1, hA => by rw [addAt, cv, cv, zero_mul, Nat.zero_xor, cv_addAt h hQ hf [] s k hA, cv, tk_succ]
  | a :: A, 0, 0, hA => by rw [addAt, cv, cv, xor_mul h (hQ 0) hA.head hf, tk_zero]
  | a :: A, 0, k + 1, hA => by
    rw [addAt, cv, cv, xor_mul h (hQ _) hA.head hf, tk_zero, Nat.xor_assoc, Nat.xor_assoc, Nat.xor_comm (mul m f _)]
  | a :: A, s + 1, 0, hA => by rw [addAt, cv, cv, tk_under, Nat.xor_zero]
  | a :: A, s + 1, k + 1, hA => by rw [addAt, cv, cv, cv_addAt h hQ hf A s k hA.tail, tk_succ, Nat.xor_assoc]
theorem els_addAt {m f : Nat} (hf : f ≤ sz m) : ∀ (A : List Nat) (s : Nat), Els m A → Els m (addAt A s f)
  | [], 0, h => Els.cons hf h
  | [], s + 1, h => Els.cons (Nat.zero_le _) (els_addAt hf [] s h)
  | _ :: _, 0, h => Els.cons (xor_le h.head hf) h.tail
  | _ :: A, s + 1, h => Els.cons h.head (els_addAt hf A s h.tail)
theorem cv_snoc {m : Nat} (Q : List Nat) (f : Nat) : ∀ (A : List Nat) (k : Nat), cv m (A ++ [f]) Q k = cv m A Q k ^^^ tk m f Q A.length k
  | [], 0 => by rw [List.nil_append, cv, cv, Nat.zero_xor, List.length_nil, tk_zero]
  | [], k + 1 => by rw [List.nil_append, cv, cv, cv, Nat.zero_xor, List.length_nil, tk_zero, Nat.xor_zero]
  | a :: A, 0 => by rw [List.cons_append, cv, cv, List.length_cons, tk_under, Nat.xor_zero]
  | a :: A, k + 1 => by rw [List.cons_append, cv, cv, cv_snoc Q f A k, List.length_cons, tk_succ, Nat.xor_assoc]
theorem nth_outer {m : Nat} (p q r : List Nat) (i k : Nat) (hi : i ≤ p.length) (hlen : p.length + q.length ≤ r.length + 1) : nth (outer m p q r i) k = nth r k ^^^ cv m (p.take i) q k := by
  induction i with
  | zero => rw [outer, List.take_zero, cv, Nat.xor_zero]
  | succ i ih =>
    rw [outer, nth_inner _ _ _ _ _ _ _ (by rw [outer_len]; omega), ih (by omega), take_snoc' (by omega), cv_snoc, List.length_take, Nat.min_eq_left (by omega), Nat.xor_assoc]
    congr 2
    unfold tk
    by_cases h1 : i ≤ k
    · by_cases h2 : k < i + q.length
      · rw [if_pos ⟨h1, h2⟩, if_pos h1]
      · rw [if_neg (by omega), if_pos h1, nth_over q (by omega), mul_zero]
    · rw [if_neg (by omega), if_neg h1]
theorem nth_zeros (n k : Nat) : nth (List.replicate n 0) k = 0 := by
  unfold nth
  rw [List.getD_eq_getElem?_getD, List.getElem?_replicate]
  split <;> rfl
/-- The coefficients of a product. -/
theorem nth_tm (m : Nat) (p q : List Nat) (k : Nat) : nth (tmS m p q) k = cv m p q k := by
  unfold tmS
  split
  · rename_i e
    rcases e with rfl | rfl
    · rfl
    · rw [nth_over [] (by simp)]
      have : ∀ (A : List Nat) (k : Nat), cv m A [] k = 0 := by
        intro A
        induction A with
        | nil => intro k; rfl
        | cons a A ih =>
          intro k
          cases k with
          | zero => rw [cv, nth_over [] (by simp), mul_zero]
          | succ k => rw [cv, nth_over [] (by simp), mul_zero, ih]; rfl
      exact (this p k).symm
  · rename_i e
    have h1 : p.length ≠ 0 := fun h => e (.inl (List.eq_nil_of_length_eq_zero h))
    have h2 : q.length ≠ 0 := fun h => e (.inr (List.eq_nil_of_length_eq_zero h))
    rw [nth_outer _ _ _ _ _ (Nat.le_refl _) (by simp; omega), nth_zeros, Nat.zero_xor, List.take_length]
/-- A row whose last is no nought. -/
def Trimmed (l : List Nat) : Prop := l ≠ [] → nth l (l.length - 1) ≠ 0
theorem trimmed_trim (l : List Nat) : Trimmed (trimN l) := fun h => trimN_last l h
theorem trim_of_trimmed {l : List Nat} (h : Trimmed l) : trimN l = l := by
  by_cases h0 : l = []
  · subst h0; rfl
  · have hl : 0 < l.length := List.length_pos_iff.2 h0
    have e : l.take (l.length - 1 + 1) = l := by rw [Nat.sub_add_cancel hl, List.take_length]
    have := trim_stop (l := l) (k := l.length - 1) (by omega) (h h0)
    rwa [e] at this
/-- Two such rows with the same coefficients are the same. -/
theorem eq_of_nth {a b : List Nat} (ha : Trimmed a) (hb : Trimmed b) (h : ∀ k, nth a k = nth b k) : a = b := by
  have key : ∀ {a b : List Nat}, Trimmed a → (∀ k, nth a k = nth b k) → a.length ≤ b.length := by
    intro a b ha h
    rcases Nat.lt_or_ge b.length a.length with hlt | hge
    · exfalso
      have hne : a ≠ [] := by intro e; rw [e] at hlt; simp at hlt
      apply ha hne
      rw [h, nth_over b (by omega)]
    · exact hge
  have hl : a.length = b.length := Nat.le_antisymm (key ha h) (key hb (fun k => (h k).symm))
  apply List.ext_getElem hl
  intro i h1 h2
  have := h i
  rwa [nth_of h1, nth_of h2] at this
theorem nth_trim (l : List Nat) (k : Nat) : nth (trimN l) k = nth l k := by
  by_cases hk : k < (trimN l).length
  · exact trimN_nth l hk
  · obtain ⟨z, e, hz⟩ := trimN_split l
    rw [nth_over _ (by omega)]
    by_cases hk2 : k < l.length
    · rw [nth_of hk2]
      have hm : l[k] ∈ z := by
        have h3 : l[k]? = z[k - (trimN l).length]? := by
          conv => lhs; rw [e]
          rw [List.getElem?_append_right (by omega)]
        rw [List.getElem?_eq_getElem hk2] at h3
        exact List.mem_of_getElem? h3.symm
      exact (hz _ hm).symm
    · rw [nth_over l (by omega)]
/-- P is A times Q, and R. -/
def Comb (m : Nat) (Q R P : List Nat) : Prop := ∃ A, Els m A ∧ ∀ k, nth P k = cv m A Q k ^^^ nth R k
theorem Comb.trim {m : Nat} {Q R P : List Nat} (h : Comb m Q R P) : Comb m Q R (trimN P) := by
  obtain ⟨A, h1, h2⟩ := h
  exact ⟨A, h1, fun k => by rw [nth_trim, h2]⟩
theorem Comb.step {m : Nat} (h : Em m) {Q R P : List Nat} (hQ : Els m Q) (hle : Q.length ≤ P.length) (hc : Comb m Q R P) : Comb m Q R (restStep m Q P) := by
  obtain ⟨A, h1, h2⟩ := hc
  have hf := mul_le h (nth P (P.length - 1)) (invS m (nth Q (Q.length - 1)))
  refine ⟨addAt A (P.length - Q.length) (mul m (nth P (P.length - 1)) (invS m (nth Q (Q.length - 1)))), els_addAt hf _ _ h1, fun k => ?_⟩
  unfold restStep
  rw [nth_inner _ _ _ _ _ _ _ (by omega), h2, cv_addAt h hQ hf _ _ _ h1, Nat.xor_assoc, Nat.xor_assoc, Nat.xor_comm (nth R k)]
  congr 2
  unfold tk
  by_cases a1 : P.length - Q.length ≤ k
  · by_cases a2 : k < P.length - Q.length + Q.length
    · rw [if_pos ⟨a1, a2⟩, if_pos a1]
    · rw [if_neg (by omega), if_pos a1, nth_over Q (k := k - (P.length - Q.length)) (by omega), mul_zero]
  · rw [if_neg (by omega), if_neg a1]
/-- The top of a product. -/
theorem cv_over (m : Nat) (Q : List Nat) : ∀ (A : List Nat) (k : Nat), A.length + Q.length ≤ k + 1 → cv m A Q k = 0
  | [], _, _ => rfl
  | a :: A, 0, h => by
    simp at h
    rw [cv, nth_over Q (by omega), mul_zero]
  | a :: A, k + 1, h => by
    simp at h
    rw [cv, nth_over Q (by omega), mul_zero, cv_over m Q A k (by omega)]; rfl
theorem cv_top {m : Nat} (Q : List Nat) (hq : 0 < Q.length) : ∀ (A : List Nat) (a : Nat), cv m (A ++ [a]) Q (A.length + (Q.length - 1)) = mul m a (nth Q (Q.length - 1)) := by
  intro A a
  rw [cv_snoc, cv_over m Q A _ (by omega), Nat.zero_xor, tk, if_pos (by omega), Nat.add_sub_cancel_left]
theorem cv_trim {m : Nat} (Q : List Nat) (A : List Nat) (k : Nat) : cv m (trimN A) Q k = cv m A Q k := by
  obtain ⟨z, e, hz⟩ := trimN_split A
  have key : ∀ (z B : List Nat), (∀ c ∈ z, c = 0) → cv m (B ++ z) Q k = cv m B Q k := by
    intro z
    induction z with
    | nil => intro B _; rw [List.append_nil]
    | cons c z ih =>
      intro B hz
      have hc : c = 0 := hz c (by simp)
      rw [show B ++ c :: z = (B ++ [c]) ++ z by simp, ih (B ++ [c]) (fun d hd => hz d (by simp [hd])), cv_snoc, hc, tk, zero_mul]
      split <;> rw [Nat.xor_zero]
  conv => rhs; rw [e]
  exact (key z (trimN A) hz).symm
/-- What is less than Q and a product of Q and R is R. -/
theorem Comb.end_ {m : Nat} (h : Em m) {Q R P : List Nat} (hq : 0 < Q.length) (hlq : nth Q (Q.length - 1) ≠ 0) (hP : P.length < Q.length) (hR : R.length < Q.length) (tP : Trimmed P) (tR : Trimmed R) (hc : Comb m Q R P) : P = R := by
  obtain ⟨A, h1, h2⟩ := hc
  have hA : trimN A = [] := by
    apply Classical.byContradiction
    intro hne
    have hl : 0 < (trimN A).length := List.length_pos_iff.2 hne
    have hlast := trimN_last A hne
    have e : trimN A = (trimN A).take ((trimN A).length - 1) ++ [nth (trimN A) ((trimN A).length - 1)] := by
      rw [← take_snoc' (by omega), Nat.sub_add_cancel hl, List.take_length]
    have h3 := cv_top (m := m) Q hq ((trimN A).take ((trimN A).length - 1)) (nth (trimN A) ((trimN A).length - 1))
    rw [← e, cv_trim, List.length_take, Nat.min_eq_left (by omega)] at h3
    have h4 := h2 ((trimN A).length - 1 + (Q.length - 1))
    rw [nth_over P (by omega), nth_over R (by omega), Nat.xor_zero, h3] at h4
    exact mul_ne h hlast hlq h4.symm
  refine eq_of_nth tP tR fun k => ?_
  rw [h2, ← cv_trim, hA, cv, Nat.zero_xor]
theorem restGo_comb {m : Nat} (h : Em m) {Q R : List Nat} (hQ : Els m Q) (hq : 0 < Q.length) (hlq : nth Q (Q.length - 1) ≠ 0) (hR : R.length < Q.length) (tR : Trimmed R) : ∀ (f : Nat) (P : List Nat), P.length ≤ f → Els m P → Trimmed P → Comb m Q R P → restGo m Q f P = R
  | 0, P, hf, _, tP, hc => by
    rw [restGo]
    exact hc.end_ h hq hlq (by omega) hR tP tR
  | f + 1, P, hf, hP, tP, hc => by
    rw [restGo]
    split
    · rename_i hlt
      exact hc.end_ h hq hlq hlt hR tP tR
    · rename_i hge
      have hle : Q.length ≤ P.length := by omega
      have hs := rest_shrinks h hQ hP hlq hq hle
      exact restGo_comb h hQ hq hlq hR tR f _ (by omega) (els_trim (restStep_els h Q hP)) (trimmed_trim _) (hc.step h hQ hle).trim
/-- What is left of a row that is a product and something less is that something. -/
theorem rest_comb {m : Nat} (h : Em m) {Q R P : List Nat} (hQ : Els m Q) (tQ : Trimmed Q) (hq : Q ≠ []) (hR : R.length < Q.length) (tR : Trimmed R) (hP : Els m P) (tP : Trimmed P) (hc : Comb m Q R P) : restS m P Q = R := by
  unfold restS
  rw [if_neg hq]
  exact restGo_comb h hQ (List.length_pos_iff.2 hq) (tQ hq) hR tR P.length P (Nat.le_refl _) hP tP hc
theorem rowS_ints {m : Nat} {l : List Nat} (h : Els m l) : rowS m (ints l) = trimN l := by
  unfold rowS
  congr 1
  apply List.ext_getElem (by simp [ints])
  intro i h1 h2
  simp [ints]
  have := h i
  rw [nth_of h2] at this
  exact el_of this
theorem rowS_trimmed (m : Nat) (xs : List Int) : Trimmed (rowS m xs) := trimmed_trim _
/-- A product of such rows is such a row. -/
theorem tm_trimmed {m : Nat} (h : Em m) {p q : List Nat} (tp : Trimmed p) (tq : Trimmed q) : Trimmed (tmS m p q) := by
  intro hne
  have h1 : p ≠ [] := fun e => hne (by unfold tmS; rw [if_pos (.inl e)])
  have h2 : q ≠ [] := fun e => hne (by unfold tmS; rw [if_pos (.inr e)])
  have l1 : 0 < p.length := List.length_pos_iff.2 h1
  have l2 : 0 < q.length := List.length_pos_iff.2 h2
  have hl : (tmS m p q).length = p.length + q.length - 1 := by
    unfold tmS
    rw [if_neg (by rintro (e | e); exact h1 e; exact h2 e), outer_len]; simp
  rw [nth_tm, hl]
  have e : p = p.take (p.length - 1) ++ [nth p (p.length - 1)] := by
    rw [← take_snoc' (by omega), Nat.sub_add_cancel l1, List.take_length]
  have h3 := cv_top (m := m) q l2 (p.take (p.length - 1)) (nth p (p.length - 1))
  rw [← e, List.length_take, Nat.min_eq_left (by omega)] at h3
  rw [show p.length + q.length - 1 - 1 = p.length - 1 + (q.length - 1) by omega, h3]
  exact mul_ne h (tp h1) (tq h2)
theorem tm_els {m : Nat} (h : Em m) (p q : List Nat) : Els m (tmS m p q) := by
  unfold tmS
  split
  · intro k; rw [nth_over [] (by simp)]; exact Nat.zero_le _
  · exact (Els.zeros m _).outer h p q _
/-- Times 1. -/
theorem tm_one {m : Nat} (h : Em m) {p : List Nat} (hp : Els m p) (tp : Trimmed p) : tmS m p [1] = p := by
  have t1 : Trimmed [1] := fun _ => by decide
  refine eq_of_nth (tm_trimmed h tp t1) tp fun k => ?_
  rw [nth_tm]
  clear tp
  induction p generalizing k with
  | nil => rw [nth_over [] (by simp)]; rfl
  | cons a p ih =>
    cases k with
    | zero => rw [cv, nth_cons_zero, nth_cons_zero, mul_one h hp.head]
    | succ k => rw [cv, nth_over [1] (by simp), mul_zero, Nat.zero_xor, ih hp.tail, nth_cons_succ]
end Gf
end Go.Proofs.YtiojdoehlooibaaDoor

/- The generator: its coefficients are 0 and 1, its roots, and that it goes into x to the field's size and 1. -/
namespace Go.Proofs.YtiojdoehlooibaaDoor
namespace Gf
theorem xor4 (p q r s : Nat) : (p ^^^ q) ^^^ (r ^^^ s) = (p ^^^ r) ^^^ (q ^^^ s) := by
  rw [Nat.xor_assoc, Nat.xor_assoc, ← Nat.xor_assoc q, Nat.xor_comm q r, Nat.xor_assoc r]
theorem xor3 (p q r : Nat) : (p ^^^ q) ^^^ r = (p ^^^ r) ^^^ q := by
  rw [Nat.xor_assoc, Nat.xor_assoc, Nat.xor_comm q r]
theorem xor_drop (p c s t : Nat) : (p ^^^ c) ^^^ ((p ^^^ s) ^^^ t) = c ^^^ (s ^^^ t) := by
  rw [Nat.xor_assoc p s t, xor4, Nat.xor_self, Nat.zero_xor]
/-- Coefficients times (x + a). -/
def Lf (m a : Nat) (f : Nat → Nat) : Nat → Nat
  | 0 => mul m a (f 0)
  | k + 1 => mul m a (f (k + 1)) ^^^ f k
theorem Lf_le {m a : Nat} (h : Em m) {f : Nat → Nat} (hf : ∀ k, f k ≤ sz m) (k : Nat) : Lf m a f k ≤ sz m := by
  cases k with
  | zero => exact mul_le h _ _
  | succ k => exact xor_le (mul_le h _ _) (hf k)
theorem Lf_congr {m a : Nat} {f g : Nat → Nat} (e : ∀ k, f k = g k) (k : Nat) : Lf m a f k = Lf m a g k := by
  rw [show f = g from funext e]
theorem mul_swap {m a b x : Nat} (h : Em m) (ha : a ≤ sz m) (hb : b ≤ sz m) (hx : x ≤ sz m) : mul m a (mul m b x) = mul m b (mul m a x) := by
  rw [← mul_assoc h ha hb hx, mul_comm m a b, mul_assoc h hb ha hx]
theorem Lf_comm {m a b : Nat} (h : Em m) (ha : a ≤ sz m) (hb : b ≤ sz m) {f : Nat → Nat} (hf : ∀ k, f k ≤ sz m) (k : Nat) : Lf m a (Lf m b f) k = Lf m b (Lf m a f) k := by
  cases k with
  | zero => exact mul_swap h ha hb (hf 0)
  | succ k =>
    cases k with
    | zero =>
      show mul m a (mul m b (f 1) ^^^ f 0) ^^^ mul m b (f 0) = mul m b (mul m a (f 1) ^^^ f 0) ^^^ mul m a (f 0)
      rw [mul_xor h ha (mul_le h _ _) (hf 0), mul_xor h hb (mul_le h _ _) (hf 0), mul_swap h ha hb (hf 1), xor3]
    | succ k =>
      show mul m a (mul m b (f (k + 2)) ^^^ f (k + 1)) ^^^ (mul m b (f (k + 1)) ^^^ f k) = mul m b (mul m a (f (k + 2)) ^^^ f (k + 1)) ^^^ (mul m a (f (k + 1)) ^^^ f k)
      rw [mul_xor h ha (mul_le h _ _) (hf _), mul_xor h hb (mul_le h _ _) (hf _), mul_swap h ha hb (hf _), xor4]
theorem mul_sq {m a x : Nat} (h : Em m) (ha : a ≤ sz m) (hx : x ≤ sz m) : mul m (mul m a x) (mul m a x) = mul m (mul m a a) (mul m x x) := by
  rw [mul_assoc h ha hx (mul_le h _ _), mul_swap h hx ha hx, ← mul_assoc h ha ha (mul_le h _ _)]
theorem Lf_sq {m a : Nat} (h : Em m) (ha : a ≤ sz m) {f : Nat → Nat} (hf : ∀ k, f k ≤ sz m) (k : Nat) : mul m (Lf m a f k) (Lf m a f k) = Lf m (mul m a a) (fun j => mul m (f j) (f j)) k := by
  cases k with
  | zero => exact mul_sq h ha (hf 0)
  | succ k =>
    show mul m (mul m a (f (k + 1)) ^^^ f k) (mul m a (f (k + 1)) ^^^ f k) = mul m (mul m a a) (mul m (f (k + 1)) (f (k + 1))) ^^^ mul m (f k) (f k)
    rw [square_add h (mul_le h _ _) (hf k), mul_sq h ha (hf _)]
/-- The coefficients of the product of the first j of (x + the power's squares). -/
def Pf (m E : Nat) : Nat → Nat → Nat
  | 0 => fun k => if k = 0 then 1 else 0
  | j + 1 => Lf m (pw m (E * 2 ^ j)) (Pf m E j)
theorem Pf_le {m : Nat} (h : Em m) (E : Nat) : ∀ j k, Pf m E j k ≤ sz m
  | 0, k => by
    have := sz_bd h
    show (if k = 0 then 1 else 0) ≤ _
    split <;> omega
  | j + 1, k => Lf_le h (Pf_le h E j) k
theorem Pf_sq {m : Nat} (h : Em m) (E : Nat) : ∀ j k, mul m (Pf m E j k) (Pf m E j k) = Pf m (2 * E) j k
  | 0, k => by
    have := sz_bd h
    show mul m (if k = 0 then 1 else 0) (if k = 0 then 1 else 0) = if k = 0 then 1 else 0
    split
    · exact mul_one h (by omega)
    · exact zero_mul _ _
  | j + 1, k => by
    show mul m (Lf m _ _ k) (Lf m _ _ k) = Lf m (pw m (2 * E * 2 ^ j)) (Pf m (2 * E) j) k
    rw [Lf_sq h (pw_bd h _).2 (Pf_le h E j), mul_pw h, show E * 2 ^ j + E * 2 ^ j = 2 * E * 2 ^ j by rw [Nat.mul_assoc]; omega]
    exact Lf_congr (fun i => Pf_sq h E j i) k
theorem two_pow_step (E j : Nat) : E * 2 ^ (j + 1) = 2 * E * 2 ^ j := by
  rw [Nat.pow_succ, Nat.mul_comm (2 ^ j) 2, ← Nat.mul_assoc, Nat.mul_comm E 2]
theorem Pf_rot {m : Nat} (h : Em m) (E : Nat) : ∀ j k, Pf m E (j + 1) k = Lf m (pw m E) (Pf m (2 * E) j) k
  | 0, k => by
    show Lf m (pw m (E * 2 ^ 0)) _ k = _
    rw [Nat.pow_zero, Nat.mul_one]; rfl
  | j + 1, k => by
    show Lf m (pw m (E * 2 ^ (j + 1))) (Pf m E (j + 1)) k = Lf m (pw m E) (Lf m (pw m (2 * E * 2 ^ j)) (Pf m (2 * E) j)) k
    rw [Lf_congr (Pf_rot h E j) k, two_pow_step, Lf_comm h (pw_bd h _).2 (pw_bd h _).2 (Pf_le h _ j)]
theorem Pf_fix {m E d : Nat} (h : Em m) (hd : 1 ≤ d) (e : pw m (E * 2 ^ d) = pw m E) (k : Nat) : mul m (Pf m E d k) (Pf m E d k) = Pf m E d k := by
  obtain ⟨j, rfl⟩ : ∃ j, d = j + 1 := ⟨d - 1, by omega⟩
  rw [Pf_sq h, Pf_rot h E j k]
  show Lf m (pw m (2 * E * 2 ^ j)) (Pf m (2 * E) j) k = _
  rw [← two_pow_step, e]
theorem sq_fix {m c : Nat} (h : Em m) (hc : c ≤ sz m) (e : mul m c c = c) : c ≤ 1 := by
  rcases el_cases h hc with rfl | ⟨i, _, rfl⟩
  · omega
  · rw [mul_pw h] at e
    have := pw_add_inj h i i e
    omega
theorem sq_inj {m a b : Nat} (h : Em m) (ha : a ≤ sz m) (hb : b ≤ sz m) (e : mul m a a = mul m b b) : a = b := by
  have h1 := square_add h ha hb
  rw [e, Nat.xor_self] at h1
  have h2 : a ^^^ b = 0 := Classical.byContradiction fun hne => mul_ne h hne hne h1
  have := congrArg (· ^^^ b) h2
  simpa [Nat.xor_assoc] using this
theorem nth_nil (k : Nat) : nth [] k = 0 := nth_over [] (by simp)
theorem tmI_eq {m : Nat} {p q : List Nat} (hp : Els m p) (tp : Trimmed p) (hq : Els m q) (tq : Trimmed q) : tmI m p q = tmS m p q := by
  unfold tmI
  rw [rowS_ints hp, rowS_ints hq, trim_of_trimmed tp, trim_of_trimmed tq]
theorem Lf_nought (m a k : Nat) : Lf m a (fun _ => 0) k = 0 := by
  cases k with
  | zero => exact mul_zero _ _
  | succ k => show mul m a 0 ^^^ 0 = 0; rw [mul_zero]; rfl
theorem cv_lin {m a : Nat} (h : Em m) : ∀ (p : List Nat) (k : Nat), Els m p → cv m p [a, 1] k = Lf m a (nth p) k
  | [], k, _ => by
    rw [show nth ([] : List Nat) = fun _ => 0 from funext nth_nil, Lf_nought]; cases k <;> rfl
  | b :: p, 0, _ => by
    show mul m b a = mul m a b
    exact mul_comm _ _ _
  | b :: p, k + 1, hp => by
    have ih := cv_lin (a := a) h p k hp.tail
    rw [cv, ih]
    cases k with
    | zero =>
      show mul m b 1 ^^^ mul m a (nth p 0) = mul m a (nth p 0) ^^^ b
      rw [mul_one h hp.head, Nat.xor_comm]
    | succ k =>
      show mul m b (nth [a, 1] (k + 2)) ^^^ (mul m a (nth p (k + 1)) ^^^ nth p k) = mul m a (nth p (k + 1)) ^^^ nth p k
      rw [nth_over [a, 1] (by simp), mul_zero, Nat.zero_xor]
/-- A product with (x + b) put to the second. -/
theorem cv_lin2 {m b : Nat} (h : Em m) (hb : b ≤ sz m) {G H : List Nat} (hG : Els m G) (e : ∀ k, nth H k = Lf m b (nth G) k) : ∀ (A : List Nat) (k : Nat), Els m A → cv m A H k = Lf m b (cv m A G) k
  | [], k, _ => by
    rw [show cv m [] G = fun _ => 0 from funext fun k => by cases k <;> rfl, Lf_nought]; cases k <;> rfl
  | a :: A, 0, hA => by
    rw [cv, e]
    exact mul_swap h hA.head hb (hG 0)
  | a :: A, k + 1, hA => by
    rw [cv, e, cv_lin2 h hb hG e A k hA.tail]
    cases k with
    | zero =>
      show mul m a (mul m b (nth G 1) ^^^ nth G 0) ^^^ mul m b (cv m A G 0) = mul m b (mul m a (nth G 1) ^^^ cv m A G 0) ^^^ mul m a (nth G 0)
      rw [mul_xor h hA.head (mul_le h _ _) (hG _), mul_xor h hb (mul_le h _ _) (cv_le h _ _ _), mul_swap h hA.head hb (hG _), xor3]
    | succ k =>
      show mul m a (mul m b (nth G (k + 2)) ^^^ nth G (k + 1)) ^^^ (mul m b (cv m A G (k + 1)) ^^^ cv m A G k) = mul m b (mul m a (nth G (k + 2)) ^^^ cv m A G (k + 1)) ^^^ (mul m a (nth G (k + 1)) ^^^ cv m A G k)
      rw [mul_xor h hA.head (mul_le h _ _) (hG _), mul_xor h hb (mul_le h _ _) (cv_le h _ _ _), mul_swap h hA.head hb (hG _), xor4]
/-- What is left of a row when (x + b) is taken out. -/
def sv (m b : Nat) : List Nat → List Nat
  | [] => []
  | c :: l => ev m b (c :: l) :: sv m b l
theorem sv_els {m : Nat} (h : Em m) (b : Nat) : ∀ l, Els m (sv m b l)
  | [] => fun k => by rw [sv, nth_nil]; exact Nat.zero_le _
  | _ :: l => Els.cons (ev_le h b _) (sv_els h b l)
theorem cv_sv {m b : Nat} (h : Em m) (hb : b ≤ sz m) {G : List Nat} (hG : Els m G) : ∀ (l : List Nat) (c k : Nat), Els m (c :: l) → cv m (c :: l) G k = mul m (ev m b (c :: l)) (nth G k) ^^^ Lf m b (cv m (sv m b l) G) k
  | [], c, k, hl => by
    rw [sv, show cv m [] G = fun _ => 0 from funext fun k => by cases k <;> rfl, Lf_nought, ev_cons b hl.head, ev_nil, zero_mul, Nat.zero_xor, Nat.xor_zero]
    cases k with
    | zero => rfl
    | succ k => rw [cv, cv, Nat.xor_zero]
  | d :: l, c, 0, hl => by
    have he := ev_le h b (d :: l)
    rw [ev_cons b hl.head]
    show mul m c (nth G 0) = mul m (mul m (ev m b (d :: l)) b ^^^ c) (nth G 0) ^^^ mul m b (mul m (ev m b (d :: l)) (nth G 0))
    rw [xor_mul h (hG 0) (mul_le h _ _) hl.head, ← mul_assoc h hb he (hG 0), mul_comm m b, xor3, Nat.xor_self, Nat.zero_xor]
  | d :: l, c, k + 1, hl => by
    have he := ev_le h b (d :: l)
    have ih := cv_sv h hb hG l d k hl.tail
    rw [ev_cons b hl.head, cv, ih]
    have e1 : Lf m b (cv m (sv m b (d :: l)) G) (k + 1) = mul m b (mul m (ev m b (d :: l)) (nth G (k + 1)) ^^^ cv m (sv m b l) G k) ^^^ cv m (sv m b (d :: l)) G k := rfl
    rw [e1, xor_mul h (hG _) (mul_le h _ _) hl.head, mul_xor h hb (mul_le h _ _) (cv_le h _ _ _), ← mul_assoc h hb he (hG _), mul_comm m b (ev m b (d :: l)), xor_drop]
    congr 1
    cases k with
    | zero =>
      show mul m (ev m b (d :: l)) (nth G 0) ^^^ mul m b (cv m (sv m b l) G 0) = mul m b (cv m (sv m b l) G 0) ^^^ mul m (ev m b (d :: l)) (nth G 0)
      exact Nat.xor_comm _ _
    | succ k =>
      show mul m (ev m b (d :: l)) (nth G (k + 1)) ^^^ (mul m b (cv m (sv m b l) G (k + 1)) ^^^ cv m (sv m b l) G k) = mul m b (cv m (sv m b l) G (k + 1)) ^^^ (mul m (ev m b (d :: l)) (nth G (k + 1)) ^^^ cv m (sv m b l) G k)
      rw [← Nat.xor_assoc, ← Nat.xor_assoc, Nat.xor_comm (mul m (ev m b (d :: l)) _)]
theorem ev_of_nth {m : Nat} (x : Nat) {a b : List Nat} (ha : Els m a) (hb : Els m b) (e : ∀ k, nth a k = nth b k) : ev m x a = ev m x b := by
  have : trimN a = trimN b := eq_of_nth (trimmed_trim _) (trimmed_trim _) fun k => by rw [nth_trim, nth_trim, e]
  rw [← ev_trim x ha, ← ev_trim x hb, this]
/-- What goes into X, and is not 0 at b where X is, goes into it with (x + b). -/
theorem Comb.root {m b : Nat} (h : Em m) (hb : b ≤ sz m) {G H X : List Nat} (hG : Els m G) (hX : Els m X) (e : ∀ k, nth H k = Lf m b (nth G) k) (hc : Comb m G [] X) (x0 : ev m b X = 0) (g0 : ev m b G ≠ 0) : Comb m H [] X := by
  obtain ⟨A, hA, hk⟩ := hc
  have hk' : ∀ k, nth X k = cv m A G k := fun k => by rw [hk, nth_nil, Nat.xor_zero]
  have hA0 : ev m b A = 0 := by
    have h1 := ev_of_nth b hX (tm_els h A G) (fun k => by rw [hk', nth_tm])
    rw [ev_tm h hb hA hG, x0] at h1
    exact Classical.byContradiction fun hne => mul_ne h hne g0 h1.symm
  cases A with
  | nil => exact ⟨[], hA, fun k => by rw [hk]; cases k <;> rfl⟩
  | cons c l =>
    refine ⟨sv m b l, sv_els h b l, fun k => ?_⟩
    rw [hk', cv_sv h hb hG l c k hA, hA0, zero_mul, Nat.zero_xor, nth_nil, Nat.xor_zero, cv_lin2 h hb hG e _ _ (sv_els h b l)]
/-- Coefficients 0 and 1 alone. -/
def Bits (l : List Nat) : Prop := ∀ k, nth l k ≤ 1
theorem Bits.els {m : Nat} (h : Em m) {l : List Nat} (hl : Bits l) : Els m l := fun k => by
  have := sz_bd h
  have := hl k
  omega
theorem bit_sq {m c : Nat} (h : Em m) (hc : c ≤ 1) : mul m c c = c := by
  have := sz_bd h
  by_cases e : c = 0
  · subst e; exact zero_mul _ _
  · obtain rfl : c = 1 := by omega
    exact mul_one h (by omega)
theorem ev_sq {m x : Nat} (h : Em m) (hx : x ≤ sz m) : ∀ l, Bits l → ev m (mul m x x) l = mul m (ev m x l) (ev m x l)
  | [], _ => by rw [ev_nil, ev_nil, zero_mul]
  | c :: l, hl => by
    have hs := sz_bd h
    have hc : c ≤ 1 := hl 0
    rw [ev_cons _ (by omega), ev_cons _ (by omega), ev_sq h hx l (fun k => hl (k + 1)), square_add h (mul_le h _ _) (by omega), mul_sq h (ev_le h x l) hx, bit_sq h hc]
theorem two_pow_dbl (E k : Nat) : E * 2 ^ (k + 1) = E * 2 ^ k + E * 2 ^ k := by
  rw [Nat.pow_succ, ← Nat.mul_assoc]; omega
theorem ev_conj {m E : Nat} (h : Em m) {l : List Nat} (hB : Bits l) (h0 : ev m (pw m E) l ≠ 0) : ∀ k, ev m (pw m (E * 2 ^ k)) l ≠ 0
  | 0 => by rw [Nat.pow_zero, Nat.mul_one]; exact h0
  | k + 1 => by
    rw [two_pow_dbl, ← mul_pw h, ev_sq h (pw_bd h _).2 l hB]
    exact mul_ne h (ev_conj h hB h0 k) (ev_conj h hB h0 k)
theorem ev_lin {m x a : Nat} (h : Em m) (hx : x ≤ sz m) (ha : a ≤ sz m) : ev m x [a, 1] = x ^^^ a := by
  have := sz_bd h
  rw [ev_cons x ha, ev_cons x (by omega), ev_nil, zero_mul, Nat.zero_xor, one_mul h hx]
theorem els_lin {m a : Nat} (h : Em m) (ha : a ≤ sz m) : Els m [a, 1] := by
  have := sz_bd h
  exact Els.cons ha (Els.cons (by omega) (fun k => by rw [nth_nil]; exact Nat.zero_le _))
theorem trimmed_lin (a : Nat) : Trimmed [a, 1] := fun _ => by simp [nth]
theorem tm_ne {m : Nat} {p q : List Nat} (hp : p ≠ []) (hq : q ≠ []) : tmS m p q ≠ [] := by
  have l1 : 0 < p.length := List.length_pos_iff.2 hp
  have l2 : 0 < q.length := List.length_pos_iff.2 hq
  apply List.length_pos_iff.1
  unfold tmS
  rw [if_neg (by rintro (e | e); exact hp e; exact hq e), outer_len]; simp; omega
theorem xor_ne {a b : Nat} (h : a ≠ b) : a ^^^ b ≠ 0 := fun e => h (by
  have := congrArg (· ^^^ b) e
  simpa [Nat.xor_assoc] using this)
theorem pw_back {m E i : Nat} (h : Em m) : ∀ j, pw m (E * 2 ^ (i + j)) = pw m (E * 2 ^ j) → pw m (E * 2 ^ i) = pw m E
  | 0, e => by rwa [Nat.pow_zero, Nat.mul_one, Nat.add_zero] at e
  | j + 1, e => by
    rw [← Nat.add_assoc, two_pow_dbl, two_pow_dbl, ← mul_pw h, ← mul_pw h] at e
    exact pw_back h j (sq_inj h (pw_bd h _).2 (pw_bd h _).2 e)
/-- What holds of a minimal polynomial while it is made: G stands beside it, X is what both go into. -/
structure Mi (m E : Nat) (G X p : List Nat) (k : Nat) : Prop where
  els : Els m p
  trm : Trimmed p
  ne : p ≠ []
  cf : ∀ i, nth p i = Pf m E k i
  root : ev m (pw m E) p = 0
  off : ∀ x, x ≤ sz m → (∀ j, j < k → x ≠ pw m (E * 2 ^ j)) → ev m x p ≠ 0
  dist : ∀ j, 1 ≤ j → j < k → pw m (E * 2 ^ j) ≠ pw m E
  comb : Comb m (tmS m G p) [] X
theorem Mi.start {m E : Nat} (h : Em m) {G X : List Nat} (hG : Bits G) (hX : Els m X) (x0 : ∀ k, ev m (pw m (E * 2 ^ k)) X = 0) (hc : Comb m G [] X) (g0 : ev m (pw m E) G ≠ 0) : Mi m E G X [pw m E, 1] 1 := by
  have ha := (pw_bd h E).2
  refine ⟨els_lin h ha, trimmed_lin _, by simp, fun i => ?_, ?_, fun x hx hj => ?_, fun j h1 h2 => by omega, ?_⟩
  · rw [Pf_rot h]
    cases i with
    | zero => show pw m E = mul m (pw m E) 1; rw [mul_one h ha]
    | succ i =>
      cases i with
      | zero => show 1 = mul m (pw m E) 0 ^^^ 1; rw [mul_zero, Nat.zero_xor]
      | succ i =>
        show nth [pw m E, 1] (i + 2) = mul m (pw m E) 0 ^^^ 0
        rw [nth_over _ (by simp), mul_zero]; rfl
  · rw [ev_lin h ha ha, Nat.xor_self]
  · rw [ev_lin h hx ha]
    have := hj 0 (by omega)
    rw [Nat.pow_zero, Nat.mul_one] at this
    exact xor_ne this
  · exact Comb.root h ha (hG.els h) hX (fun k => by rw [nth_tm, cv_lin h _ _ (hG.els h)]) hc (by have := x0 0; rwa [Nat.pow_zero, Nat.mul_one] at this) g0
theorem Mi.step {m E k : Nat} (h : Em m) {G X p : List Nat} (hG : Bits G) (hX : Els m X) (x0 : ∀ k, ev m (pw m (E * 2 ^ k)) X = 0) (g0 : ev m (pw m E) G ≠ 0) (hi : Mi m E G X p k) (hne : pw m (E * 2 ^ k) ≠ pw m E) : Mi m E G X (tmS m p [pw m (E * 2 ^ k), 1]) (k + 1) := by
  have ha := (pw_bd h (E * 2 ^ k)).2
  have hl := els_lin h ha
  have hnw : ∀ j, j < k → pw m (E * 2 ^ k) ≠ pw m (E * 2 ^ j) := fun j hj e => by
    by_cases h0 : j = 0
    · subst h0
      rw [Nat.pow_zero, Nat.mul_one] at e
      exact hne e
    · exact hi.dist (k - j) (by omega) (by omega) (pw_back h j (by rw [Nat.sub_add_cancel (by omega)]; exact e))
  have hcf : ∀ i, nth (tmS m p [pw m (E * 2 ^ k), 1]) i = Lf m (pw m (E * 2 ^ k)) (nth p) i := fun i => by rw [nth_tm, cv_lin h _ _ hi.els]
  refine ⟨tm_els h _ _, tm_trimmed h hi.trm (trimmed_lin _), tm_ne hi.ne (by simp), fun i => ?_, ?_, fun x hx hj => ?_, fun j h1 h2 => ?_, ?_⟩
  · rw [hcf, Lf_congr hi.cf]; rfl
  · rw [ev_tm h (pw_bd h E).2 hi.els hl, hi.root, zero_mul]
  · rw [ev_tm h hx hi.els hl, ev_lin h hx ha]
    exact mul_ne h (hi.off x hx fun j hjk => hj j (by omega)) (xor_ne (hj k (by omega)))
  · by_cases e : j = k
    · subst e; exact hne
    · exact hi.dist j h1 (by omega)
  · refine Comb.root h ha (tm_els h G p) hX (fun i => ?_) hi.comb (x0 _) ?_
    · rw [nth_tm, cv_lin2 h ha hi.els hcf G i (hG.els h)]
      exact Lf_congr (fun i => by rw [nth_tm]) i
    · rw [ev_tm h ha (hG.els h) hi.els]
      exact mul_ne h (ev_conj h hG g0 k) (hi.off _ ha hnw)
theorem minGo_inv {m E : Nat} (h : Em m) {G X : List Nat} (hG : Bits G) (hX : Els m X) (x0 : ∀ k, ev m (pw m (E * 2 ^ k)) X = 0) (g0 : ev m (pw m E) G ≠ 0) : ∀ (f k : Nat) (p : List Nat), k + f = m + 1 → k ≤ m → 1 ≤ k → Mi m E G X p k →
    ∃ d, 1 ≤ d ∧ pw m (E * 2 ^ d) = pw m E ∧ Mi m E G X (minGo m (pw m E) f (pw m (E * 2 ^ k)) p) d
  | 0, k, p, h1, h2, _, _ => by omega
  | f + 1, k, p, h1, h2, h3, hi => by
    rw [minGo]
    split
    · rename_i e
      exact ⟨k, h3, e, hi⟩
    · rename_i hne
      have hlt : k < m := by
        rcases Nat.lt_or_ge k m with h' | h'
        · exact h'
        · exact absurd (by rw [show k = m by omega]; exact pw_frob h E) hne
      rw [mul_pw h, ← two_pow_dbl, tmI_eq hi.els hi.trm (els_lin h (pw_bd h _).2) (trimmed_lin _)]
      exact minGo_inv h hG hX x0 g0 f (k + 1) _ (by omega) (by omega) (by omega) (hi.step h hG hX x0 g0 hne)
theorem minS_inv {m : Nat} (h : Em m) (n : Int) {G X : List Nat} (hG : Bits G) (hX : Els m X) (x0 : ∀ k, ev m (pw m (wrapS m n * 2 ^ k)) X = 0) (hc : Comb m G [] X) (g0 : ev m (pw m (wrapS m n)) G ≠ 0) :
    Bits (minS m n) ∧ Trimmed (minS m n) ∧ minS m n ≠ [] ∧ ev m (pw m (wrapS m n)) (minS m n) = 0 ∧ Comb m (tmS m G (minS m n)) [] X := by
  obtain ⟨d, h1, h2, hi⟩ := minGo_inv h hG hX x0 g0 m 1 [pw m (wrapS m n), 1] (by omega) (by have := h.1; omega) (Nat.le_refl _) (Mi.start h hG hX x0 hc g0)
  have e : minGo m (pw m (wrapS m n)) m (pw m (wrapS m n * 2 ^ 1)) [pw m (wrapS m n), 1] = minS m n := by
    unfold minS
    rw [mul_pw h, show wrapS m n + wrapS m n = wrapS m n * 2 ^ 1 by omega]
  rw [e] at hi
  refine ⟨fun k => ?_, hi.trm, hi.ne, hi.root, hi.comb⟩
  rw [hi.cf]
  exact sq_fix h (Pf_le h _ _ _) (Pf_fix h h1 h2 k)
theorem bit_mul {m a b : Nat} (h : Em m) (ha : a ≤ 1) (hb : b ≤ 1) : mul m a b ≤ 1 := by
  have := sz_bd h
  by_cases e : a = 0
  · subst e; rw [zero_mul]; omega
  · obtain rfl : a = 1 := by omega
    rw [one_mul h (by omega)]; exact hb
theorem bit_xor {a b : Nat} (ha : a ≤ 1) (hb : b ≤ 1) : a ^^^ b ≤ 1 := by
  have h1 : a = 0 ∨ a = 1 := by omega
  have h2 : b = 0 ∨ b = 1 := by omega
  rcases h1 with rfl | rfl <;> rcases h2 with rfl | rfl <;> decide
theorem cv_bits {m : Nat} (h : Em m) {Q : List Nat} (hQ : Bits Q) : ∀ (A : List Nat) (k : Nat), Bits A → cv m A Q k ≤ 1
  | [], _, _ => Nat.zero_le _
  | _ :: _, 0, hA => bit_mul h (hA 0) (hQ 0)
  | _ :: A, k + 1, hA => bit_xor (bit_mul h (hA 0) (hQ (k + 1))) (cv_bits h hQ A k (fun k => hA (k + 1)))
/-- What holds of a generator while it is made. -/
structure Gi (m : Nat) (X G : List Nat) (n : Nat) : Prop where
  bits : Bits G
  trm : Trimmed G
  ne : G ≠ []
  roots : ∀ j : Nat, 1 ≤ j → j ≤ n → ev m (pw m (wrapS m (j : Int))) G = 0
  comb : Comb m G [] X
theorem genGo_inv {m : Nat} (h : Em m) {X : List Nat} (hX : Els m X) (tX : Trimmed X) : ∀ n, (∀ j : Nat, 1 ≤ j → j ≤ n → ∀ k, ev m (pw m (wrapS m (j : Int) * 2 ^ k)) X = 0) → Gi m X (genGo m n) n
  | 0, _ => by
    refine ⟨fun k => ?_, fun _ => by simp [genGo, nth], by simp [genGo], fun j h1 h2 => by omega, X, hX, fun k => ?_⟩
    · cases k with
      | zero => exact Nat.le_refl _
      | succ k => rw [genGo, nth_over _ (by simp)]; omega
    · rw [genGo, ← nth_tm, tm_one h hX tX, nth_nil, Nat.xor_zero]
  | n + 1, x0 => by
    have hi := genGo_inv h hX tX n fun j h1 h2 => x0 j h1 (by omega)
    rw [genGo]
    split
    · rename_i e
      refine ⟨hi.bits, hi.trm, hi.ne, fun j h1 h2 => ?_, hi.comb⟩
      by_cases hj : j = n + 1
      · subst hj; exact e
      · exact hi.roots j h1 (by omega)
    · rename_i hne
      obtain ⟨b1, b2, b3, b4, b5⟩ := minS_inv h ((n + 1 : Nat) : Int) hi.bits hX (x0 (n + 1) (by omega) (Nat.le_refl _)) hi.comb hne
      rw [tmI_eq (hi.bits.els h) hi.trm (b1.els h) b2]
      refine ⟨fun k => ?_, tm_trimmed h hi.trm b2, tm_ne hi.ne b3, fun j h1 h2 => ?_, b5⟩
      · rw [nth_tm]; exact cv_bits h b1 _ _ hi.bits
      · rw [ev_tm h (pw_bd h _).2 (hi.bits.els h) (b1.els h)]
        by_cases hj : j = n + 1
        · subst hj; rw [b4, mul_zero]
        · rw [hi.roots j h1 (by omega), zero_mul]
/-- x to the field's size, and 1. -/
def xn (m : Nat) : List Nat := ((List.replicate (sz m + 1) 0).set 0 1).set (sz m) 1
theorem xn_len (m : Nat) : (xn m).length = sz m + 1 := by simp [xn]
theorem xn_put {m : Nat} (h : Em m) : xn m = put (put (List.replicate (sz m + 1) 0) 0 1) (sz m) 1 := by
  have := sz_bd h
  have e : nth ((List.replicate (sz m + 1) 0).set 0 1) (sz m) = 0 := by
    unfold nth
    rw [List.getD_eq_getElem?_getD, List.getElem?_set_ne (by omega), List.getElem?_replicate]
    split <;> rfl
  unfold put
  rw [nth_zeros, Nat.zero_xor, e, Nat.zero_xor]; rfl
theorem xn_els {m : Nat} (h : Em m) : Els m (xn m) := by
  have := sz_bd h
  rw [xn_put h]
  exact ((Els.zeros m _).put _ (by omega)).put _ (by omega)
theorem xn_trimmed {m : Nat} : Trimmed (xn m) := fun _ => by
  rw [xn_len, nth_of (by rw [xn_len]; omega)]
  simp [xn]
theorem px_pw {m : Nat} (h : Em m) (i : Nat) : ∀ k, px m (pw m i) k = pw m (i * k)
  | 0 => rfl
  | k + 1 => by rw [px, px_pw h i k, mul_pw h, Nat.mul_succ]
theorem xn_roots {m : Nat} (h : Em m) (i : Nat) : ev m (pw m i) (xn m) = 0 := by
  have hs := sz_bd h
  have hi := (pw_bd h i).2
  rw [xn_put h, ev_put h hi _ _ _ ((Els.zeros m _).put _ (by omega)) (by omega) (by rw [put_len]; simp), ev_put h hi _ _ _ (Els.zeros m _) (by omega) (by simp), ev_zeros, Nat.zero_xor]
  rw [px_pw h, px_pw h, ← pw_mod h (i * sz m), Nat.mul_mod_left, Nat.mul_zero, Nat.xor_self]
/-- The generator, said plainly. -/
theorem gen_facts {m : Nat} (h : Em m) (t : Nat) (ht : 1 ≤ t) :
    Bits (genS m t) ∧ 1 < (genS m t).length ∧ nth (genS m t) ((genS m t).length - 1) = 1 ∧ (∀ j : Nat, 1 ≤ j → j ≤ 2 * t → evS m (pw m (wrapS m (j : Int))) (ints (genS m t)) = 0) ∧ restS m (rowS m (ints (xn m))) (rowS m (ints (genS m t))) = [] := by
  have hi : Gi m (xn m) (genS m t) (2 * t) := genGo_inv h (xn_els h) xn_trimmed (2 * t) fun _ _ _ _ => xn_roots h _
  have hl : 0 < (genS m t).length := List.length_pos_iff.2 hi.ne
  have hlast : nth (genS m t) ((genS m t).length - 1) = 1 := by
    have h1 := hi.bits ((genS m t).length - 1)
    have h2 := hi.trm hi.ne
    omega
  refine ⟨hi.bits, ?_, hlast, hi.roots, ?_⟩
  · apply Classical.byContradiction
    intro hle
    have e1 : (genS m t).length = 1 := by omega
    have hr := hi.roots 1 (Nat.le_refl _) (by omega)
    obtain ⟨g, hg⟩ := List.length_eq_one_iff.1 e1
    have hb := hi.bits.els h
    rw [hg] at hr hlast hb
    rw [ev_cons _ hb.head, ev_nil, zero_mul, Nat.zero_xor] at hr
    rw [hr] at hlast
    simp [nth] at hlast
  · rw [rowS_ints (xn_els h), trim_of_trimmed xn_trimmed, rowS_ints (hi.bits.els h), trim_of_trimmed hi.trm]
    exact rest_comb h (hi.bits.els h) hi.trm hi.ne hl (fun e => absurd rfl e) (xn_els h) xn_trimmed hi.comb
end Gf
end Go.Proofs.YtiojdoehlooibaaDoor

/- Sums over a row of elements: power sums, that they tell weights (Vandermonde), and how far apart words lie. -/
namespace Go.Proofs.YtiojdoehlooibaaDoor
namespace Gf
/-- The sum of a function over a row. -/
def sm (X : List Nat) (f : Nat → Nat) : Nat := X.foldr (fun x s => f x ^^^ s) 0
theorem sm_nil (f : Nat → Nat) : sm [] f = 0 := rfl
theorem sm_cons (x : Nat) (X : List Nat) (f : Nat → Nat) : sm (x :: X) f = f x ^^^ sm X f := rfl
theorem sm_le {m : Nat} {X : List Nat} {f : Nat → Nat} (hf : ∀ x ∈ X, f x ≤ sz m) : sm X f ≤ sz m := by
  induction X with
  | nil => exact Nat.zero_le _
  | cons x X ih => exact xor_le (hf x (by simp)) (ih fun y hy => hf y (by simp [hy]))
theorem sm_congr {X : List Nat} {f g : Nat → Nat} (e : ∀ x ∈ X, f x = g x) : sm X f = sm X g := by
  induction X with
  | nil => rfl
  | cons x X ih => rw [sm_cons, sm_cons, e x (by simp), ih fun y hy => e y (by simp [hy])]
theorem sm_xor (X : List Nat) (f g : Nat → Nat) : sm X (fun x => f x ^^^ g x) = sm X f ^^^ sm X g := by
  induction X with
  | nil => exact (Nat.xor_self 0).symm
  | cons x X ih => rw [sm_cons, sm_cons, sm_cons, ih, xor4]
theorem sm_mul {m a : Nat} (h : Em m) (ha : a ≤ sz m) {X : List Nat} {f : Nat → Nat} (hf : ∀ x ∈ X, f x ≤ sz m) : sm X (fun x => mul m a (f x)) = mul m a (sm X f) := by
  induction X with
  | nil => rw [sm_nil, sm_nil, mul_zero]
  | cons x X ih =>
    rw [sm_cons, sm_cons, ih fun y hy => hf y (by simp [hy]), mul_xor h ha (hf x (by simp)) (sm_le fun y hy => hf y (by simp [hy]))]
theorem sm_zero {X : List Nat} {f : Nat → Nat} (e : ∀ x ∈ X, f x = 0) : sm X f = 0 := by
  induction X with
  | nil => rfl
  | cons x X ih => rw [sm_cons, e x (by simp), ih fun y hy => e y (by simp [hy])]; rfl
theorem sm_append (X Y : List Nat) (f : Nat → Nat) : sm (X ++ Y) f = sm X f ^^^ sm Y f := by
  induction X with
  | nil => rw [List.nil_append, sm_nil, Nat.zero_xor]
  | cons x X ih => rw [List.cons_append, sm_cons, sm_cons, ih, Nat.xor_assoc]
theorem sm_map (X : List Nat) (g f : Nat → Nat) : sm (X.map g) f = sm X (fun x => f (g x)) := by
  induction X with
  | nil => rfl
  | cons x X ih => rw [List.map_cons, sm_cons, sm_cons, ih]
theorem sm_single {X : List Nat} {f : Nat → Nat} {x0 : Nat} (hn : X.Nodup) (h0 : x0 ∈ X) (e : ∀ x ∈ X, x ≠ x0 → f x = 0) : sm X f = f x0 := by
  induction X with
  | nil => simp at h0
  | cons x X ih =>
    have hn' := List.nodup_cons.1 hn
    rw [sm_cons]
    by_cases hx : x = x0
    · subst hx
      rw [sm_zero fun y hy => e y (by simp [hy]) (fun e' => hn'.1 (e' ▸ hy)), Nat.xor_zero]
    · rw [e x (by simp) hx, Nat.zero_xor]
      exact ih hn'.2 ((List.mem_cons.1 h0).resolve_left fun e' => hx e'.symm) fun y hy => e y (by simp [hy])
/-- A row of coefficients against power sums from the e-th on. -/
def dt (m : Nat) (T : Nat → Nat) : List Nat → Nat → Nat
  | [], _ => 0
  | a :: l, e => mul m a (T e) ^^^ dt m T l (e + 1)
theorem dt_zero {m : Nat} {T : Nat → Nat} : ∀ (y : List Nat) (e : Nat), (∀ k, k < y.length → T (e + k) = 0) → dt m T y e = 0
  | [], _, _ => rfl
  | a :: l, e, h => by
    rw [dt, show T e = 0 from h 0 (by simp), mul_zero, dt_zero l (e + 1) fun k hk => by rw [show e + 1 + k = e + (k + 1) by omega]; exact h (k + 1) (by simpa using hk)]; rfl
/-- Power sums with weights. -/
def ps (m : Nat) (X : List Nat) (c : Nat → Nat) (e : Nat) : Nat := sm X fun x => mul m (c x) (px m x e)
theorem dt_ps {m : Nat} (h : Em m) {X : List Nat} (hX : ∀ x ∈ X, x ≤ sz m) {c : Nat → Nat} (hc : ∀ x, c x ≤ sz m) : ∀ (y : List Nat) (e : Nat), Els m y → dt m (ps m X c) y e = sm X fun x => mul m (mul m (c x) (px m x e)) (ev m x y)
  | [], e, _ => by rw [dt, sm_zero fun x _ => by rw [ev_nil, mul_zero]]
  | a :: l, e, hy => by
    rw [dt, dt_ps h hX hc l (e + 1) hy.tail]
    have e1 : mul m a (ps m X c e) = sm X fun x => mul m (mul m (c x) (px m x e)) a := by
      rw [ps, ← sm_mul h hy.head fun x _ => mul_le h _ _]
      exact sm_congr fun x _ => mul_comm _ _ _
    rw [e1, ← sm_xor]
    refine sm_congr fun x hx => ?_
    have hx' := hX x hx
    have hpx := px_le h x e
    rw [ev_cons x hy.head, mul_xor h (mul_le h _ _) (mul_le h _ _) hy.head, Nat.xor_comm]
    congr 1
    rw [px, ← mul_assoc h (hc x) hpx hx', mul_assoc h (mul_le h _ _) hx' (ev_le h x l), mul_comm m x]
/-- The product of (z + x). -/
def lp (m : Nat) : List Nat → List Nat
  | [] => [1]
  | x :: X => tmS m (lp m X) [x, 1]
theorem lp_facts {m : Nat} (h : Em m) : ∀ (X : List Nat), (∀ x ∈ X, x ≤ sz m) → Els m (lp m X) ∧ Trimmed (lp m X) ∧ (lp m X).length = X.length + 1
  | [], _ => by
    have := sz_bd h
    exact ⟨Els.cons (by omega) (fun k => by rw [nth_nil]; exact Nat.zero_le _), fun _ => by simp [lp, nth], rfl⟩
  | x :: X, hX => by
    obtain ⟨h1, h2, h3⟩ := lp_facts h X fun y hy => hX y (by simp [hy])
    refine ⟨tm_els h _ _, tm_trimmed h h2 (trimmed_lin _), ?_⟩
    rw [lp]
    unfold tmS
    rw [if_neg (by
      rintro (e | e)
      · rw [e] at h3; simp at h3
      · simp at e), outer_len]
    simp [h3]
theorem ev_lp {m y : Nat} (h : Em m) (hy : y ≤ sz m) (x : Nat) (X : List Nat) (hX : ∀ z ∈ x :: X, z ≤ sz m) : ev m y (lp m (x :: X)) = mul m (ev m y (lp m X)) (y ^^^ x) := by
  rw [lp, ev_tm h hy (lp_facts h X fun z hz => hX z (by simp [hz])).1 (els_lin h (hX x (by simp))), ev_lin h hy (hX x (by simp))]
theorem lp_in {m y : Nat} (h : Em m) (hy : y ≤ sz m) : ∀ (X : List Nat), (∀ z ∈ X, z ≤ sz m) → y ∈ X → ev m y (lp m X) = 0
  | [], _, hm => by simp at hm
  | x :: X, hX, hm => by
    rw [ev_lp h hy x X hX]
    by_cases e : y = x
    · subst e; rw [Nat.xor_self, mul_zero]
    · rw [lp_in h hy X (fun z hz => hX z (by simp [hz])) (by simpa [e] using hm), zero_mul]
theorem lp_out {m y : Nat} (h : Em m) (hy : y ≤ sz m) : ∀ (X : List Nat), (∀ z ∈ X, z ≤ sz m) → y ∉ X → ev m y (lp m X) ≠ 0
  | [], _, _ => by
    have := sz_bd h
    rw [lp, ev_cons _ (by omega), ev_nil, zero_mul]; decide
  | x :: X, hX, hm => by
    rw [ev_lp h hy x X hX]
    simp at hm
    exact mul_ne h (lp_out h hy X (fun z hz => hX z (by simp [hz])) hm.2) (xor_ne hm.1)
/-- Weights whose power sums are all 0 are all 0. -/
theorem vander {m : Nat} (h : Em m) {X : List Nat} (hn : X.Nodup) (hX : ∀ x ∈ X, 1 ≤ x ∧ x ≤ sz m) {c : Nat → Nat} (hc : ∀ x, c x ≤ sz m) (T0 : ∀ e, 1 ≤ e → e ≤ X.length → ps m X c e = 0) : ∀ x ∈ X, c x = 0 := by
  intro x0 h0
  have hX' : ∀ x ∈ X, x ≤ sz m := fun x hx => (hX x hx).2
  have hE : ∀ z ∈ X.erase x0, z ≤ sz m := fun z hz => hX' z (List.mem_of_mem_erase hz)
  obtain ⟨f1, _, f3⟩ := lp_facts h (X.erase x0) hE
  have hl := List.length_erase_of_mem h0
  have hp : 0 < X.length := List.length_pos_of_mem h0
  have e1 := dt_ps h hX' hc (lp m (X.erase x0)) 1 f1
  rw [dt_zero _ _ fun k hk => T0 (1 + k) (by omega) (by omega)] at e1
  have hb := hX x0 h0
  rw [sm_single hn h0 fun x hx hne => by rw [lp_in h (hX' x hx) _ hE ((List.mem_erase_of_ne hne).2 hx), mul_zero]] at e1
  apply Classical.byContradiction
  intro hc0
  refine mul_ne h (mul_ne h hc0 ?_) (lp_out h hb.2 _ hE ?_) e1.symm
  · rw [px, px, one_mul h hb.2]; omega
  · intro hm
    exact (List.Nodup.mem_erase_iff hn).1 hm |>.1 rfl
/-- The places of a row where 1 stands. -/
def supp (w : List Nat) : List Nat := (List.range w.length).filter fun i => nth w i == 1
theorem mem_supp {w : List Nat} {i : Nat} : i ∈ supp w ↔ i < w.length ∧ nth w i = 1 := by simp [supp]
theorem supp_snoc (l : List Nat) (c : Nat) : supp (l ++ [c]) = supp l ++ (if c = 1 then [l.length] else []) := by
  unfold supp
  rw [List.length_append, List.length_singleton, List.range_succ, List.filter_append]
  congr 1
  · refine List.filter_congr fun i hi => ?_
    rw [List.mem_range] at hi
    unfold nth
    rw [List.getD_eq_getElem?_getD, List.getElem?_append_left hi, ← List.getD_eq_getElem?_getD]
  · have : nth (l ++ [c]) l.length = c := by simp [nth]
    by_cases hc : c = 1
    · subst hc; simp [this]
    · simp [this, hc]
theorem ev_supp {m x : Nat} (h : Em m) (hx : x ≤ sz m) (w : List Nat) (hw : Bits w) : ev m x w = sm (supp w) (px m x) := by
  have key : ∀ n, n ≤ w.length → ev m x (w.take n) = sm (supp (w.take n)) (px m x) := by
    intro n
    induction n with
    | zero => intro _; rfl
    | succ n ih =>
      intro hn
      have hb := hw n
      rw [ev_take_succ h hx (hw.els h) hn, ih (by omega), take_snoc' hn, supp_snoc, sm_append, List.length_take, Nat.min_eq_left (by omega)]
      congr 1
      by_cases e : nth w n = 1
      · rw [e, if_pos rfl, one_mul h (px_le h x n), sm_cons, sm_nil, Nat.xor_zero]
      · rw [if_neg e, sm_nil, show nth w n = 0 by omega, zero_mul]
  have := key w.length (Nat.le_refl _)
  rwa [List.take_length] at this
/-- The locators of a row's places. -/
def locs (m : Nat) (w : List Nat) : List Nat := (supp w).map (pw m)
theorem ev_locs {m : Nat} (h : Em m) (e : Nat) (w : List Nat) (hw : Bits w) : ev m (pw m e) w = ps m (locs m w) (fun _ => 1) e := by
  rw [ev_supp h (pw_bd h e).2 w hw, ps, locs, sm_map]
  refine sm_congr fun i _ => ?_
  rw [one_mul h (px_le h _ _), px_pw h, px_pw h, Nat.mul_comm]
theorem supp_nodup (w : List Nat) : (supp w).Nodup := (List.nodup_range).filter _
theorem locs_nodup {m : Nat} (h : Em m) {w : List Nat} (hl : w.length ≤ sz m) : (locs m w).Nodup := by
  unfold locs
  rw [List.nodup_iff_pairwise_ne, List.pairwise_map]
  refine List.Pairwise.imp_of_mem (fun {i j} hi hj hij e => ?_) (List.nodup_iff_pairwise_ne.1 (supp_nodup w))
  rw [mem_supp] at hi hj
  exact hij (pw_inj h (by omega) (by omega) e)
theorem locs_bd {m : Nat} (h : Em m) (w : List Nat) : ∀ x ∈ locs m w, 1 ≤ x ∧ x ≤ sz m := fun x hx => by
  simp [locs] at hx
  obtain ⟨i, _, rfl⟩ := hx
  exact pw_bd h i
/-- What is 0 at the first 2t powers, and not nothing, has more than 2t places. -/
theorem bch_bound {m n : Nat} (h : Em m) {w : List Nat} (hw : Bits w) (hl : w.length ≤ sz m) (h0 : ∀ e, 1 ≤ e → e ≤ n → ev m (pw m e) w = 0) (hs : supp w ≠ []) : n < (supp w).length := by
  apply Classical.byContradiction
  intro hle
  have h1 := sz_bd h
  have hlen : (locs m w).length = (supp w).length := by simp [locs]
  have hv := vander h (locs_nodup h hl) (locs_bd h w) (c := fun _ => 1) (fun _ => by omega) fun e e1 e2 => by
    rw [← ev_locs h e w hw]
    exact h0 e e1 (by omega)
  obtain ⟨i, hi⟩ := List.exists_mem_of_ne_nil _ hs
  have := hv (pw m i) (by simp only [locs, List.mem_map]; exact ⟨i, hi, rfl⟩)
  simp at this
end Gf
end Go.Proofs.YtiojdoehlooibaaDoor

/- Equations by leaving unknowns out; places of turned bits by equations (Peterson). -/
namespace Go.Proofs.YtiojdoehlooibaaDoor
namespace Gf
theorem cv_one {m : Nat} (h : Em m) : ∀ (p : List Nat) (k : Nat), Els m p → cv m p [1] k = nth p k
  | [], k, _ => by rw [nth_nil]; cases k <;> rfl
  | a :: p, 0, hp => by rw [cv, nth_cons_zero, nth_cons_zero, mul_one h hp.head]
  | a :: p, k + 1, hp => by rw [cv, nth_over [1] (by simp), mul_zero, Nat.zero_xor, cv_one h p k hp.tail, nth_cons_succ]
theorem sv_len (m b : Nat) : ∀ l, (sv m b l).length = l.length
  | [] => rfl
  | _ :: l => by rw [sv, List.length_cons, sv_len m b l, List.length_cons]
theorem els_one {m : Nat} (h : Em m) : Els m [1] := by
  have := sz_bd h
  exact Els.cons (by omega) (fun k => by rw [nth_nil]; exact Nat.zero_le _)
/-- Where a row is 0 at x it is (z + x) times what sv tells. -/
theorem nth_root {m x : Nat} (h : Em m) (hx : x ≤ sz m) {c : Nat} {l : List Nat} (hl : Els m (c :: l)) (e : ev m x (c :: l) = 0) (k : Nat) : nth (c :: l) k = Lf m x (nth (sv m x l)) k := by
  have h1 := cv_sv h hx (els_one h) l c k hl
  rw [cv_one h _ _ hl, e, zero_mul, Nat.zero_xor] at h1
  rw [h1]
  exact Lf_congr (fun i => cv_one h _ _ (sv_els h x l)) k
theorem ev_root {m x y : Nat} (h : Em m) (hx : x ≤ sz m) (hy : y ≤ sz m) {c : Nat} {l : List Nat} (hl : Els m (c :: l)) (e : ev m x (c :: l) = 0) : ev m y (c :: l) = mul m (ev m y (sv m x l)) (y ^^^ x) := by
  have hs := sv_els h x l
  rw [ev_of_nth y hl (tm_els h (sv m x l) [x, 1]) fun k => by rw [nth_root h hx hl e, nth_tm, cv_lin h _ _ hs], ev_tm h hy hs (els_lin h hx), ev_lin h hy hx]
/-- A row that is 0 at as many elements as it is long is 0. -/
theorem rootless {m : Nat} (h : Em m) : ∀ (X Y : List Nat), X.Nodup → (∀ x ∈ X, x ≤ sz m) → Els m Y → Y.length ≤ X.length → (∀ x ∈ X, ev m x Y = 0) → ∀ k, nth Y k = 0
  | [], Y, _, _, _, hl, _, k => nth_over Y (by simp at hl; simp [hl])
  | x :: X, [], _, _, _, _, _, k => nth_nil k
  | x :: X, c :: l, hn, hX, hY, hl, h0, k => by
    have hx := hX x (by simp)
    have hn' := List.nodup_cons.1 hn
    rw [nth_root h hx hY (h0 x (by simp))]
    have ih := rootless h X (sv m x l) hn'.2 (fun y hy => hX y (by simp [hy])) (sv_els h x l) (by rw [sv_len]; simpa using hl) fun y hy => by
      have h1 := h0 y (by simp [hy])
      rw [ev_root h hx (hX y (by simp [hy])) hY (h0 x (by simp))] at h1
      apply Classical.byContradiction
      intro hne
      exact mul_ne h hne (xor_ne fun e : y = x => hn'.1 (e ▸ hy)) h1
    rw [Lf_congr ih, Lf_nought]
/-- A row of n + 1 numbers by unknowns. -/
def rv (m n : Nat) (R y : Nat → Nat) : Nat := sm (List.range (n + 1)) fun c => mul m (R c) (y c)
theorem rv_le {m : Nat} (h : Em m) (n : Nat) (R y : Nat → Nat) : rv m n R y ≤ sz m := sm_le fun _ _ => mul_le h _ _
/-- Rows that are all 0 by the unknowns. -/
def Sol (m n : Nat) (M : Nat → Nat → Nat) (y : Nat → Nat) : Prop := ∀ r, r < n → rv m n (M r) y = 0
/-- Two rows changed with one another. -/
def swp (M : Nat → Nat → Nat) (i k : Nat) : Nat → Nat → Nat := fun r => if r = i then M k else if r = k then M i else M r
/-- A row multiplied. -/
def scl (m : Nat) (M : Nat → Nat → Nat) (i b : Nat) : Nat → Nat → Nat := fun r c => if r = i then mul m (M r c) b else M r c
/-- The row i put on the others, so that nothing is left of the unknown i. -/
def elm (m : Nat) (M : Nat → Nat → Nat) (i : Nat) : Nat → Nat → Nat := fun r c => if r = i then M r c else M r c ^^^ mul m (M r i) (M i c)
/-- All numbers are elements. -/
def Ent (m : Nat) (M : Nat → Nat → Nat) : Prop := ∀ r c, M r c ≤ sz m
theorem sol_swp {m n : Nat} {M : Nat → Nat → Nat} {i k : Nat} (hi : i < n) (hk : k < n) (y : Nat → Nat) : Sol m n (swp M i k) y ↔ Sol m n M y := by
  constructor
  · intro h r hr
    by_cases e1 : r = i
    · subst e1
      by_cases e2 : k = r
      · subst e2; have := h k hk; simpa [swp] using this
      · have := h k hk
        rw [swp, if_neg e2, if_pos rfl] at this
        exact this
    · by_cases e2 : r = k
      · subst e2
        have := h i hi
        rw [swp, if_pos rfl] at this
        exact this
      · have := h r hr
        rw [swp, if_neg e1, if_neg e2] at this
        exact this
  · intro h r hr
    rw [swp]
    split
    · exact h k hk
    · split
      · exact h i hi
      · exact h r hr
theorem rv_scl {m n : Nat} (h : Em m) {R : Nat → Nat} (hR : ∀ c, R c ≤ sz m) {y : Nat → Nat} (hy : ∀ c, y c ≤ sz m) {b : Nat} (hb : b ≤ sz m) : rv m n (fun c => mul m (R c) b) y = mul m b (rv m n R y) := by
  unfold rv
  rw [← sm_mul h hb fun _ _ => mul_le h _ _]
  refine sm_congr fun c _ => ?_
  show mul m (mul m (R c) b) (y c) = _
  rw [mul_comm m (R c) b, mul_assoc h hb (hR c) (hy c)]
theorem sol_scl {m n : Nat} (h : Em m) {M : Nat → Nat → Nat} (hM : Ent m M) {i b : Nat} (hb : b ≤ sz m) (hb0 : b ≠ 0) {y : Nat → Nat} (hy : ∀ c, y c ≤ sz m) : Sol m n (scl m M i b) y ↔ Sol m n M y := by
  have key : ∀ r, rv m n (scl m M i b r) y = if r = i then mul m b (rv m n (M r) y) else rv m n (M r) y := fun r => by
    by_cases e : r = i
    · rw [if_pos e, ← rv_scl h (hM r) hy hb]
      congr 1
      funext c
      simp [scl, e]
    · rw [if_neg e]
      congr 1
      funext c
      simp [scl, e]
  constructor
  · intro hs r hr
    have := hs r hr
    rw [key] at this
    by_cases e : r = i
    · rw [if_pos e] at this
      exact Classical.byContradiction fun hne => mul_ne h hb0 hne this
    · rwa [if_neg e] at this
  · intro hs r hr
    rw [key, hs r hr]
    split
    · exact mul_zero _ _
    · rfl
theorem rv_elm {m n : Nat} (h : Em m) {R S : Nat → Nat} (hR : ∀ c, R c ≤ sz m) (hS : ∀ c, S c ≤ sz m) {y : Nat → Nat} (hy : ∀ c, y c ≤ sz m) {f : Nat} (hf : f ≤ sz m) : rv m n (fun c => R c ^^^ mul m f (S c)) y = rv m n R y ^^^ mul m f (rv m n S y) := by
  unfold rv
  rw [← sm_mul h hf fun _ _ => mul_le h _ _, ← sm_xor]
  refine sm_congr fun c _ => ?_
  rw [xor_mul h (hy c) (hR c) (mul_le h _ _), mul_assoc h hf (hS c) (hy c)]
theorem sol_elm {m n : Nat} (h : Em m) {M : Nat → Nat → Nat} (hM : Ent m M) {i : Nat} (hi : i < n) {y : Nat → Nat} (hy : ∀ c, y c ≤ sz m) : Sol m n (elm m M i) y ↔ Sol m n M y := by
  have key : ∀ r, rv m n (elm m M i r) y = if r = i then rv m n (M r) y else rv m n (M r) y ^^^ mul m (M r i) (rv m n (M i) y) := fun r => by
    by_cases e : r = i
    · rw [if_pos e]
      congr 1
      funext c
      simp [elm, e]
    · rw [if_neg e, ← rv_elm h (hM r) (hM i) hy (hM r i)]
      congr 1
      funext c
      simp [elm, e]
  constructor
  · intro hs
    have hi0 : rv m n (M i) y = 0 := by
      have := hs i hi
      rwa [key, if_pos rfl] at this
    intro r hr
    have := hs r hr
    rw [key] at this
    by_cases e : r = i
    · rwa [if_pos e] at this
    · rwa [if_neg e, hi0, mul_zero, Nat.xor_zero] at this
  · intro hs r hr
    rw [key, hs r hr, hs i hi, mul_zero]
    split <;> rfl
theorem ent_swp {m : Nat} {M : Nat → Nat → Nat} (h : Ent m M) (i k : Nat) : Ent m (swp M i k) := fun r c => by
  unfold swp
  split
  · exact h _ _
  · split <;> exact h _ _
theorem ent_scl {m : Nat} (hm : Em m) {M : Nat → Nat → Nat} (h : Ent m M) (i b : Nat) : Ent m (scl m M i b) := fun r c => by
  unfold scl
  split
  · exact mul_le hm _ _
  · exact h _ _
theorem ent_elm {m : Nat} (hm : Em m) {M : Nat → Nat → Nat} (h : Ent m M) (i : Nat) : Ent m (elm m M i) := fun r c => by
  unfold elm
  split
  · exact h _ _
  · exact xor_le (h _ _) (mul_le hm _ _)
/-- The first i columns are those of the unknowns alone. -/
def Unit (n i : Nat) (M : Nat → Nat → Nat) : Prop := ∀ r j, r < n → j < i → M r j = if r = j then 1 else 0
/-- One unknown left out: k is the row in which it is met. -/
def stp (m : Nat) (M : Nat → Nat → Nat) (i k : Nat) : Nat → Nat → Nat := elm m (scl m (swp M i k) i (invS m (M k i))) i
theorem stp_ent {m : Nat} (h : Em m) {M : Nat → Nat → Nat} (hM : Ent m M) (i k : Nat) : Ent m (stp m M i k) := ent_elm h (ent_scl h (ent_swp hM i k) i _) i
theorem inv_ne {m a : Nat} (h : Em m) (h0 : a ≠ 0) (ha : a ≤ sz m) : invS m a ≠ 0 := fun e => by
  have := inv_mul h h0 ha
  rw [e, mul_zero] at this
  omega
theorem stp_sol {m n : Nat} (h : Em m) {M : Nat → Nat → Nat} (hM : Ent m M) {i k : Nat} (hi : i < n) (hk : k < n) (h0 : M k i ≠ 0) {y : Nat → Nat} (hy : ∀ c, y c ≤ sz m) : Sol m n (stp m M i k) y ↔ Sol m n M y := by
  unfold stp
  rw [sol_elm h (ent_scl h (ent_swp hM i k) i _) hi hy, sol_scl h (ent_swp hM i k) (inv_le h _) (inv_ne h h0 (hM k i)) hy, sol_swp hi hk]
theorem stp_unit {m n : Nat} (h : Em m) {M : Nat → Nat → Nat} (hM : Ent m M) {i k : Nat} (hi : i < n) (hik : i ≤ k) (hk : k < n) (h0 : M k i ≠ 0) (hu : Unit n i M) : Unit n (i + 1) (stp m M i k) := by
  have hz := sz_bd h
  have hpiv : scl m (swp M i k) i (invS m (M k i)) i i = 1 := by
    rw [scl, if_pos rfl, swp, if_pos rfl]
    exact inv_mul h h0 (hM k i)
  have hrow : ∀ j, j < i → scl m (swp M i k) i (invS m (M k i)) i j = 0 := fun j hj => by
    rw [scl, if_pos rfl, swp, if_pos rfl, hu k j hk hj, if_neg (by omega), zero_mul]
  intro r j hr hj
  rw [stp, elm]
  by_cases ej : j = i
  · subst ej
    split
    · rename_i e; subst e; exact hpiv
    · rename_i e
      rw [hpiv, mul_one h (ent_scl h (ent_swp hM _ k) _ _ _ _), Nat.xor_self]
  · have hj' : j < i := by omega
    split
    · rename_i e; subst e
      rw [hrow j hj', if_neg (by omega)]
    · rename_i e
      rw [hrow j hj', mul_zero, Nat.xor_zero, scl, if_neg e, swp, if_neg e]
      split
      · rename_i e2; subst e2
        rw [hu i j hi hj', if_neg (by omega), if_neg (by omega)]
      · exact hu r j hr hj'
theorem range_split {n i : Nat} (hi : i < n) (f : Nat → Nat) (h0 : ∀ c, i < c → c < n → f c = 0) : sm (List.range n) f = sm (List.range (i + 1)) f := by
  induction n with
  | zero => omega
  | succ n ih =>
    by_cases e : i = n
    · subst e; rfl
    · rw [List.range_succ, sm_append, sm_cons, sm_nil, Nat.xor_zero, h0 n (by omega) (by omega), Nat.xor_zero]
      exact ih (by omega) fun c h1 h2 => h0 c h1 (by omega)
/-- Where the unknown i is met in no row from the i-th on there is more than one answer. -/
theorem stuck {m n i : Nat} (h : Em m) {M : Nat → Nat → Nat} (hM : Ent m M) (hi : i < n) (hu : Unit n i M) (hno : ∀ k, i ≤ k → k < n → M k i = 0) :
    ∃ y : Nat → Nat, (∀ c, y c ≤ sz m) ∧ y n = 0 ∧ y i ≠ 0 ∧ Sol m n M y := by
  have hz := sz_bd h
  refine ⟨fun c => if c < i then M c i else if c = i then 1 else 0, fun c => ?_, ?_, ?_, fun r hr => ?_⟩
  · show (if c < i then M c i else if c = i then 1 else 0) ≤ _
    split
    · exact hM _ _
    · split <;> omega
  · show (if n < i then M n i else if n = i then 1 else 0) = 0
    rw [if_neg (by omega), if_neg (by omega)]
  · show (if i < i then M i i else if i = i then 1 else 0) ≠ 0
    rw [if_neg (by omega), if_pos rfl]; decide
  · unfold rv
    rw [range_split (i := i) (by omega) _ fun c h1 _ => by
      show mul m (M r c) (if c < i then M c i else if c = i then 1 else 0) = 0
      rw [if_neg (by omega), if_neg (by omega), mul_zero]]
    rw [List.range_succ, sm_append, sm_cons, sm_nil, Nat.xor_zero]
    have e2 : mul m (M r i) (if i < i then M i i else if i = i then 1 else 0) = M r i := by
      rw [if_neg (by omega), if_pos rfl, mul_one h (hM _ _)]
    rw [e2]
    by_cases hri : r < i
    · rw [sm_single (x0 := r) List.nodup_range (List.mem_range.2 hri) fun c hc hne => by
        rw [List.mem_range] at hc
        rw [hu r c hr hc, if_neg (fun e => hne e.symm), zero_mul]]
      show mul m (M r r) (if r < i then M r i else if r = i then 1 else 0) ^^^ M r i = 0
      rw [hu r r hr hri, if_pos rfl, if_pos hri, one_mul h (hM _ _), Nat.xor_self]
    · rw [sm_zero fun c hc => by
        rw [List.mem_range] at hc
        rw [hu r c hr hc, if_neg (by omega), zero_mul], hno r (by omega) hr]; rfl
/-- Where all unknowns stand alone there is one answer. -/
theorem plain {m n : Nat} (h : Em m) {M : Nat → Nat → Nat} (hu : Unit n n M) {y : Nat → Nat} (hy : ∀ c, y c ≤ sz m) : Sol m n M y ↔ ∀ r, r < n → y r = mul m (M r n) (y n) := by
  have key : ∀ r, r < n → rv m n (M r) y = y r ^^^ mul m (M r n) (y n) := fun r hr => by
    unfold rv
    rw [List.range_succ, sm_append, sm_cons, sm_nil, Nat.xor_zero]
    congr 1
    rw [sm_single (x0 := r) List.nodup_range (List.mem_range.2 hr) fun c hc hne => by
      rw [List.mem_range] at hc
      rw [hu r c hr hc, if_neg (fun e => hne e.symm), zero_mul]]
    rw [hu r r hr hr, if_pos rfl, one_mul h (hy r)]
  constructor
  · intro hs r hr
    have := hs r hr
    rw [key r hr] at this
    exact Classical.byContradiction fun hne => xor_ne hne this
  · intro hs r hr
    rw [key r hr, ← hs r hr, Nat.xor_self]
/-- The first row from the k-th on in which the unknown i is met; n, if there is none. -/
def fnd (M : Nat → Nat → Nat) (i n : Nat) : Nat → Nat → Nat
  | 0, _ => n
  | f + 1, k => if M k i = 0 then fnd M i n f (k + 1) else k
theorem fnd_spec (M : Nat → Nat → Nat) (i n : Nat) : ∀ (f k : Nat), k + f = n → (fnd M i n f k = n ∧ ∀ j, k ≤ j → j < n → M j i = 0) ∨ (k ≤ fnd M i n f k ∧ fnd M i n f k < n ∧ M (fnd M i n f k) i ≠ 0)
  | 0, k, h => .inl ⟨rfl, fun j h1 h2 => by omega⟩
  | f + 1, k, h => by
    rw [fnd]
    by_cases e : M k i = 0
    · rw [if_pos e]
      rcases fnd_spec M i n f (k + 1) (by omega) with ⟨h1, h2⟩ | ⟨h1, h2, h3⟩
      · refine .inl ⟨h1, fun j a b => ?_⟩
        by_cases ej : j = k
        · subst ej; exact e
        · exact h2 j (by omega) b
      · exact .inr ⟨by omega, h2, h3⟩
    · rw [if_neg e]
      exact .inr ⟨Nat.le_refl _, by omega, e⟩
/-- All unknowns left out one by one, from the i-th on. -/
def gss (m n : Nat) : Nat → Nat → (Nat → Nat → Nat) → Option (Nat → Nat → Nat)
  | 0, _, M => some M
  | f + 1, i, M => if fnd M i n (n - i) i = n then none else gss m n f (i + 1) (stp m M i (fnd M i n (n - i) i))
theorem gss_spec {m n : Nat} (h : Em m) : ∀ (f i : Nat) (M : Nat → Nat → Nat), i + f = n → Ent m M → Unit n i M →
    (gss m n f i M = none ∧ ∃ y : Nat → Nat, (∀ c, y c ≤ sz m) ∧ y n = 0 ∧ (∃ c, c < n ∧ y c ≠ 0) ∧ Sol m n M y) ∨
    (∃ M', gss m n f i M = some M' ∧ Ent m M' ∧ ∀ y : Nat → Nat, (∀ c, y c ≤ sz m) → (Sol m n M y ↔ ∀ r, r < n → y r = mul m (M' r n) (y n)))
  | 0, i, M, hf, hM, hu => by
    obtain rfl : i = n := by omega
    exact .inr ⟨M, rfl, hM, fun y hy => plain h hu hy⟩
  | f + 1, i, M, hf, hM, hu => by
    rw [gss]
    rcases fnd_spec M i n (n - i) i (by omega) with ⟨h1, h2⟩ | ⟨h1, h2, h3⟩
    · rw [if_pos h1]
      obtain ⟨y, a, b, c, d⟩ := stuck h hM (by omega) hu h2
      exact .inl ⟨rfl, y, a, b, ⟨i, by omega, c⟩, d⟩
    · rw [if_neg (by omega)]
      have hi : i < n := by omega
      rcases gss_spec h f (i + 1) (stp m M i (fnd M i n (n - i) i)) (by omega) (stp_ent h hM _ _) (stp_unit h hM hi h1 h2 h3 hu) with ⟨e, y, a, b, c, d⟩ | ⟨M', e, a, b⟩
      · exact .inl ⟨e, y, a, b, c, (stp_sol h hM hi h2 h3 a).1 d⟩
      · exact .inr ⟨M', e, a, fun y hy => by rw [← stp_sol h hM hi h2 h3 hy]; exact b y hy⟩
/-- The equations of power sums. -/
def hnk (S : Nat → Nat) : Nat → Nat → Nat := fun i k => S (i + k + 1)
/-- The first v + 1 unknowns as a row. -/
def yl (v : Nat) (y : Nat → Nat) : List Nat := (List.range (v + 1)).map y
theorem nth_yl (v : Nat) (y : Nat → Nat) (k : Nat) : nth (yl v y) k = if k < v + 1 then y k else 0 := by
  by_cases hk : k < v + 1
  · rw [if_pos hk, nth_of (by simp [yl]; exact hk)]; simp [yl]
  · rw [if_neg hk, nth_over _ (by simp [yl]; omega)]
theorem els_yl {m v : Nat} {y : Nat → Nat} (hy : ∀ c, y c ≤ sz m) : Els m (yl v y) := fun k => by
  rw [nth_yl]
  split
  · exact hy k
  · exact Nat.zero_le _
theorem dt_snoc (m : Nat) (S : Nat → Nat) (a : Nat) : ∀ (l : List Nat) (e : Nat), dt m S (l ++ [a]) e = dt m S l e ^^^ mul m a (S (e + l.length))
  | [], e => by rw [List.nil_append, dt, dt, dt, Nat.xor_zero, Nat.zero_xor]; rfl
  | b :: l, e => by rw [List.cons_append, dt, dt_snoc m S a l (e + 1), dt, List.length_cons, show e + 1 + l.length = e + (l.length + 1) by omega, Nat.xor_assoc]
theorem dt_range (m : Nat) (S y : Nat → Nat) (e : Nat) : ∀ n, dt m S ((List.range n).map y) e = sm (List.range n) fun k => mul m (y k) (S (e + k))
  | 0 => rfl
  | n + 1 => by rw [List.range_succ, List.map_append, List.map_cons, List.map_nil, dt_snoc, dt_range m S y e n, sm_append, sm_cons, sm_nil, Nat.xor_zero]; simp
theorem rv_hnk {m : Nat} (h : Em m) {X : List Nat} (hX : ∀ x ∈ X, x ≤ sz m) {S : Nat → Nat} {v i : Nat} (hS : ∀ e, i + 1 ≤ e → e ≤ i + v + 1 → S e = ps m X (fun _ => 1) e) {y : Nat → Nat} (hy : ∀ c, y c ≤ sz m) : rv m v (hnk S i) y = ps m X (fun x => ev m x (yl v y)) (i + 1) := by
  have hz := sz_bd h
  have h1 := dt_ps h hX (c := fun _ => 1) (fun _ => by omega) (yl v y) (i + 1) (els_yl hy)
  have h2 : rv m v (hnk S i) y = dt m (ps m X fun _ => 1) (yl v y) (i + 1) := by
    rw [yl, dt_range]
    unfold rv hnk
    refine sm_congr fun k hk => ?_
    rw [List.mem_range] at hk
    rw [mul_comm, hS (i + k + 1) (by omega) (by omega), show i + k + 1 = i + 1 + k by omega]
  rw [h2, h1, ps]
  refine sm_congr fun x _ => ?_
  rw [one_mul h (px_le h _ _), mul_comm]
/-- Fewer are turned than unknowns are asked for: there is no one answer. -/
theorem pet_more {m v : Nat} (h : Em m) {X : List Nat} (hX : ∀ x ∈ X, x ≤ sz m) (hv : X.length < v) {S : Nat → Nat} (hS : ∀ e, 1 ≤ e → e ≤ 2 * v → S e = ps m X (fun _ => 1) e) :
    ∃ y : Nat → Nat, (∀ c, y c ≤ sz m) ∧ y v = 0 ∧ (∃ c, c < v ∧ y c ≠ 0) ∧ Sol m v (hnk S) y := by
  obtain ⟨f1, f2, f3⟩ := lp_facts h X hX
  refine ⟨nth (lp m X), f1, nth_over _ (by omega), ⟨X.length, hv, ?_⟩, fun i hi => ?_⟩
  · have := f2 (by intro e; rw [e] at f3; simp at f3)
    rwa [f3] at this
  · rw [rv_hnk h hX (fun e e1 e2 => hS e (by omega) (by omega)) f1]
    refine sm_zero fun x hx => ?_
    have : ev m x (yl v (nth (lp m X))) = ev m x (lp m X) := ev_of_nth x (els_yl f1) f1 fun k => by
      rw [nth_yl]
      by_cases hk : k < v + 1
      · rw [if_pos hk]
      · rw [if_neg hk, nth_over _ (by omega)]
    show mul m (ev m x (yl v (nth (lp m X)))) _ = 0
    rw [this, lp_in h (hX x hx) X hX hx, zero_mul]
/-- As many are turned: what answers the equations is 0 at each. -/
theorem pet_root {m v : Nat} (h : Em m) {X : List Nat} (hn : X.Nodup) (hX : ∀ x ∈ X, 1 ≤ x ∧ x ≤ sz m) (hv : X.length = v) {S : Nat → Nat} (hS : ∀ e, 1 ≤ e → e ≤ 2 * v → S e = ps m X (fun _ => 1) e) {y : Nat → Nat} (hy : ∀ c, y c ≤ sz m) (hs : Sol m v (hnk S) y) : ∀ x ∈ X, ev m x (yl v y) = 0 := by
  refine vander h hn hX (fun x => ev_le h x _) fun e e1 e2 => ?_
  have := hs (e - 1) (by omega)
  rw [rv_hnk h (fun x hx => (hX x hx).2) (fun e e1 e2 => hS e (by omega) (by omega)) hy, show e - 1 + 1 = e by omega] at this
  exact this
theorem pet_one {m v : Nat} (h : Em m) {X : List Nat} (hn : X.Nodup) (hX : ∀ x ∈ X, 1 ≤ x ∧ x ≤ sz m) (hv : X.length = v) {S : Nat → Nat} (hS : ∀ e, 1 ≤ e → e ≤ 2 * v → S e = ps m X (fun _ => 1) e) {y : Nat → Nat} (hy : ∀ c, y c ≤ sz m) (hs : Sol m v (hnk S) y) (h0 : y v = 0) : ∀ c, c < v → y c = 0 := by
  intro c hc
  have hr := pet_root h hn hX hv hS hy hs
  have hE : Els m ((List.range v).map y) := mem_le fun a ha => by
    simp at ha
    obtain ⟨k, _, rfl⟩ := ha
    exact hy k
  have hk : ∀ k, nth ((List.range v).map y) k = nth (yl v y) k := fun k => by
    rw [nth_yl]
    by_cases h1 : k < v
    · rw [if_pos (by omega), nth_of (by simpa using h1)]; simp
    · rw [nth_over _ (by simp; omega)]
      by_cases h2 : k < v + 1
      · rw [if_pos h2, show k = v by omega, h0]
      · rw [if_neg h2]
  have := rootless h X ((List.range v).map y) hn (fun x hx => (hX x hx).2) hE (by simp; omega) (fun x hx => by rw [ev_of_nth x hE (els_yl hy) hk]; exact hr x hx) c
  rw [nth_of (by simpa using hc)] at this
  simpa using this
theorem pet_roots {m v : Nat} (h : Em m) {X : List Nat} (hn : X.Nodup) (hX : ∀ x ∈ X, 1 ≤ x ∧ x ≤ sz m) (hv : X.length = v) {S : Nat → Nat} (hS : ∀ e, 1 ≤ e → e ≤ 2 * v → S e = ps m X (fun _ => 1) e) {y : Nat → Nat} (hy : ∀ c, y c ≤ sz m) (hs : Sol m v (hnk S) y) (h1 : y v = 1) {z : Nat} (hz : z ≤ sz m) : ev m z (yl v y) = 0 ↔ z ∈ X := by
  have hr := pet_root h hn hX hv hS hy hs
  constructor
  · intro e
    apply Classical.byContradiction
    intro hnm
    have := rootless h (z :: X) (yl v y) (List.nodup_cons.2 ⟨hnm, hn⟩) (fun x hx => by
      rcases List.mem_cons.1 hx with rfl | hx
      · exact hz
      · exact (hX x hx).2) (els_yl hy) (by simp [yl]; omega) (fun x hx => by
      rcases List.mem_cons.1 hx with rfl | hx
      · exact e
      · exact hr x hx) v
    rw [nth_yl, if_pos (by omega), h1] at this
    omega
  · exact hr z
theorem els_rev {m : Nat} {l : List Nat} (h : Els m l) : Els m l.reverse := mem_le fun x hx => by
  rw [List.mem_reverse] at hx
  obtain ⟨i, hi, rfl⟩ := List.getElem_of_mem hx
  have := h i
  rwa [nth_of hi] at this
/-- A row turned round, at what makes 1 with z. -/
theorem ev_rev {m z zi : Nat} (h : Em m) (hz : z ≤ sz m) (hzi : zi ≤ sz m) (e : mul m z zi = 1) : ∀ (l : List Nat) (c : Nat), Els m (c :: l) → mul m (px m z l.length) (ev m zi (c :: l).reverse) = ev m z (c :: l)
  | [], c, hl => by
    have h1 := ev_le h zi [c]
    show mul m 1 (ev m zi [c]) = _
    rw [one_mul h h1, ev_cons _ hl.head, ev_cons _ hl.head, ev_nil, ev_nil, zero_mul, zero_mul]
  | d :: l, c, hl => by
    have ih := ev_rev h hz hzi e l d hl.tail
    have hp : ∀ k, mul m (px m z k) (px m zi k) = 1 := by
      intro k
      induction k with
      | zero => exact mul_one h (by have := sz_bd h; simp [px]; omega)
      | succ k ih' =>
        have p1 := px_le h z k
        have p2 := px_le h zi k
        rw [px, px, mul_assoc h p1 hz (mul_le h _ _), mul_swap h hz p2 hzi, e, mul_one h p2, ih']
    have hr := els_rev hl.tail
    rw [List.reverse_cons, ev_snoc h hzi _ _ hr hl.head, mul_xor h (px_le h _ _) (ev_le h _ _) (mul_le h _ _), ev_cons _ hl.head]
    congr 1
    · rw [List.length_cons, px, mul_comm m (px m z l.length) z, mul_assoc h hz (px_le h _ _) (ev_le h _ _), ih, mul_comm]
    · rw [List.length_reverse, mul_swap h (px_le h _ _) hl.head (px_le h _ _), hp, mul_one h hl.head]
end Gf
end Go.Proofs.YtiojdoehlooibaaDoor

/- The shortest recurrence of a row, step by step (Berlekamp, Massey), and that it tells where bits are turned. -/
namespace Go.Proofs.YtiojdoehlooibaaDoor
namespace Gf
theorem sm_swap (X Y : List Nat) (f : Nat → Nat → Nat) : sm X (fun i => sm Y (fun k => f i k)) = sm Y (fun k => sm X (fun i => f i k)) := by
  induction X with
  | nil => rw [sm_nil, sm_zero fun k _ => sm_nil _]
  | cons x X ih =>
    rw [sm_cons, ih, ← sm_xor]
    exact sm_congr fun k _ => rfl
theorem sm_rev (f : Nat → Nat) : ∀ n, sm (List.range (n + 1)) f = sm (List.range (n + 1)) fun k => f (n - k)
  | 0 => rfl
  | n + 1 => by
    have e1 : sm (List.range (n + 1 + 1)) f = f (n + 1) ^^^ sm (List.range (n + 1)) f := by
      rw [List.range_succ, sm_append, sm_cons, sm_nil, Nat.xor_zero, Nat.xor_comm]
    have e2 : sm (List.range (n + 1 + 1)) (fun k => f (n + 1 - k)) = f (n + 1) ^^^ sm (List.range (n + 1)) fun k => f (n - k) := by
      rw [List.range_succ_eq_map, sm_cons, sm_map]
      congr 1
      refine sm_congr fun k _ => ?_
      show f (n + 1 - (k + 1)) = f (n - k)
      rw [Nat.add_sub_add_right]
    rw [e1, e2, sm_rev f n]
/-- A coefficient of the product of two rows without end. -/
def cf (m : Nat) (C s : Nat → Nat) (j : Nat) : Nat := sm (List.range (j + 1)) fun i => mul m (C i) (s (j - i))
theorem cf_le {m : Nat} (h : Em m) (C s : Nat → Nat) (j : Nat) : cf m C s j ≤ sz m := sm_le fun _ _ => mul_le h _ _
theorem cf_cut {m : Nat} {C s : Nat → Nat} {L j : Nat} (hC : ∀ i, L < i → C i = 0) (hj : L ≤ j) : cf m C s j = sm (List.range (L + 1)) fun i => mul m (C i) (s (j - i)) :=
  range_split (by omega) _ fun c h1 _ => by rw [hC c h1, zero_mul]
/-- B times x^g, q times, put on C. -/
def upd (m : Nat) (C B : Nat → Nat) (q g : Nat) : Nat → Nat := fun i => C i ^^^ (if g ≤ i then mul m q (B (i - g)) else 0)
theorem cf_upd {m : Nat} (h : Em m) {C B s : Nat → Nat} (hC : ∀ i, C i ≤ sz m) (hB : ∀ i, B i ≤ sz m) (hs : ∀ i, s i ≤ sz m) {q : Nat} (hq : q ≤ sz m) (g j : Nat) :
    cf m (upd m C B q g) s j = cf m C s j ^^^ (if g ≤ j then mul m q (cf m B s (j - g)) else 0) := by
  have e1 : cf m (upd m C B q g) s j = cf m C s j ^^^ sm (List.range (j + 1)) fun i => mul m (if g ≤ i then mul m q (B (i - g)) else 0) (s (j - i)) := by
    unfold cf
    rw [← sm_xor]
    refine sm_congr fun i _ => ?_
    show mul m (C i ^^^ (if g ≤ i then mul m q (B (i - g)) else 0)) (s (j - i)) = _
    exact xor_mul h (hs _) (hC i) (by split; exact mul_le h _ _; exact Nat.zero_le _)
  rw [e1]
  congr 1
  by_cases hg : g ≤ j
  · rw [if_pos hg]
    have e2 : List.range (j + 1) = List.range g ++ (List.range (j - g + 1)).map (g + ·) := by
      rw [← List.range_add]; congr 1; omega
    rw [e2, sm_append, sm_zero fun i hi => by rw [List.mem_range] at hi; rw [if_neg (by omega), zero_mul], Nat.zero_xor, sm_map]
    unfold cf
    rw [← sm_mul h hq fun _ _ => mul_le h _ _]
    refine sm_congr fun i _ => ?_
    rw [if_pos (by omega), Nat.add_sub_cancel_left, mul_assoc h hq (hB i) (hs _), show j - (g + i) = j - g - i by omega]
  · rw [if_neg hg]
    refine sm_zero fun i hi => ?_
    rw [List.mem_range] at hi
    rw [if_neg (by omega), zero_mul]
/-- A recurrence of length L for the first n. -/
structure Rec (m : Nat) (s C : Nat → Nat) (L n : Nat) : Prop where
  els : ∀ i, C i ≤ sz m
  one : C 0 = 1
  top : ∀ i, L < i → C i = 0
  zero : ∀ j, L ≤ j → j < n → cf m C s j = 0
theorem Rec.less {m : Nat} {s C : Nat → Nat} {L n : Nat} (h : Rec m s C L (n + 1)) : Rec m s C L n := ⟨h.els, h.one, h.top, fun j h1 h2 => h.zero j h1 (by omega)⟩
/-- What fails at n, and another one that doesn't, are together longer than n. -/
theorem massey {m : Nat} (h : Em m) {s C D : Nat → Nat} (hs : ∀ i, s i ≤ sz m) {L K n : Nat} (hC : Rec m s C L n) (hD : Rec m s D K (n + 1)) (hn : cf m C s n ≠ 0) : n + 1 ≤ L + K := by
  apply Classical.byContradiction
  intro hlt
  have e1 : sm (List.range (L + 1)) (fun i => sm (List.range (K + 1)) fun k => mul m (mul m (C i) (D k)) (s (n - i - k))) = 0 := by
    refine sm_zero fun i hi => ?_
    rw [List.mem_range] at hi
    have := hD.zero (n - i) (by omega) (by omega)
    rw [cf_cut hD.top (by omega)] at this
    rw [sm_congr fun k _ => mul_assoc h (hC.els i) (hD.els k) (hs _), sm_mul h (hC.els i) fun _ _ => mul_le h _ _, this, mul_zero]
  rw [sm_swap] at e1
  have e2 : ∀ k, k < K + 1 → sm (List.range (L + 1)) (fun i => mul m (mul m (C i) (D k)) (s (n - i - k))) = mul m (D k) (cf m C s (n - k)) := fun k hk => by
    rw [cf_cut hC.top (by omega), ← sm_mul h (hD.els k) fun _ _ => mul_le h _ _]
    refine sm_congr fun i _ => ?_
    rw [mul_comm m (C i), mul_assoc h (hD.els k) (hC.els i) (hs _), show n - i - k = n - k - i by omega]
  rw [sm_congr (g := fun k => mul m (D k) (cf m C s (n - k))) fun k hk => e2 k (List.mem_range.1 hk)] at e1
  rw [sm_single (x0 := 0) List.nodup_range (List.mem_range.2 (by omega)) fun k hk hne => by
    rw [List.mem_range] at hk
    rw [hC.zero (n - k) (by omega) (by omega), mul_zero]] at e1
  rw [hD.one, Nat.sub_zero, one_mul h (cf_le h _ _ _)] at e1
  exact hn e1
/-- What holds behind n steps: C of length L, and B, which failed last, g steps ago, by b. -/
structure Bm (m : Nat) (s C : Nat → Nat) (L : Nat) (B : Nat → Nat) (g b n : Nat) : Prop where
  rec_ : Rec m s C L n
  els : ∀ i, B i ≤ sz m
  bd : b ≤ sz m
  ne : b ≠ 0
  gap : 1 ≤ g
  gle : g + L ≤ n + 1
  top : ∀ i, n + 1 - g - L < i → B i = 0
  at_ : g ≤ n → cf m B s (n - g) = b
  zero : ∀ j, n + 1 - g - L ≤ j → j + g < n → cf m B s j = 0
  least : ∀ D K, Rec m s D K n → L ≤ K
theorem Bm.start {m : Nat} (h : Em m) (s : Nat → Nat) : Bm m s (fun i => if i = 0 then 1 else 0) 0 (fun i => if i = 0 then 1 else 0) 1 1 0 := by
  have hz := sz_bd h
  have e : ∀ i, (if i = 0 then 1 else 0) ≤ sz m := fun i => by split <;> omega
  exact ⟨⟨e, rfl, fun i hi => by show (if i = 0 then 1 else 0) = 0; rw [if_neg (by omega)], fun j _ h2 => by omega⟩, e, by omega, by omega, Nat.le_refl _, by omega, fun i hi => by show (if i = 0 then 1 else 0) = 0; rw [if_neg (by omega)], fun h => by omega, fun j h1 h2 => by omega, fun _ _ _ => Nat.zero_le _⟩
theorem Bm.same {m : Nat} {s C B : Nat → Nat} {L g b n : Nat} (h : Bm m s C L B g b n) (h0 : cf m C s n = 0) : Bm m s C L B (g + 1) b (n + 1) := by
  refine ⟨⟨h.rec_.els, h.rec_.one, h.rec_.top, fun j h1 h2 => ?_⟩, h.els, h.bd, h.ne, by omega, by have := h.gle; omega, fun i hi => h.top i (by omega), fun hg => ?_, fun j h1 h2 => h.zero j (by omega) (by omega), fun D K hD => h.least D K hD.less⟩
  · by_cases e : j = n
    · subst e; exact h0
    · exact h.rec_.zero j h1 (by omega)
  · rw [show n + 1 - (g + 1) = n - g by omega]; exact h.at_ (by omega)
theorem Bm.rec_upd {m : Nat} (hm : Em m) {s C B : Nat → Nat} (hs : ∀ i, s i ≤ sz m) {L g b n L2 : Nat} (h : Bm m s C L B g b n) (h1 : L ≤ L2) (h2 : n + 1 ≤ L + L2) (h3 : g ≤ n ∨ n < L2) :
    Rec m s (upd m C B (mul m (cf m C s n) (invS m b)) g) L2 (n + 1) := by
  have hq := mul_le hm (cf m C s n) (invS m b)
  have hg := h.gle
  have hg1 := h.gap
  refine ⟨fun i => ?_, ?_, fun i hi => ?_, fun j a1 a2 => ?_⟩
  · unfold upd
    refine xor_le (h.rec_.els i) ?_
    split
    · exact mul_le hm _ _
    · exact Nat.zero_le _
  · unfold upd
    rw [if_neg (by omega), Nat.xor_zero, h.rec_.one]
  · unfold upd
    rw [h.rec_.top i (by omega), Nat.zero_xor]
    split
    · rw [h.top (i - g) (by omega), mul_zero]
    · rfl
  · rw [cf_upd hm h.rec_.els h.els hs hq]
    by_cases e : j = n
    · subst e
      rcases h3 with h3 | h3
      · rw [if_pos h3, h.at_ h3, mul_assoc hm (cf_le hm _ _ _) (inv_le hm _) h.bd, mul_comm m (invS m b), inv_mul hm h.ne h.bd, mul_one hm (cf_le hm _ _ _), Nat.xor_self]
      · omega
    · rw [h.rec_.zero j (by omega) (by omega), Nat.zero_xor]
      split
      · rw [h.zero (j - g) (by omega) (by omega), mul_zero]
      · rfl
/-- A step at which the recurrence fails and stays as long. -/
theorem Bm.turn {m : Nat} (hm : Em m) {s C B : Nat → Nat} (hs : ∀ i, s i ≤ sz m) {L g b n : Nat} (h : Bm m s C L B g b n) (hL : n < 2 * L) :
    Bm m s (upd m C B (mul m (cf m C s n) (invS m b)) g) L B (g + 1) b (n + 1) := by
  have hg := h.gle
  exact ⟨h.rec_upd hm hs (Nat.le_refl _) (by omega) (.inl (by omega)), h.els, h.bd, h.ne, by omega, by omega, fun i hi => h.top i (by omega), fun hg => by rw [show n + 1 - (g + 1) = n - g by omega]; exact h.at_ (by omega), fun j h1 h2 => h.zero j (by omega) (by omega), fun D K hD => h.least D K hD.less⟩
/-- A step at which it fails and grows longer. -/
theorem Bm.grow {m : Nat} (hm : Em m) {s C B : Nat → Nat} (hs : ∀ i, s i ≤ sz m) {L g b n : Nat} (h : Bm m s C L B g b n) (h0 : cf m C s n ≠ 0) (hL : 2 * L ≤ n) :
    Bm m s (upd m C B (mul m (cf m C s n) (invS m b)) g) (n + 1 - L) C 1 (cf m C s n) (n + 1) := by
  have hg := h.gle
  refine ⟨h.rec_upd hm hs (by omega) (by omega) ?_, h.rec_.els, cf_le hm _ _ _, h0, Nat.le_refl _, by omega, fun i hi => h.rec_.top i (by omega), fun _ => rfl, fun j h1 h2 => h.rec_.zero j (by omega) (by omega), fun D K hD => ?_⟩
  · by_cases hgn : g ≤ n
    · exact .inl hgn
    · exact .inr (by omega)
  · have := massey hm hs h.rec_ hD h0
    omega
/-- A recurrence, its last coefficient first. -/
def rl (L : Nat) (C : Nat → Nat) : List Nat := (List.range (L + 1)).map fun k => C (L - k)
theorem nth_rl {L : Nat} {C : Nat → Nat} {k : Nat} (hk : k ≤ L) : nth (rl L C) k = C (L - k) := by
  rw [nth_of (by simp [rl]; omega)]; simp [rl]
theorem els_rl {m L : Nat} {C : Nat → Nat} (hC : ∀ i, C i ≤ sz m) : Els m (rl L C) := mem_le fun a ha => by
  simp [rl] at ha
  obtain ⟨k, _, rfl⟩ := ha
  exact hC _
theorem cf_dt {m : Nat} {S C : Nat → Nat} {L j : Nat} (hC : ∀ i, L < i → C i = 0) (hj : L ≤ j) : cf m C (fun i => S (i + 1)) j = dt m S (rl L C) (j - L + 1) := by
  rw [cf_cut hC hj, sm_rev, rl, dt_range]
  refine sm_congr fun k hk => ?_
  rw [List.mem_range] at hk
  show mul m (C (L - k)) (S (j - (L - k) + 1)) = _
  rw [show j - (L - k) + 1 = j - L + 1 + k by omega]
theorem dt_congr {m : Nat} {S T : Nat → Nat} : ∀ (l : List Nat) (e : Nat), (∀ k, k < l.length → S (e + k) = T (e + k)) → dt m S l e = dt m T l e
  | [], _, _ => rfl
  | a :: l, e, h => by
    have ih := dt_congr (m := m) (S := S) (T := T) l (e + 1) fun k hk => by
      rw [show e + 1 + k = e + (k + 1) by omega]
      exact h (k + 1) (by simpa using hk)
    rw [dt, dt, show S e = T e from h 0 (by simp), ih]
theorem cf_ps {m : Nat} (h : Em m) {X : List Nat} (hX : ∀ x ∈ X, x ≤ sz m) {S C : Nat → Nat} {L j : Nat} (hE : ∀ i, C i ≤ sz m) (hC : ∀ i, L < i → C i = 0) (hj : L ≤ j) (hS : ∀ e, 1 ≤ e → e ≤ j + 1 → S e = ps m X (fun _ => 1) e) :
    cf m C (fun i => S (i + 1)) j = ps m X (fun x => ev m x (rl L C)) (j - L + 1) := by
  have hz := sz_bd h
  rw [cf_dt hC hj, dt_congr (T := ps m X fun _ => 1) _ _ fun k hk => hS _ (by omega) (by simp [rl] at hk; omega), dt_ps h hX (c := fun _ => 1) (fun _ => by omega) _ _ (els_rl hE), ps]
  refine sm_congr fun x _ => ?_
  rw [one_mul h (px_le h _ _), mul_comm]
theorem lp_monic {m : Nat} (h : Em m) : ∀ (X : List Nat), (∀ x ∈ X, x ≤ sz m) → nth (lp m X) X.length = 1
  | [], _ => rfl
  | x :: X, hX => by
    have hX' : ∀ z ∈ X, z ≤ sz m := fun z hz => hX z (by simp [hz])
    obtain ⟨f1, _, f3⟩ := lp_facts h X hX'
    rw [lp, nth_tm, cv_lin h _ _ f1, List.length_cons]
    show mul m x (nth (lp m X) (X.length + 1)) ^^^ nth (lp m X) X.length = 1
    rw [nth_over _ (by omega), mul_zero, Nat.zero_xor, lp_monic h X hX']
/-- The places themselves give a recurrence of their number. -/
theorem rec_lp {m : Nat} (h : Em m) {X : List Nat} (hX : ∀ x ∈ X, x ≤ sz m) {S : Nat → Nat} {n : Nat} (hS : ∀ e, 1 ≤ e → e ≤ n → S e = ps m X (fun _ => 1) e) :
    Rec m (fun i => S (i + 1)) (fun i => if i ≤ X.length then nth (lp m X) (X.length - i) else 0) X.length n := by
  obtain ⟨f1, _, f3⟩ := lp_facts h X hX
  have hE : ∀ i, (if i ≤ X.length then nth (lp m X) (X.length - i) else 0) ≤ sz m := fun i => by
    split
    · exact f1 _
    · exact Nat.zero_le _
  have hT : ∀ i, X.length < i → (if i ≤ X.length then nth (lp m X) (X.length - i) else 0) = 0 := fun i hi => if_neg (by omega)
  refine ⟨hE, ?_, hT, fun j h1 h2 => ?_⟩
  · show (if 0 ≤ X.length then nth (lp m X) (X.length - 0) else 0) = 1
    rw [if_pos (by omega), Nat.sub_zero, lp_monic h X hX]
  · rw [cf_ps h hX hE hT h1 fun e e1 e2 => hS e e1 (by omega)]
    refine sm_zero fun x hx => ?_
    have e : ev m x (rl X.length fun i => if i ≤ X.length then nth (lp m X) (X.length - i) else 0) = ev m x (lp m X) := ev_of_nth x (els_rl hE) f1 fun k => by
      by_cases hk : k ≤ X.length
      · rw [nth_rl hk, if_pos (by omega), show X.length - (X.length - k) = k by omega]
      · rw [nth_over _ (by simp [rl]; omega), nth_over _ (by omega)]
    show mul m (ev m x (rl X.length fun i => if i ≤ X.length then nth (lp m X) (X.length - i) else 0)) _ = 0
    rw [e, lp_in h (hX x hx) X hX hx, zero_mul]
/-- The shortest recurrence of the first 2t, where at most t are turned, is as long as they are many, and 0 at them alone. -/
theorem massey_roots {m t : Nat} (h : Em m) {X : List Nat} (hn : X.Nodup) (hX : ∀ x ∈ X, 1 ≤ x ∧ x ≤ sz m) (hv : X.length ≤ t) {S : Nat → Nat} (hS : ∀ e, 1 ≤ e → e ≤ 2 * t → S e = ps m X (fun _ => 1) e) {C : Nat → Nat} {L : Nat} (hC : Rec m (fun i => S (i + 1)) C L (2 * t)) (hL : ∀ D K, Rec m (fun i => S (i + 1)) D K (2 * t) → L ≤ K) :
    L = X.length ∧ ∀ z, z ≤ sz m → (ev m z (rl L C) = 0 ↔ z ∈ X) := by
  have hX' : ∀ x ∈ X, x ≤ sz m := fun x hx => (hX x hx).2
  have hle := hL _ _ (rec_lp h hX' hS)
  have hr : ∀ x ∈ X, ev m x (rl L C) = 0 := vander h hn hX (fun x => ev_le h x _) fun e e1 e2 => by
    have := hC.zero (L + e - 1) (by omega) (by omega)
    rw [cf_ps h hX' hC.els hC.top (by omega) fun e e1 e2 => hS e e1 (by omega), show L + e - 1 - L + 1 = e by omega] at this
    exact this
  have hlen : (rl L C).length = L + 1 := by simp [rl]
  have htop : nth (rl L C) L = 1 := by rw [nth_rl (Nat.le_refl _), Nat.sub_self, hC.one]
  have hLe : L = X.length := by
    apply Classical.byContradiction
    intro hne
    have := rootless h X (rl L C) hn hX' (els_rl hC.els) (by omega) hr L
    omega
  refine ⟨hLe, fun z hz => ⟨fun e => ?_, hr z⟩⟩
  apply Classical.byContradiction
  intro hnm
  have := rootless h (z :: X) (rl L C) (List.nodup_cons.2 ⟨hnm, hn⟩) (fun x hx => by
    rcases List.mem_cons.1 hx with rfl | hx
    · exact hz
    · exact hX' x hx) (els_rl hC.els) (by simp; omega) (fun x hx => by
    rcases List.mem_cons.1 hx with rfl | hx
    · exact e
    · exact hr x hx) L
  omega
end Gf
end Go.Proofs.YtiojdoehlooibaaDoor

/- Words of a code: what the generator goes into, by its zeros; sums of words; how far apart they lie; that at most one is near. -/
namespace Go.Proofs.YtiojdoehlooibaaDoor
namespace Gf
/-- What is 0 at the first 2t powers, over 0 and 1. -/
def IsW (m t : Nat) (w : List Nat) : Prop := Bits w ∧ ∀ e, 1 ≤ e → e ≤ 2 * t → ev m (pw m e) w = 0
theorem pw_wrap {m : Nat} (h : Em m) (e : Nat) : pw m (wrapS m (e : Int)) = pw m e := xp_nat h e
theorem bits_trim {l : List Nat} (h : Bits l) : Bits (trimN l) := fun k => by rw [nth_trim]; exact h k
theorem ev_dbl {m : Nat} (h : Em m) {l : List Nat} (hB : Bits l) {E : Nat} (h0 : ev m (pw m E) l = 0) : ∀ k, ev m (pw m (E * 2 ^ k)) l = 0
  | 0 => by rw [Nat.pow_zero, Nat.mul_one]; exact h0
  | k + 1 => by rw [two_pow_dbl, ← mul_pw h, ev_sq h (pw_bd h _).2 l hB, ev_dbl h hB h0 k, zero_mul]
/-- A word is what the generator goes into. -/
theorem isW_iff {m t : Nat} (h : Em m) {w : List Nat} (hw : Bits w) : IsW m t w ↔ Comb m (genS m t) [] w := by
  have hwE := hw.els h
  constructor
  · intro hi
    have hT := bits_trim hw
    have hg := genGo_inv h (hT.els h) (trimmed_trim w) (2 * t) fun j h1 h2 k => by
      refine ev_dbl h hT ?_ k
      rw [pw_wrap h, ev_trim _ hwE]
      exact hi.2 j h1 h2
    obtain ⟨A, hA, hk⟩ := hg.comb
    exact ⟨A, hA, fun k => by rw [← nth_trim, hk]; rfl⟩
  · rintro ⟨A, hA, hk⟩
    refine ⟨hw, fun e h1 h2 => ?_⟩
    have hg := genGo_inv h (xn_els h) xn_trimmed (2 * t) fun _ _ _ _ => xn_roots h _
    have hG : Els m (genS m t) := hg.bits.els h
    rw [ev_of_nth _ hwE (tm_els h A (genS m t)) fun k => by rw [hk, nth_nil, Nat.xor_zero, nth_tm], ev_tm h (pw_bd h _).2 hA hG]
    have := hg.roots e h1 h2
    rw [pw_wrap h] at this
    rw [show ev m (pw m e) (genS m t) = 0 from this, mul_zero]
theorem nth_restStep {m : Nat} {Q P : List Nat} (hle : Q.length ≤ P.length) (k : Nat) : nth (restStep m Q P) k = nth P k ^^^ tk m (mul m (nth P (P.length - 1)) (invS m (nth Q (Q.length - 1)))) Q (P.length - Q.length) k := by
  unfold restStep
  rw [nth_inner _ _ _ _ _ _ _ (by omega)]
  congr 1
  unfold tk
  by_cases a1 : P.length - Q.length ≤ k
  · by_cases a2 : k < P.length - Q.length + Q.length
    · rw [if_pos ⟨a1, a2⟩, if_pos a1]
    · rw [if_neg (by omega), if_pos a1, nth_over Q (k := k - (P.length - Q.length)) (by omega), mul_zero]
  · rw [if_neg (by omega), if_neg a1]
theorem restGo_is {m : Nat} (h : Em m) {Q : List Nat} (hQ : Els m Q) : ∀ (f : Nat) (P : List Nat), ∃ A, Els m A ∧ ∀ k, nth P k = cv m A Q k ^^^ nth (restGo m Q f P) k
  | 0, P => ⟨[], fun k => by rw [nth_nil]; exact Nat.zero_le _, fun k => by rw [restGo, show cv m [] Q k = 0 by cases k <;> rfl, Nat.zero_xor]⟩
  | f + 1, P => by
    rw [restGo]
    split
    · exact ⟨[], fun k => by rw [nth_nil]; exact Nat.zero_le _, fun k => by rw [show cv m [] Q k = 0 by cases k <;> rfl, Nat.zero_xor]⟩
    · rename_i hge
      obtain ⟨A, hA, hk⟩ := restGo_is h hQ f (trimN (restStep m Q P))
      have hf := mul_le h (nth P (P.length - 1)) (invS m (nth Q (Q.length - 1)))
      refine ⟨addAt A (P.length - Q.length) (mul m (nth P (P.length - 1)) (invS m (nth Q (Q.length - 1)))), els_addAt hf _ _ hA, fun k => ?_⟩
      have e := hk k
      rw [nth_trim, nth_restStep (by omega)] at e
      rw [cv_addAt h hQ hf _ _ _ hA, xor3, ← e, Nat.xor_assoc, Nat.xor_self, Nat.xor_zero]
theorem rest_is {m : Nat} (h : Em m) {Q P : List Nat} (hQ : Els m Q) (hq : Q ≠ []) : Comb m Q (restS m P Q) P := by
  unfold restS
  rw [if_neg hq]
  exact restGo_is h hQ _ _
/-- A word by its rest. -/
theorem isW_rest {m t : Nat} (h : Em m) {w : List Nat} (hw : Bits w) : IsW m t w ↔ restS m (trimN w) (genS m t) = [] := by
  have hg := genGo_inv h (xn_els h) xn_trimmed (2 * t) fun _ _ _ _ => xn_roots h _
  have hG : Els m (genS m t) := hg.bits.els h
  have hne : genS m t ≠ [] := hg.ne
  have hT := (bits_trim hw).els h
  rw [isW_iff h hw]
  constructor
  · intro hc
    exact rest_comb h hG hg.trm hne (List.length_pos_iff.2 hne) (fun e => absurd rfl e) hT (trimmed_trim _) hc.trim
  · intro hr
    obtain ⟨A, hA, hk⟩ : Comb m (genS m t) (restS m (trimN w) (genS m t)) (trimN w) := rest_is h hG hne
    refine ⟨A, hA, fun k => ?_⟩
    rw [← nth_trim, hk, hr]
/-- Two rows, number by number. -/
def xl (a b : List Nat) : List Nat := List.zipWith (· ^^^ ·) a b
theorem xl_len {a b : List Nat} (h : a.length = b.length) : (xl a b).length = a.length := by simp [xl, h]
theorem nth_xl {a b : List Nat} (h : a.length = b.length) (k : Nat) : nth (xl a b) k = nth a k ^^^ nth b k := by
  by_cases hk : k < a.length
  · rw [nth_of (by rw [xl_len h]; exact hk), nth_of hk, nth_of (by omega)]; simp [xl]
  · rw [nth_over _ (by rw [xl_len h]; omega), nth_over _ (by omega), nth_over _ (by omega)]; rfl
theorem bits_xl {a b : List Nat} (h : a.length = b.length) (ha : Bits a) (hb : Bits b) : Bits (xl a b) := fun k => by rw [nth_xl h]; exact bit_xor (ha k) (hb k)
theorem ev_xl {m x : Nat} (h : Em m) (hx : x ≤ sz m) : ∀ (a b : List Nat), a.length = b.length → Els m a → Els m b → ev m x (xl a b) = ev m x a ^^^ ev m x b
  | [], [], _, _, _ => by rw [show xl [] [] = [] from rfl, ev_nil]; rfl
  | c :: a, d :: b, hl, ha, hb => by
    have ih := ev_xl h hx a b (by simpa using hl) ha.tail hb.tail
    show ev m x ((c ^^^ d) :: xl a b) = _
    rw [ev_cons x (xor_le ha.head hb.head), ih, xor_mul h hx (ev_le h x a) (ev_le h x b), ev_cons x ha.head, ev_cons x hb.head, xor4]
  | [], _ :: _, hl, _, _ => by simp at hl
  | _ :: _, [], hl, _, _ => by simp at hl
/-- The sum of two words is a word. -/
theorem isW_xl {m t : Nat} (h : Em m) {a b : List Nat} (hl : a.length = b.length) (ha : IsW m t a) (hb : IsW m t b) : IsW m t (xl a b) :=
  ⟨bits_xl hl ha.1 hb.1, fun e h1 h2 => by rw [ev_xl h (pw_bd h _).2 a b hl (ha.1.els h) (hb.1.els h), ha.2 e h1 h2, hb.2 e h1 h2]; rfl⟩
/-- How many 1 there are. -/
def wt (l : List Nat) : Nat := (supp l).length
theorem wt_snoc (l : List Nat) (c : Nat) : wt (l ++ [c]) = wt l + if c = 1 then 1 else 0 := by
  unfold wt
  rw [supp_snoc, List.length_append]
  split <;> rfl
theorem wt_eq : ∀ l : List Nat, wt l = l.countP (· == 1) := by
  intro l
  have key : ∀ n, n ≤ l.length → wt (l.take n) = (l.take n).countP (· == 1) := by
    intro n
    induction n with
    | zero => intro _; rfl
    | succ n ih =>
      intro hn
      rw [take_snoc' hn, wt_snoc, ih (by omega), List.countP_append]
      simp [List.countP_cons]
  have := key l.length (Nat.le_refl _)
  rwa [List.take_length] at this
theorem wt_cons (c : Nat) (l : List Nat) : wt (c :: l) = wt l + if c = 1 then 1 else 0 := by
  rw [wt_eq, wt_eq, List.countP_cons]
  simp
theorem wt_xl_le : ∀ (a b : List Nat), a.length = b.length → Bits a → Bits b → wt (xl a b) ≤ wt a + wt b
  | [], [], _, _, _ => Nat.zero_le _
  | c :: a, d :: b, hl, ha, hb => by
    have ih := wt_xl_le a b (by simpa using hl) (fun k => ha (k + 1)) (fun k => hb (k + 1))
    have h1 : c ≤ 1 := ha 0
    have h2 : d ≤ 1 := hb 0
    show wt ((c ^^^ d) :: xl a b) ≤ _
    rw [wt_cons, wt_cons, wt_cons]
    have h3 : c = 0 ∨ c = 1 := by omega
    have h4 : d = 0 ∨ d = 1 := by omega
    rcases h3 with rfl | rfl <;> rcases h4 with rfl | rfl <;> simp <;> omega
  | [], _ :: _, hl, _, _ => by simp at hl
  | _ :: _, [], hl, _, _ => by simp at hl
theorem xl_self_eq {a b : List Nat} (hl : a.length = b.length) (h : ∀ k, nth a k ^^^ nth b k = 0) : a = b := by
  apply List.ext_getElem hl
  intro i h1 h2
  have := h i
  rw [nth_of h1, nth_of h2] at this
  exact Classical.byContradiction fun hne => xor_ne hne this
/-- Two words that are not the same differ in more than 2t places. -/
theorem apart {m t : Nat} (h : Em m) {a b : List Nat} (hl : a.length = b.length) (hz : a.length ≤ sz m) (ha : IsW m t a) (hb : IsW m t b) (hne : a ≠ b) : 2 * t < wt (xl a b) := by
  have hw := isW_xl h hl ha hb
  refine bch_bound h hw.1 (by rw [xl_len hl]; exact hz) hw.2 fun e => hne (xl_self_eq hl fun k => ?_)
  rw [← nth_xl hl]
  have h1 := hw.1 k
  by_cases hk : k < (xl a b).length
  · have : k ∉ supp (xl a b) := by rw [e]; simp
    rw [mem_supp] at this
    omega
  · exact nth_over _ (by omega)
theorem xl_swap {r a b : List Nat} (h1 : r.length = a.length) (h2 : r.length = b.length) : xl (xl r a) (xl r b) = xl a b := by
  have l1 : (xl r a).length = (xl r b).length := by rw [xl_len h1, xl_len h2]
  apply List.ext_getElem (by rw [xl_len l1, xl_len h1, xl_len (by omega), h1])
  intro i h3 h4
  have e1 := nth_xl l1 i
  rw [nth_xl h1, nth_xl h2, xor4, Nat.xor_self, Nat.zero_xor, ← nth_xl (by omega), nth_of h3, nth_of h4] at e1
  exact e1
/-- At most one word is near. -/
theorem near_one {m t : Nat} (h : Em m) {r a b : List Nat} (h1 : r.length = a.length) (h2 : r.length = b.length) (hz : r.length ≤ sz m) (hr : Bits r) (ha : IsW m t a) (hb : IsW m t b) (na : wt (xl r a) ≤ t) (nb : wt (xl r b) ≤ t) : a = b := by
  apply Classical.byContradiction
  intro hne
  have l1 : (xl r a).length = (xl r b).length := by rw [xl_len h1, xl_len h2]
  have hd := apart h (by omega) (by omega) ha hb hne
  have hs := wt_xl_le (xl r a) (xl r b) l1 (bits_xl h1 hr ha.1) (bits_xl h2 hr hb.1)
  rw [xl_swap h1 h2] at hs
  omega
/-- The zeros' sums of what was received are those of what was turned. -/
theorem syn_err {m t : Nat} (h : Em m) {r a : List Nat} (h1 : r.length = a.length) (hr : Bits r) (ha : IsW m t a) (e : Nat) (e1 : 1 ≤ e) (e2 : e ≤ 2 * t) : ev m (pw m e) r = ps m (locs m (xl r a)) (fun _ => 1) e := by
  rw [← ev_locs h e _ (bits_xl h1 hr ha.1), ev_xl h (pw_bd h _).2 r a h1 (hr.els h) (ha.1.els h), ha.2 e e1 e2, Nat.xor_zero]
end Gf
end Go.Proofs.YtiojdoehlooibaaDoor

/- How long a generator is: at least 2, at most m t + 1. -/
namespace Go.Proofs.YtiojdoehlooibaaDoor
namespace Gf
theorem minGo_len' {m : Nat} (h : Em m) (E : Nat) : ∀ (f k : Nat) (p : List Nat), k + f = m + 1 → k ≤ m → 1 ≤ k → p.length ≤ k + 1 → (minGo m (pw m E) f (pw m (E * 2 ^ k)) p).length ≤ m + 1
  | 0, k, p, h1, h2, _, _ => by omega
  | f + 1, k, p, h1, h2, h3, hp => by
    rw [minGo]
    split
    · omega
    · rename_i hne
      have hlt : k < m := by
        rcases Nat.lt_or_ge k m with h' | h'
        · exact h'
        · exact absurd (by rw [show k = m by omega]; exact pw_frob h E) hne
      have h4 := tmI_len m p [pw m (E * 2 ^ k), 1]
      simp at h4
      rw [mul_pw h, ← two_pow_dbl]
      exact minGo_len' h E f (k + 1) _ (by omega) (by omega) (by omega) (by omega)
theorem minS_len' {m : Nat} (h : Em m) (n : Int) : (minS m n).length ≤ m + 1 := by
  have := minGo_len' h (wrapS m n) m 1 [pw m (wrapS m n), 1] (by omega) (by have := h.1; omega) (Nat.le_refl _) (by simp)
  unfold minS
  rwa [mul_pw h, show wrapS m n + wrapS m n = wrapS m n * 2 ^ 1 by omega]
theorem genGo_is {m : Nat} (h : Em m) (n : Nat) : Gi m (xn m) (genGo m n) n := genGo_inv h (xn_els h) xn_trimmed n fun _ _ _ _ => xn_roots h _
theorem genGo_even {m : Nat} (h : Em m) {j : Nat} (hj : 1 ≤ j) : genGo m (2 * j) = genGo m (2 * j - 1) := by
  obtain ⟨n, hn⟩ : ∃ n, 2 * j = n + 1 := ⟨2 * j - 1, by omega⟩
  rw [hn, Nat.add_sub_cancel, genGo]
  have hg := genGo_is h n
  have h1 := hg.roots j hj (by omega)
  rw [pw_wrap h] at h1
  have h2 : ev m (pw m (2 * j)) (genGo m n) = 0 := by
    rw [show 2 * j = j + j by omega, ← mul_pw h, ev_sq h (pw_bd h _).2 _ hg.bits, h1, zero_mul]
  rw [hn] at h2
  rw [if_pos]
  show ev m (pw m (wrapS m ((n + 1 : Nat) : Int))) (genGo m n) = 0
  rw [pw_wrap h]
  exact h2
theorem genS_len {m : Nat} (h : Em m) : ∀ t, (genS m t).length ≤ m * t + 1
  | 0 => by simp [genS, genGo]
  | t + 1 => by
    have ih := genS_len h t
    unfold genS at ih ⊢
    rw [genGo_even h (by omega), show 2 * (t + 1) - 1 = 2 * t + 1 by omega, genGo]
    split
    · rw [Nat.mul_succ]; omega
    · have h1 := tmI_len m (genGo m (2 * t)) (minS m ((2 * t + 1 : Nat) : Int))
      have h3 := minS_len' h ((2 * t + 1 : Nat) : Int)
      rw [Nat.mul_succ]
      omega
theorem genS_two {m : Nat} (h : Em m) {t : Nat} (ht : 1 ≤ t) : 2 ≤ (genS m t).length := by
  have hg : Gi m (xn m) (genS m t) (2 * t) := genGo_is h _
  have hp : 0 < (genS m t).length := List.length_pos_iff.2 hg.ne
  apply Classical.byContradiction
  intro hlt
  have h1 := hg.roots 1 (by omega) (by omega)
  have h2 := hg.trm hg.ne
  have hE := hg.bits.els h
  match hG : genS m t with
  | [] => rw [hG] at hp; simp at hp
  | c :: l =>
    rw [hG] at hlt h1 h2 hE
    have hl : l = [] := by
      cases l with
      | nil => rfl
      | cons d l => simp at hlt
    subst hl
    rw [ev_cons _ hE.head, ev_nil, zero_mul, Nat.zero_xor] at h1
    simp [nth] at h2
    exact h2 h1
end Gf
end Go.Proofs.YtiojdoehlooibaaDoor

/- What the shortest recurrence tells is right: as many zeros as it is long, at places of the word, are the bits that were turned; and where a word is near, it tells just these. -/
namespace Go.Proofs.YtiojdoehlooibaaDoor
namespace Gf
/-- Coefficients against a row from the e-th on. -/
def rr (m : Nat) (y : Nat → Nat) (n : Nat) (S : Nat → Nat) (e : Nat) : Nat := sm (List.range n) fun k => mul m (y k) (S (e + k))
theorem rr_lf {m x : Nat} (h : Em m) (hx : x ≤ sz m) {f S : Nat → Nat} (hf : ∀ k, f k ≤ sz m) (hS : ∀ e, S e ≤ sz m) {n : Nat} (hn : f n = 0) (e : Nat) :
    rr m (Lf m x f) (n + 1) S e = rr m f n (fun e => mul m x (S e) ^^^ S (e + 1)) e := by
  unfold rr
  have e1 : sm (List.range (n + 1)) (fun k => mul m (Lf m x f k) (S (e + k))) = sm (List.range (n + 1)) (fun k => mul m (f k) (mul m x (S (e + k))) ^^^ (if k = 0 then 0 else mul m (f (k - 1)) (S (e + k)))) := by
    refine sm_congr fun k _ => ?_
    have key : mul m (mul m x (f k)) (S (e + k)) = mul m (f k) (mul m x (S (e + k))) := by
      rw [mul_comm m x (f k), mul_assoc h (hf k) hx (hS _)]
    cases k with
    | zero => rw [Lf, key, if_pos rfl, Nat.xor_zero]
    | succ k => rw [Lf, if_neg (by omega), xor_mul h (hS _) (mul_le h _ _) (hf k), key, Nat.add_sub_cancel]
  rw [e1, sm_xor]
  have e2 : sm (List.range (n + 1)) (fun k => mul m (f k) (mul m x (S (e + k)))) = sm (List.range n) (fun k => mul m (f k) (mul m x (S (e + k)))) := by
    rw [List.range_succ, sm_append, sm_cons, sm_nil, hn, zero_mul, Nat.xor_zero, Nat.xor_zero]
  have e3 : sm (List.range (n + 1)) (fun k => if k = 0 then 0 else mul m (f (k - 1)) (S (e + k))) = sm (List.range n) (fun k => mul m (f k) (S (e + k + 1))) := by
    rw [List.range_succ_eq_map, sm_cons, sm_map, if_pos rfl, Nat.zero_xor]
    exact sm_congr fun k _ => by show (if k + 1 = 0 then 0 else mul m (f (k + 1 - 1)) (S (e + (k + 1)))) = _; rw [if_neg (by omega), Nat.add_sub_cancel]; rfl
  rw [e2, e3, ← sm_xor]
  exact sm_congr fun k _ => (mul_xor h (hf k) (mul_le h _ _) (hS _)).symm
theorem nth_lp {m x : Nat} (h : Em m) {X : List Nat} (hX : ∀ z ∈ x :: X, z ≤ sz m) (k : Nat) : nth (lp m (x :: X)) k = Lf m x (nth (lp m X)) k := by
  rw [lp, nth_tm, cv_lin h _ _ (lp_facts h X fun z hz => hX z (by simp [hz])).1]
/-- A row with that recurrence is a sum of powers. -/
theorem comb_lp {m : Nat} (h : Em m) : ∀ (X : List Nat), X.Nodup → (∀ x ∈ X, 1 ≤ x ∧ x ≤ sz m) → ∀ (n : Nat) (S : Nat → Nat), (∀ e, S e ≤ sz m) → (∀ e, 1 ≤ e → e + X.length ≤ n → rr m (nth (lp m X)) (X.length + 1) S e = 0) →
    ∃ c : Nat → Nat, (∀ x, c x ≤ sz m) ∧ ∀ e, 1 ≤ e → e ≤ n → S e = ps m X c e
  | [], _, _, n, S, hS, h0 => by
    refine ⟨fun _ => 0, fun _ => Nat.zero_le _, fun e e1 e2 => ?_⟩
    have := h0 e e1 (by simpa using e2)
    have hr : rr m (nth (lp m [])) 1 S e = S e := by
      show mul m 1 (S (e + 0)) ^^^ 0 = S e
      rw [Nat.xor_zero, one_mul h (hS _), Nat.add_zero]
    rw [show ([] : List Nat).length + 1 = 1 from rfl, hr] at this
    rw [this]; rfl
  | x :: X, hn, hX, n, S, hS, h0 => by
    have hn' := List.nodup_cons.1 hn
    have hx := hX x (by simp)
    have hX' : ∀ y ∈ X, 1 ≤ y ∧ y ≤ sz m := fun y hy => hX y (by simp [hy])
    have hXs : ∀ z ∈ x :: X, z ≤ sz m := fun z hz => (hX z hz).2
    obtain ⟨f1, _, f3⟩ := lp_facts h X fun z hz => (hX' z hz).2
    have hS' : ∀ e, mul m x (S e) ^^^ S (e + 1) ≤ sz m := fun e => xor_le (mul_le h _ _) (hS _)
    obtain ⟨c', hc', hk⟩ := comb_lp h X hn'.2 hX' (n - 1) (fun e => mul m x (S e) ^^^ S (e + 1)) hS' fun e e1 e2 => by
      rw [← rr_lf h hx.2 f1 hS (nth_over _ (by omega)) e]
      have := h0 e e1 (by simp; omega)
      rw [List.length_cons] at this
      rw [← this]
      unfold rr
      exact sm_congr fun k _ => by rw [nth_lp h hXs]
    obtain ⟨d, hd⟩ : ∃ d : Nat → Nat, ∀ y, d y = mul m (c' y) (invS m (y ^^^ x)) := ⟨_, fun _ => rfl⟩
    have hdl : ∀ y, d y ≤ sz m := fun y => by rw [hd]; exact mul_le h _ _
    have hps : ∀ e, ps m X d e ≤ sz m := fun e => sm_le fun _ _ => mul_le h _ _
    have hdx : ∀ e, mul m x (ps m X d e) ^^^ ps m X d (e + 1) = ps m X c' e := fun e => by
      unfold ps
      rw [← sm_mul h hx.2 fun _ _ => mul_le h _ _, ← sm_xor]
      refine sm_congr fun y hy => ?_
      have hy' := hX' y hy
      have hyx : y ^^^ x ≠ 0 := xor_ne fun e => hn'.1 (e ▸ hy)
      have hpx := px_le h y e
      rw [px, ← mul_assoc h (hdl y) hpx hy'.2, mul_comm m x, ← mul_xor h (mul_le h _ _) hx.2 hy'.2, Nat.xor_comm x y, mul_px_swap h (hdl y) hpx (xor_le hy'.2 hx.2), hd, mul_assoc h (hc' y) (inv_le h _) (xor_le hy'.2 hx.2), mul_comm m (invS m (y ^^^ x)), inv_mul h hyx (xor_le hy'.2 hx.2), mul_one h (hc' y)]
    have hU : ∀ e, 1 ≤ e → e ≤ n → S e ^^^ ps m X d e = mul m (S 1 ^^^ ps m X d 1) (px m x (e - 1)) := fun e => by
      induction e with
      | zero => intro h1; omega
      | succ e ih =>
        intro _ h2
        by_cases he : e = 0
        · subst he
          rw [show 0 + 1 - 1 = 0 from rfl, px, mul_one h (xor_le (hS _) (hps _))]
        · have ih' := ih (by omega) (by omega)
          have k1 := hk e (by omega) (by omega)
          rw [← hdx e] at k1
          have k2 : S (e + 1) ^^^ ps m X d (e + 1) = mul m x (S e ^^^ ps m X d e) := by
            rw [mul_xor h hx.2 (hS _) (hps _)]
            have k3 : (mul m x (S e) ^^^ S (e + 1)) ^^^ (mul m x (ps m X d e) ^^^ ps m X d (e + 1)) = 0 := by rw [k1, Nat.xor_self]
            rw [xor4] at k3
            exact Classical.byContradiction fun hne => xor_ne (fun e' => hne e'.symm) k3
          rw [k2, ih', mul_comm m x, mul_assoc h (xor_le (hS _) (hps _)) (px_le h _ _) hx.2, show e + 1 - 1 = e - 1 + 1 by omega, px]
    refine ⟨fun y => if y = x then mul m (S 1 ^^^ ps m X d 1) (invS m x) else d y, fun y => ?_, fun e e1 e2 => ?_⟩
    · show (if y = x then _ else _) ≤ _
      split
      · exact mul_le h _ _
      · exact hdl y
    · have hq : ps m (x :: X) (fun y => if y = x then mul m (S 1 ^^^ ps m X d 1) (invS m x) else d y) e = mul m (mul m (S 1 ^^^ ps m X d 1) (invS m x)) (px m x e) ^^^ ps m X d e := by
        unfold ps
        rw [sm_cons]
        simp only [if_true]
        congr 1
        refine sm_congr fun y hy => ?_
        have hyx : ¬ y = x := fun e' => hn'.1 (e' ▸ hy)
        rw [if_neg hyx]
      have hpx : mul m (mul m (S 1 ^^^ ps m X d 1) (invS m x)) (px m x e) = S e ^^^ ps m X d e := by
        have hs1 := xor_le (hS 1) (hps 1)
        rw [hU e e1 e2, show e = e - 1 + 1 by omega, px, Nat.add_sub_cancel, mul_assoc h hs1 (inv_le h _) (mul_le h _ _), mul_comm m (px m x (e - 1)), ← mul_assoc h (inv_le h _) hx.2 (px_le h _ _), mul_comm m (invS m x), inv_mul h (by omega) hx.2, one_mul h (px_le h _ _)]
      rw [hq, hpx, Nat.xor_assoc, Nat.xor_self, Nat.xor_zero]
theorem sq_sm {m : Nat} (h : Em m) {X : List Nat} {f : Nat → Nat} (hf : ∀ x ∈ X, f x ≤ sz m) : mul m (sm X f) (sm X f) = sm X fun x => mul m (f x) (f x) := by
  induction X with
  | nil => rw [sm_nil, sm_nil, mul_zero]
  | cons x X ih =>
    have hf' : ∀ y ∈ X, f y ≤ sz m := fun y hy => hf y (by simp [hy])
    rw [sm_cons, sm_cons, square_add h (hf x (by simp)) (sm_le hf'), ih hf']
theorem px_dbl {m x : Nat} (h : Em m) (hx : x ≤ sz m) : ∀ e, px m x (2 * e) = px m (mul m x x) e
  | 0 => rfl
  | e + 1 => by
    rw [show 2 * (e + 1) = 2 * e + 1 + 1 by omega, px, px, px, px_dbl h hx e, mul_assoc h (px_le h _ _) hx hx]
theorem sm_filter (X : List Nat) (p : Nat → Bool) (f : Nat → Nat) (h0 : ∀ x ∈ X, p x = false → f x = 0) : sm (X.filter p) f = sm X f := by
  induction X with
  | nil => rfl
  | cons x X ih =>
    have ih' := ih fun y hy => h0 y (by simp [hy])
    cases hp : p x with
    | true => rw [List.filter_cons_of_pos (by simpa using hp), sm_cons, sm_cons, ih']
    | false => rw [List.filter_cons_of_neg (by simp [hp]), sm_cons, ih', h0 x (by simp) hp, Nat.zero_xor]
/-- A recurrence with as many zeros as it is long: the row is the sum of their powers. -/
theorem massey_sound {m t : Nat} (h : Em m) {S : Nat → Nat} (hS : ∀ e, S e ≤ sz m) (hsq : ∀ e, 1 ≤ e → e ≤ t → S (2 * e) = mul m (S e) (S e)) {C : Nat → Nat} {L : Nat} (hC : Rec m (fun i => S (i + 1)) C L (2 * t)) (hL : ∀ D K, Rec m (fun i => S (i + 1)) D K (2 * t) → L ≤ K) (hLt : L ≤ t)
    {X : List Nat} (hn : X.Nodup) (hX : ∀ x ∈ X, 1 ≤ x ∧ x ≤ sz m) (hlen : X.length = L) (hr : ∀ x ∈ X, ev m x (rl L C) = 0) : ∀ e, 1 ≤ e → e ≤ 2 * t → S e = ps m X (fun _ => 1) e := by
  have hz := sz_bd h
  have hX' : ∀ x ∈ X, x ≤ sz m := fun x hx => (hX x hx).2
  obtain ⟨f1, _, f3⟩ := lp_facts h X hX'
  have hrl : (rl L C).length = L + 1 := by simp [rl]
  have hll : (rl L C).length = (lp m X).length := by omega
  have hE := els_rl (L := L) hC.els
  have hsame : ∀ k, nth (rl L C) k = nth (lp m X) k := by
    have hY : Els m (xl (rl L C) (lp m X)) := fun k => by rw [nth_xl hll]; exact xor_le (hE k) (f1 k)
    have htl : (trimN (xl (rl L C) (lp m X))).length ≤ X.length := by
      apply Classical.byContradiction
      intro hge
      have hle := trimN_len (xl (rl L C) (lp m X))
      rw [xl_len hll, hrl] at hle
      have hne : trimN (xl (rl L C) (lp m X)) ≠ [] := fun e => by rw [e, List.length_nil] at hge; omega
      have ht := trimmed_trim (xl (rl L C) (lp m X)) hne
      rw [nth_trim, nth_xl hll, show (trimN (xl (rl L C) (lp m X))).length - 1 = L by omega, nth_rl (Nat.le_refl _), Nat.sub_self, hC.one, ← hlen, lp_monic h X hX'] at ht
      exact ht rfl
    have hz0 := rootless h X (trimN (xl (rl L C) (lp m X))) hn hX' (fun k => by rw [nth_trim]; exact hY k) htl fun x hx => by
      rw [ev_trim _ hY, ev_xl h (hX' x hx) _ _ hll hE f1, hr x hx, lp_in h (hX' x hx) X hX' hx]; rfl
    intro k
    have := hz0 k
    rw [nth_trim, nth_xl hll] at this
    exact Classical.byContradiction fun hne => xor_ne hne this
  obtain ⟨c, hc, hk⟩ := comb_lp h X hn hX (2 * t) S hS fun e e1 e2 => by
    have hj := hC.zero (e + L - 1) (by omega) (by omega)
    rw [cf_dt hC.top (by omega), show e + L - 1 - L + 1 = e by omega, rl, dt_range] at hj
    rw [hlen, ← hj]
    unfold rr
    refine sm_congr fun k hk => ?_
    rw [List.mem_range] at hk
    rw [← hsame, nth_rl (by omega)]
  have hbit : ∀ x ∈ X, c x ≤ 1 := by
    have hsn : (X.map fun x => mul m x x).Nodup := by
      rw [List.nodup_iff_pairwise_ne, List.pairwise_map]
      refine List.Pairwise.imp_of_mem ?_ (List.nodup_iff_pairwise_ne.1 hn)
      intro a b ha hb hne e
      exact hne (sq_inj h (hX' a ha) (hX' b hb) e)
    obtain ⟨d, hd⟩ : ∃ d : Nat → Nat, ∀ z, d z = match X.find? (fun x => mul m x x == z) with | some y => c y ^^^ mul m (c y) (c y) | none => 0 := ⟨_, fun _ => rfl⟩
    have hdl : ∀ z, d z ≤ sz m := fun z => by
      rw [hd]
      split
      · exact xor_le (hc _) (mul_le h _ _)
      · exact Nat.zero_le _
    have hdx : ∀ x ∈ X, d (mul m x x) = c x ^^^ mul m (c x) (c x) := fun x hx => by
      rw [hd]
      cases hf : X.find? (fun y => mul m y y == mul m x x) with
      | none =>
        have := List.find?_eq_none.1 hf x hx
        simp at this
      | some y =>
        have h1 := List.find?_some hf
        have h2 := List.mem_of_find?_eq_some hf
        have : y = x := sq_inj h (hX' y h2) (hX' x hx) (by simpa using h1)
        subst this
        rfl
    have hv := vander h hsn (fun z hz => by
      obtain ⟨x, hx, rfl⟩ := List.mem_map.1 hz
      have h1 := hX x hx
      have := mul_ne h (a := x) (b := x) (by omega) (by omega)
      exact ⟨by omega, mul_le h _ _⟩) hdl fun e e1 e2 => by
      rw [List.length_map] at e2
      have k1 := hk (2 * e) (by omega) (by omega)
      rw [hsq e e1 (by omega), hk e e1 (by omega)] at k1
      have k2 : mul m (ps m X c e) (ps m X c e) = sm X fun x => mul m (mul m (c x) (c x)) (px m (mul m x x) e) := by
        unfold ps
        rw [sq_sm h fun _ _ => mul_le h _ _]
        refine sm_congr fun x hx => ?_
        have hx' := hX' x hx
        rw [mul_sq h (hc x) (px_le h _ _), ← px_add h hx', show e + e = 2 * e by omega, px_dbl h hx']
      have k3 : ps m X c (2 * e) = sm X fun x => mul m (c x) (px m (mul m x x) e) := by
        unfold ps
        exact sm_congr fun x hx => by rw [px_dbl h (hX' x hx)]
      unfold ps
      rw [sm_map]
      have k4 : sm X (fun x => mul m (d (mul m x x)) (px m (mul m x x) e)) = sm X (fun x => mul m (c x) (px m (mul m x x) e)) ^^^ sm X (fun x => mul m (mul m (c x) (c x)) (px m (mul m x x) e)) := by
        rw [← sm_xor]
        exact sm_congr fun x hx => by rw [hdx x hx, xor_mul h (px_le h _ _) (hc x) (mul_le h _ _)]
      rw [k4, ← k2, ← k3, k1, Nat.xor_self]
    intro x hx
    have := hv (mul m x x) (List.mem_map.2 ⟨x, hx, rfl⟩)
    rw [hdx x hx] at this
    exact sq_fix h (hc x) (Classical.byContradiction fun hne => xor_ne (fun e => hne e.symm) this)
  have hone : ∀ e, 1 ≤ e → e ≤ 2 * t → S e = ps m (X.filter fun x => c x == 1) (fun _ => 1) e := fun e e1 e2 => by
    have h3 : ps m X c e = sm (X.filter fun x => c x == 1) fun x => mul m (c x) (px m x e) := by
      rw [sm_filter]
      · rfl
      · intro x hx hp
        have := hbit x hx
        have hne : c x ≠ 1 := by simpa using hp
        rw [show c x = 0 by omega, zero_mul]
    rw [hk e e1 e2, h3]
    unfold ps
    refine sm_congr fun x hx => ?_
    have := (List.mem_filter.1 hx).2
    rw [show c x = 1 by simpa using this]
  have hfl := List.length_filter_le (fun x => c x == 1) X
  obtain ⟨hL1, _⟩ := massey_roots h (List.Pairwise.filter _ hn) (fun x hx => hX x (List.mem_filter.1 hx).1) (by omega) hone hC hL
  have hall : ∀ x ∈ X, (c x == 1) = true := List.length_filter_eq_length_iff.1 (by omega)
  intro e e1 e2
  rw [hone e e1 e2, List.filter_eq_self.2 hall]
/-- Turning bits back at places that the recurrence tells, as many as it is long, gives a word. -/
theorem dec_sound {m t : Nat} (h : Em m) {R E : List Nat} (hR : Bits R) (hE : Bits E) (hl : R.length = E.length) (hz : R.length ≤ sz m) {C : Nat → Nat} {L : Nat} (hC : Rec m (fun i => ev m (pw m (i + 1)) R) C L (2 * t)) (hL : ∀ D K, Rec m (fun i => ev m (pw m (i + 1)) R) D K (2 * t) → L ≤ K) (hLt : L ≤ t)
    (hr : ∀ i, i < R.length → nth E i = 1 → ev m (pw m i) (rl L C) = 0) (hw : wt E = L) : IsW m t (xl R E) := by
  have hs := massey_sound h (S := fun e => ev m (pw m e) R) (fun e => ev_le h _ _) (fun e _ _ => by
    show ev m (pw m (2 * e)) R = mul m (ev m (pw m e) R) (ev m (pw m e) R)
    rw [show 2 * e = e + e by omega, ← mul_pw h, ev_sq h (pw_bd h _).2 R hR]) hC hL hLt (X := locs m E) (locs_nodup h (by omega)) (locs_bd h E) (by rw [locs, List.length_map]; exact hw) fun x hx => by
      obtain ⟨i, hi, rfl⟩ := List.mem_map.1 hx
      rw [mem_supp] at hi
      exact hr i (by omega) hi.2
  refine ⟨bits_xl hl hR hE, fun e e1 e2 => ?_⟩
  rw [ev_xl h (pw_bd h _).2 R E hl (hR.els h) (hE.els h), ev_locs h e E hE, show ev m (pw m e) R = ps m (locs m E) (fun _ => 1) e from hs e e1 e2, Nat.xor_self]
/-- Where a word is near, the recurrence tells just the places that were turned. -/
theorem dec_complete {m t : Nat} (h : Em m) {R V : List Nat} (hR : Bits R) (hV : IsW m t V) (hl : R.length = V.length) (hz : R.length ≤ sz m) {C : Nat → Nat} {L : Nat} (hC : Rec m (fun i => ev m (pw m (i + 1)) R) C L (2 * t)) (hL : ∀ D K, Rec m (fun i => ev m (pw m (i + 1)) R) D K (2 * t) → L ≤ K) (hnear : wt (xl R V) ≤ t) :
    L = wt (xl R V) ∧ ∀ i, i < R.length → (ev m (pw m i) (rl L C) = 0 ↔ nth (xl R V) i = 1) := by
  have hxl := xl_len hl
  have hlen : (locs m (xl R V)).length = wt (xl R V) := by rw [locs, List.length_map]; rfl
  obtain ⟨h1, h2⟩ := massey_roots h (S := fun e => ev m (pw m e) R) (locs_nodup h (w := xl R V) (by omega)) (locs_bd h _) (by omega) (fun e e1 e2 => syn_err h hl hR hV e e1 e2) hC hL
  refine ⟨by omega, fun i hi => ?_⟩
  rw [h2 (pw m i) (pw_bd h i).2, locs, List.mem_map]
  constructor
  · rintro ⟨j, hj, e⟩
    rw [mem_supp] at hj
    have : j = i := by
      have := (xp_inj h j i).1 (by rw [xp_nat h, xp_nat h]; exact e)
      have hlt : j < sz m := by omega
      have hit : i < sz m := by omega
      have h4 : ((j : Int) - i) % (sz m : Int) = 0 := this
      have h5 := Int.emod_emod_of_dvd
      obtain ⟨q, hq⟩ := Int.dvd_of_emod_eq_zero h4
      have : q = 0 := by
        apply Classical.byContradiction
        intro hq0
        rcases Int.lt_or_gt_of_ne hq0 with hlt0 | hgt0
        · have : (sz m : Int) * q ≤ (sz m : Int) * (-1) := Int.mul_le_mul_of_nonneg_left (by omega) (by omega)
          omega
        · have : (sz m : Int) * 1 ≤ (sz m : Int) * q := Int.mul_le_mul_of_nonneg_left (by omega) (by omega)
          omega
      subst this
      omega
    subst this
    exact hj.2
  · intro e
    exact ⟨i, by rw [mem_supp]; exact ⟨by omega, e⟩, rfl⟩
end Gf
end Go.Proofs.YtiojdoehlooibaaDoor
