/- Products of polynomials by their coefficients; what is left of a product and something less is that something. -/
import Derived.Test.YtkbafbhhoemkcaaDoorPol
namespace Go.Proofs.YtkbafbhhoemkcaaDoor
namespace Gf
/-- The coefficient of x^k in a product. -/
def cv (m : Nat) : List Nat → List Nat → Nat → Nat
  | [], _, _ => 0
  | a :: _, Q, 0 => mul m a (nth Q 0)
  | a :: A, Q, k + 1 => mul m a (nth Q (k + 1)) ^^^ cv m A Q k
theorem cv_le {m : Nat} (h : Em m) : ∀ (A Q : List Nat) (k : Nat), cv m A Q k ≤ sz m
  | [], _, _ => Nat.zero_le _
  | _ :: _, _, 0 => mul_le h _ _
  | _ :: A, Q, k + 1 => xor_le (mul_le h _ _) (cv_le h A Q k)
/-- A coefficient times x^s put on. -/
def addAt : List Nat → Nat → Nat → List Nat
  | [], 0, f => [f]
  | [], s + 1, f => 0 :: addAt [] s f
  | a :: A, 0, f => (a ^^^ f) :: A
  | a :: A, s + 1, f => a :: addAt A s f
/-- What one coefficient gives to a product. -/
def tk (m f : Nat) (Q : List Nat) (s k : Nat) : Nat := if s ≤ k then mul m f (nth Q (k - s)) else 0
theorem tk_succ (m f : Nat) (Q : List Nat) (s k : Nat) : tk m f Q (s + 1) (k + 1) = tk m f Q s k := by
  unfold tk
  by_cases h : s ≤ k
  · rw [if_pos h, if_pos (by omega), show k + 1 - (s + 1) = k - s by omega]
  · rw [if_neg h, if_neg (by omega)]
theorem tk_zero (m f : Nat) (Q : List Nat) (k : Nat) : tk m f Q 0 k = mul m f (nth Q k) := by
  unfold tk; rw [if_pos (Nat.zero_le _), Nat.sub_zero]
theorem tk_under (m f : Nat) (Q : List Nat) (s : Nat) : tk m f Q (s + 1) 0 = 0 := by
  unfold tk; rw [if_neg (by omega)]
theorem cv_addAt {m : Nat} (h : Em m) {Q : List Nat} (hQ : Els m Q) {f : Nat} (hf : f ≤ sz m) : ∀ (A : List Nat) (s k : Nat), Els m A → cv m (addAt A s f) Q k = cv m A Q k ^^^ tk m f Q s k
  | [], 0, 0, _ => by rw [addAt, cv, cv, Nat.zero_xor, tk_zero]
  | [], 0, k + 1, _ => by rw [addAt, cv, cv, cv, Nat.zero_xor, tk_zero, Nat.xor_zero]
  | [], s + 1, 0, _ => by rw [addAt, cv, cv, zero_mul, tk_under]; rfl
  | [], s + 1, k + 1, hA => by rw [addAt, cv, cv, zero_mul, Nat.zero_xor, cv_addAt h hQ hf [] s k hA, cv, tk_succ]
  | a :: A, 0, 0, hA => by rw [addAt, cv, cv, xor_mul h (hQ 0) hA.head hf, tk_zero]
  | a :: A, 0, k + 1, hA => by
    rw [addAt, cv, cv, xor_mul h (hQ _) hA.head hf, tk_zero, Nat.xor_assoc, Nat.xor_assoc, Nat.xor_comm (mul m f _)]
  | a :: A, s + 1, 0, hA => by rw [addAt, cv, cv, tk_under, Nat.xor_zero]
  | a :: A, s + 1, k + 1, hA => by rw [addAt, cv, cv, cv_addAt h hQ hf A s k hA.tail, tk_succ, Nat.xor_assoc]
theorem els_addAt {m f : Nat} (hf : f ≤ sz m) : ∀ (A : List Nat) (s : Nat), Els m A → Els m (addAt A s f)
  | [], 0, h => Els.cons hf h
  | [], s + 1, h => Els.cons (Nat.zero_le _) (els_addAt hf [] s h)
  | _ :: _, 0, h => Els.cons (xor_le h.head hf) h.tail
  | _ :: A, s + 1, h => Els.cons h.head (els_addAt hf A s h.tail)
theorem cv_snoc {m : Nat} (Q : List Nat) (f : Nat) : ∀ (A : List Nat) (k : Nat), cv m (A ++ [f]) Q k = cv m A Q k ^^^ tk m f Q A.length k
  | [], 0 => by rw [List.nil_append, cv, cv, Nat.zero_xor, List.length_nil, tk_zero]
  | [], k + 1 => by rw [List.nil_append, cv, cv, cv, Nat.zero_xor, List.length_nil, tk_zero, Nat.xor_zero]
  | a :: A, 0 => by rw [List.cons_append, cv, cv, List.length_cons, tk_under, Nat.xor_zero]
  | a :: A, k + 1 => by rw [List.cons_append, cv, cv, cv_snoc Q f A k, List.length_cons, tk_succ, Nat.xor_assoc]
theorem nth_outer {m : Nat} (p q r : List Nat) (i k : Nat) (hi : i ≤ p.length) (hlen : p.length + q.length ≤ r.length + 1) : nth (outer m p q r i) k = nth r k ^^^ cv m (p.take i) q k := by
  induction i with
  | zero => rw [outer, List.take_zero, cv, Nat.xor_zero]
  | succ i ih =>
    rw [outer, nth_inner _ _ _ _ _ _ _ (by rw [outer_len]; omega), ih (by omega), take_snoc' (by omega), cv_snoc, List.length_take, Nat.min_eq_left (by omega), Nat.xor_assoc]
    congr 2
    unfold tk
    by_cases h1 : i ≤ k
    · by_cases h2 : k < i + q.length
      · rw [if_pos ⟨h1, h2⟩, if_pos h1]
      · rw [if_neg (by omega), if_pos h1, nth_over q (by omega), mul_zero]
    · rw [if_neg (by omega), if_neg h1]
theorem nth_zeros (n k : Nat) : nth (List.replicate n 0) k = 0 := by
  unfold nth
  rw [List.getD_eq_getElem?_getD, List.getElem?_replicate]
  split <;> rfl
/-- The coefficients of a product. -/
theorem nth_tm (m : Nat) (p q : List Nat) (k : Nat) : nth (tmS m p q) k = cv m p q k := by
  unfold tmS
  split
  · rename_i e
    rcases e with rfl | rfl
    · rfl
    · rw [nth_over [] (by simp)]
      have : ∀ (A : List Nat) (k : Nat), cv m A [] k = 0 := by
        intro A
        induction A with
        | nil => intro k; rfl
        | cons a A ih =>
          intro k
          cases k with
          | zero => rw [cv, nth_over [] (by simp), mul_zero]
          | succ k => rw [cv, nth_over [] (by simp), mul_zero, ih]; rfl
      exact (this p k).symm
  · rename_i e
    have h1 : p.length ≠ 0 := fun h => e (.inl (List.eq_nil_of_length_eq_zero h))
    have h2 : q.length ≠ 0 := fun h => e (.inr (List.eq_nil_of_length_eq_zero h))
    rw [nth_outer _ _ _ _ _ (Nat.le_refl _) (by simp; omega), nth_zeros, Nat.zero_xor, List.take_length]
/-- A row whose last is no nought. -/
def Trimmed (l : List Nat) : Prop := l ≠ [] → nth l (l.length - 1) ≠ 0
theorem trimmed_trim (l : List Nat) : Trimmed (trimN l) := fun h => trimN_last l h
theorem trim_of_trimmed {l : List Nat} (h : Trimmed l) : trimN l = l := by
  by_cases h0 : l = []
  · subst h0; rfl
  · have hl : 0 < l.length := List.length_pos_iff.2 h0
    have e : l.take (l.length - 1 + 1) = l := by rw [Nat.sub_add_cancel hl, List.take_length]
    have := trim_stop (l := l) (k := l.length - 1) (by omega) (h h0)
    rwa [e] at this
/-- Two such rows with the same coefficients are the same. -/
theorem eq_of_nth {a b : List Nat} (ha : Trimmed a) (hb : Trimmed b) (h : ∀ k, nth a k = nth b k) : a = b := by
  have key : ∀ {a b : List Nat}, Trimmed a → (∀ k, nth a k = nth b k) → a.length ≤ b.length := by
    intro a b ha h
    rcases Nat.lt_or_ge b.length a.length with hlt | hge
    · exfalso
      have hne : a ≠ [] := by intro e; rw [e] at hlt; simp at hlt
      apply ha hne
      rw [h, nth_over b (by omega)]
    · exact hge
  have hl : a.length = b.length := Nat.le_antisymm (key ha h) (key hb (fun k => (h k).symm))
  apply List.ext_getElem hl
  intro i h1 h2
  have := h i
  rwa [nth_of h1, nth_of h2] at this
theorem nth_trim (l : List Nat) (k : Nat) : nth (trimN l) k = nth l k := by
  by_cases hk : k < (trimN l).length
  · exact trimN_nth l hk
  · obtain ⟨z, e, hz⟩ := trimN_split l
    rw [nth_over _ (by omega)]
    by_cases hk2 : k < l.length
    · rw [nth_of hk2]
      have hm : l[k] ∈ z := by
        have h3 : l[k]? = z[k - (trimN l).length]? := by
          conv => lhs; rw [e]
          rw [List.getElem?_append_right (by omega)]
        rw [List.getElem?_eq_getElem hk2] at h3
        exact List.mem_of_getElem? h3.symm
      exact (hz _ hm).symm
    · rw [nth_over l (by omega)]
/-- P is A times Q, and R. -/
def Comb (m : Nat) (Q R P : List Nat) : Prop := ∃ A, Els m A ∧ ∀ k, nth P k = cv m A Q k ^^^ nth R k
theorem Comb.trim {m : Nat} {Q R P : List Nat} (h : Comb m Q R P) : Comb m Q R (trimN P) := by
  obtain ⟨A, h1, h2⟩ := h
  exact ⟨A, h1, fun k => by rw [nth_trim, h2]⟩
theorem Comb.step {m : Nat} (h : Em m) {Q R P : List Nat} (hQ : Els m Q) (hle : Q.length ≤ P.length) (hc : Comb m Q R P) : Comb m Q R (restStep m Q P) := by
  obtain ⟨A, h1, h2⟩ := hc
  have hf := mul_le h (nth P (P.length - 1)) (invS m (nth Q (Q.length - 1)))
  refine ⟨addAt A (P.length - Q.length) (mul m (nth P (P.length - 1)) (invS m (nth Q (Q.length - 1)))), els_addAt hf _ _ h1, fun k => ?_⟩
  unfold restStep
  rw [nth_inner _ _ _ _ _ _ _ (by omega), h2, cv_addAt h hQ hf _ _ _ h1, Nat.xor_assoc, Nat.xor_assoc, Nat.xor_comm (nth R k)]
  congr 2
  unfold tk
  by_cases a1 : P.length - Q.length ≤ k
  · by_cases a2 : k < P.length - Q.length + Q.length
    · rw [if_pos ⟨a1, a2⟩, if_pos a1]
    · rw [if_neg (by omega), if_pos a1, nth_over Q (k := k - (P.length - Q.length)) (by omega), mul_zero]
  · rw [if_neg (by omega), if_neg a1]
/-- The top of a product. -/
theorem cv_over (m : Nat) (Q : List Nat) : ∀ (A : List Nat) (k : Nat), A.length + Q.length ≤ k + 1 → cv m A Q k = 0
  | [], _, _ => rfl
  | a :: A, 0, h => by
    simp at h
    rw [cv, nth_over Q (by omega), mul_zero]
  | a :: A, k + 1, h => by
    simp at h
    rw [cv, nth_over Q (by omega), mul_zero, cv_over m Q A k (by omega)]; rfl
theorem cv_top {m : Nat} (Q : List Nat) (hq : 0 < Q.length) : ∀ (A : List Nat) (a : Nat), cv m (A ++ [a]) Q (A.length + (Q.length - 1)) = mul m a (nth Q (Q.length - 1)) := by
  intro A a
  rw [cv_snoc, cv_over m Q A _ (by omega), Nat.zero_xor, tk, if_pos (by omega), Nat.add_sub_cancel_left]
theorem cv_trim {m : Nat} (Q : List Nat) (A : List Nat) (k : Nat) : cv m (trimN A) Q k = cv m A Q k := by
  obtain ⟨z, e, hz⟩ := trimN_split A
  have key : ∀ (z B : List Nat), (∀ c ∈ z, c = 0) → cv m (B ++ z) Q k = cv m B Q k := by
    intro z
    induction z with
    | nil => intro B _; rw [List.append_nil]
    | cons c z ih =>
      intro B hz
      have hc : c = 0 := hz c (by simp)
      rw [show B ++ c :: z = (B ++ [c]) ++ z by simp, ih (B ++ [c]) (fun d hd => hz d (by simp [hd])), cv_snoc, hc, tk, zero_mul]
      split <;> rw [Nat.xor_zero]
  conv => rhs; rw [e]
  exact (key z (trimN A) hz).symm
/-- What is less than Q and a product of Q and R is R. -/
theorem Comb.end_ {m : Nat} (h : Em m) {Q R P : List Nat} (hq : 0 < Q.length) (hlq : nth Q (Q.length - 1) ≠ 0) (hP : P.length < Q.length) (hR : R.length < Q.length) (tP : Trimmed P) (tR : Trimmed R) (hc : Comb m Q R P) : P = R := by
  obtain ⟨A, h1, h2⟩ := hc
  have hA : trimN A = [] := by
    apply Classical.byContradiction
    intro hne
    have hl : 0 < (trimN A).length := List.length_pos_iff.2 hne
    have hlast := trimN_last A hne
    have e : trimN A = (trimN A).take ((trimN A).length - 1) ++ [nth (trimN A) ((trimN A).length - 1)] := by
      rw [← take_snoc' (by omega), Nat.sub_add_cancel hl, List.take_length]
    have h3 := cv_top (m := m) Q hq ((trimN A).take ((trimN A).length - 1)) (nth (trimN A) ((trimN A).length - 1))
    rw [← e, cv_trim, List.length_take, Nat.min_eq_left (by omega)] at h3
    have h4 := h2 ((trimN A).length - 1 + (Q.length - 1))
    rw [nth_over P (by omega), nth_over R (by omega), Nat.xor_zero, h3] at h4
    exact mul_ne h hlast hlq h4.symm
  refine eq_of_nth tP tR fun k => ?_
  rw [h2, ← cv_trim, hA, cv, Nat.zero_xor]
theorem restGo_comb {m : Nat} (h : Em m) {Q R : List Nat} (hQ : Els m Q) (hq : 0 < Q.length) (hlq : nth Q (Q.length - 1) ≠ 0) (hR : R.length < Q.length) (tR : Trimmed R) : ∀ (f : Nat) (P : List Nat), P.length ≤ f → Els m P → Trimmed P → Comb m Q R P → restGo m Q f P = R
  | 0, P, hf, _, tP, hc => by
    rw [restGo]
    exact hc.end_ h hq hlq (by omega) hR tP tR
  | f + 1, P, hf, hP, tP, hc => by
    rw [restGo]
    split
    · rename_i hlt
      exact hc.end_ h hq hlq hlt hR tP tR
    · rename_i hge
      have hle : Q.length ≤ P.length := by omega
      have hs := rest_shrinks h hQ hP hlq hq hle
      exact restGo_comb h hQ hq hlq hR tR f _ (by omega) (els_trim (restStep_els h Q hP)) (trimmed_trim _) (hc.step h hQ hle).trim
/-- What is left of a row that is a product and something less is that something. -/
theorem rest_comb {m : Nat} (h : Em m) {Q R P : List Nat} (hQ : Els m Q) (tQ : Trimmed Q) (hq : Q ≠ []) (hR : R.length < Q.length) (tR : Trimmed R) (hP : Els m P) (tP : Trimmed P) (hc : Comb m Q R P) : restS m P Q = R := by
  unfold restS
  rw [if_neg hq]
  exact restGo_comb h hQ (List.length_pos_iff.2 hq) (tQ hq) hR tR P.length P (Nat.le_refl _) hP tP hc
theorem rowS_ints {m : Nat} {l : List Nat} (h : Els m l) : rowS m (ints l) = trimN l := by
  unfold rowS
  congr 1
  apply List.ext_getElem (by simp [ints])
  intro i h1 h2
  simp [ints]
  have := h i
  rw [nth_of h2] at this
  exact el_of this
theorem rowS_trimmed (m : Nat) (xs : List Int) : Trimmed (rowS m xs) := trimmed_trim _
/-- A product of such rows is such a row. -/
theorem tm_trimmed {m : Nat} (h : Em m) {p q : List Nat} (tp : Trimmed p) (tq : Trimmed q) : Trimmed (tmS m p q) := by
  intro hne
  have h1 : p ≠ [] := fun e => hne (by unfold tmS; rw [if_pos (.inl e)])
  have h2 : q ≠ [] := fun e => hne (by unfold tmS; rw [if_pos (.inr e)])
  have l1 : 0 < p.length := List.length_pos_iff.2 h1
  have l2 : 0 < q.length := List.length_pos_iff.2 h2
  have hl : (tmS m p q).length = p.length + q.length - 1 := by
    unfold tmS
    rw [if_neg (by rintro (e | e); exact h1 e; exact h2 e), outer_len]; simp
  rw [nth_tm, hl]
  have e : p = p.take (p.length - 1) ++ [nth p (p.length - 1)] := by
    rw [← take_snoc' (by omega), Nat.sub_add_cancel l1, List.take_length]
  have h3 := cv_top (m := m) q l2 (p.take (p.length - 1)) (nth p (p.length - 1))
  rw [← e, List.length_take, Nat.min_eq_left (by omega)] at h3
  rw [show p.length + q.length - 1 - 1 = p.length - 1 + (q.length - 1) by omega, h3]
  exact mul_ne h (tp h1) (tq h2)
theorem tm_els {m : Nat} (h : Em m) (p q : List Nat) : Els m (tmS m p q) := by
  unfold tmS
  split
  · intro k; rw [nth_over [] (by simp)]; exact Nat.zero_le _
  · exact (Els.zeros m _).outer h p q _
/-- Times 1. -/
theorem tm_one {m : Nat} (h : Em m) {p : List Nat} (hp : Els m p) (tp : Trimmed p) : tmS m p [1] = p := by
  have t1 : Trimmed [1] := fun _ => by decide
  refine eq_of_nth (tm_trimmed h tp t1) tp fun k => ?_
  rw [nth_tm]
  clear tp
  induction p generalizing k with
  | nil => rw [nth_over [] (by simp)]; rfl
  | cons a p ih =>
    cases k with
    | zero => rw [cv, nth_cons_zero, nth_cons_zero, mul_one h hp.head]
    | succ k => rw [cv, nth_over [1] (by simp), mul_zero, Nat.zero_xor, ih hp.tail, nth_cons_succ]
end Gf
end Go.Proofs.YtkbafbhhoemkcaaDoor
