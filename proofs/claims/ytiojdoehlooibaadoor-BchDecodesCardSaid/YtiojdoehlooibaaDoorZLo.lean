/- The steps of the locator's loop, as polynomials. -/
import Derived.Test.YtiojdoehlooibaaDoorZDc
import Derived.Test.YtiojdoehlooibaaDoorZPa
namespace Go.Proofs.YtiojdoehlooibaaDoor
namespace Gf
theorem cv_nil_r (m : Nat) : ∀ (p : List Nat) (k : Nat), cv m p [] k = 0
  | [], k => by cases k <;> rfl
  | a :: p, k => by
    cases k with
    | zero => show mul m a (nth [] 0) = 0; rw [nth_nil, mul_zero]
    | succ k => show mul m a (nth [] (k + 1)) ^^^ cv m p [] k = 0; rw [nth_nil, mul_zero, Nat.zero_xor, cv_nil_r m p k]
theorem cv_single {m g : Nat} (h : Em m) : ∀ (p : List Nat) (k : Nat), Els m p → cv m p [g] k = mul m (nth p k) g
  | [], k, _ => by rw [nth_nil, zero_mul]; cases k <;> rfl
  | a :: p, 0, _ => rfl
  | a :: p, k + 1, hp => by
    show mul m a (nth [g] (k + 1)) ^^^ cv m p [g] k = _
    rw [nth_over [g] (by simp), mul_zero, Nat.zero_xor, cv_single h p k hp.tail, nth_cons_succ]
theorem trim_single (g : Nat) : trimN [g] = if g = 0 then [] else [g] := by
  have := trimN_snoc [] g
  rw [List.nil_append] at this
  rw [this]; rfl
/-- A polynomial times a number. -/
theorem nth_scale {m g : Nat} (h : Em m) {p : List Nat} (hp : Els m p) (hg : g ≤ sz m) (k : Nat) : nth (tmS m (rowS m (ints p)) (rowS m (ints [g]))) k = mul m (nth p k) g := by
  have hg1 : Els m [g] := Els.cons hg (fun k => by rw [nth_nil]; exact Nat.zero_le _)
  have hT : Els m (trimN p) := fun k => by rw [nth_trim]; exact hp k
  rw [rowS_ints hp, rowS_ints hg1, nth_tm, trim_single]
  split
  · rename_i e; subst e; rw [cv_nil_r, mul_zero]
  · rw [cv_single h _ _ hT, nth_trim]
/-- A polynomial times x. -/
theorem nth_up {m : Nat} (h : Em m) {p : List Nat} (hp : Els m p) (k : Nat) : nth (tmS m (rowS m (ints p)) (rowS m (ints [0, 1]))) k = if 1 ≤ k then nth p (k - 1) else 0 := by
  have hT : Els m (trimN p) := fun k => by rw [nth_trim]; exact hp k
  rw [rowS_ints hp, rowS_ints (els_lin h (Nat.zero_le _)), trim_of_trimmed (trimmed_lin 0), nth_tm, cv_lin h _ _ hT]
  cases k with
  | zero => show mul m 0 _ = _; rw [zero_mul, if_neg (by omega)]
  | succ k => show mul m 0 _ ^^^ nth (trimN p) k = _; rw [zero_mul, Nat.zero_xor, if_pos (by omega), nth_trim, Nat.add_sub_cancel]
theorem tm_len_le (m : Nat) (p q : List Nat) : (tmS m p q).length ≤ p.length + q.length - 1 := by
  unfold tmS
  split
  · simp
  · rw [outer_len, List.length_replicate]; exact Nat.le_refl _
theorem scale_len (m : Nat) (p : List Nat) (g : Nat) : (tmS m (rowS m (ints p)) (rowS m (ints [g]))).length ≤ p.length := by
  have h1 := tm_len_le m (rowS m (ints p)) (rowS m (ints [g]))
  have h2 := rowS_len m (ints p)
  have h3 := rowS_len m (ints [g])
  rw [ints_len] at h2 h3
  simp at h3
  omega
theorem up_len (m : Nat) (p : List Nat) : (tmS m (rowS m (ints p)) (rowS m (ints [0, 1]))).length ≤ p.length + 1 := by
  have h1 := tm_len_le m (rowS m (ints p)) (rowS m (ints [0, 1]))
  have h2 := rowS_len m (ints p)
  have h3 := rowS_len m (ints [0, 1])
  rw [ints_len] at h2 h3
  simp at h3
  omega
/-- What holds behind n syndromes. -/
structure Loc (m : Nat) (S C : List Nat) (L : Nat) (B : List Nat) (n : Nat) : Prop where
  bm : ∃ F g d, Bm m (nth S) (nth C) L F g d n ∧ ∀ i, nth B i = if g ≤ i then mul m (invS m d) (F (i - g)) else 0
  elc : Els m C
  elb : Els m B
  lnc : C.length ≤ n + 1
  lnb : B.length ≤ n + 2
  len : L ≤ n
theorem Loc.start {m : Nat} (h : Em m) (S : List Nat) : Loc m S [1] 0 [0, 1] 0 := by
  have hz := sz_bd h
  have e1 : nth [1] = fun i => if i = 0 then 1 else 0 := funext fun i => by
    cases i with
    | zero => rfl
    | succ i => rw [nth_over [1] (by simp), if_neg (by omega)]
  have hi : invS m 1 = 1 := by
    have := inv_mul h (a := 1) (by decide) (by omega)
    rwa [one_mul h (inv_le h _)] at this
  refine ⟨⟨fun i => if i = 0 then 1 else 0, 1, 1, by rw [e1]; exact Bm.start h (nth S), fun i => ?_⟩, els_one h, els_lin h (Nat.zero_le _), by simp, by simp, Nat.le_refl _⟩
  rw [hi]
  cases i with
  | zero => rw [if_neg (by omega)]; rfl
  | succ i =>
    rw [if_pos (by omega), Nat.add_sub_cancel]
    cases i with
    | zero => show 1 = mul m 1 1; rw [one_mul h (by omega)]
    | succ i => show nth [0, 1] (i + 1 + 1) = mul m 1 0; rw [mul_zero, nth_over _ (by simp)]
/-- The recurrence behind a step. -/
def nxS (m : Nat) (C B : List Nat) (q : Nat) : List Nat := sumS C (tmS m (rowS m (ints B)) (rowS m (ints [q])))
def upS (m : Nat) (B : List Nat) : List Nat := tmS m (rowS m (ints B)) (rowS m (ints [0, 1]))
theorem nxS_len {m : Nat} {C B : List Nat} {n q : Nat} (h1 : C.length ≤ n + 1) (h2 : B.length ≤ n + 2) : (nxS m C B q).length ≤ n + 1 + 1 := by
  have := scale_len m B q
  rw [nxS, sumS_len]; omega
theorem els_nxS {m : Nat} (h : Em m) {C B : List Nat} (hC : Els m C) (q : Nat) : Els m (nxS m C B q) := els_sumS hC (tm_els h _ _)
theorem Loc.same {m : Nat} (h : Em m) {S C B : List Nat} {L n : Nat} (l : Loc m S C L B n) (h0 : cf m (nth C) (nth S) n = 0) : Loc m S (nxS m C B (cf m (nth C) (nth S) n)) L (upS m B) (n + 1) := by
  obtain ⟨F, g, d, hb, hB⟩ := l.bm
  have e1 : nth (nxS m C B (cf m (nth C) (nth S) n)) = nth C := funext fun i => by
    rw [nxS, nth_sumS, nth_scale h l.elb (cf_le h _ _ _), h0, mul_zero, Nat.xor_zero]
  refine ⟨⟨F, g + 1, d, by rw [e1]; exact hb.same h0, fun i => ?_⟩, els_nxS h l.elc _, tm_els h _ _, nxS_len l.lnc l.lnb, by have := up_len m B; have := l.lnb; unfold upS; omega, by have := l.len; omega⟩
  rw [upS, nth_up h l.elb]
  by_cases a : g + 1 ≤ i
  · rw [if_pos (by omega), if_pos a, hB, if_pos (by omega), show i - 1 - g = i - (g + 1) by omega]
  · rw [if_neg a]
    by_cases c : 1 ≤ i
    · rw [if_pos c, hB, if_neg (by omega)]
    · rw [if_neg c]
theorem Loc.upd {m : Nat} (h : Em m) {S C B : List Nat} {L n g d : Nat} {F : Nat → Nat} (l : Loc m S C L B n) (hb : Bm m (nth S) (nth C) L F g d n) (hB : ∀ i, nth B i = if g ≤ i then mul m (invS m d) (F (i - g)) else 0) : nth (nxS m C B (cf m (nth C) (nth S) n)) = Gf.upd m (nth C) F (mul m (cf m (nth C) (nth S) n) (invS m d)) g := funext fun i => by
  have hq := cf_le h (nth C) (nth S) n
  rw [nxS, nth_sumS, nth_scale h l.elb hq, hB]
  unfold Gf.upd
  congr 1
  split
  · rw [mul_comm m _ (cf m (nth C) (nth S) n), ← mul_assoc h hq (inv_le h _) (hb.els _)]
  · rw [zero_mul]
theorem Loc.turn {m : Nat} (h : Em m) {S C B : List Nat} {L n : Nat} (hS : Els m S) (l : Loc m S C L B n) (hL : n < 2 * L) : Loc m S (nxS m C B (cf m (nth C) (nth S) n)) L (upS m B) (n + 1) := by
  obtain ⟨F, g, d, hb, hB⟩ := l.bm
  refine ⟨⟨F, g + 1, d, by rw [l.upd h hb hB]; exact hb.turn h hS hL, fun i => ?_⟩, els_nxS h l.elc _, tm_els h _ _, nxS_len l.lnc l.lnb, by have := up_len m B; have := l.lnb; unfold upS; omega, by have := l.len; omega⟩
  rw [upS, nth_up h l.elb]
  by_cases a : g + 1 ≤ i
  · rw [if_pos (by omega), if_pos a, hB, if_pos (by omega), show i - 1 - g = i - (g + 1) by omega]
  · rw [if_neg a]
    by_cases c : 1 ≤ i
    · rw [if_pos c, hB, if_neg (by omega)]
    · rw [if_neg c]
/-- The other polynomial where the recurrence grows. -/
def grS (m : Nat) (C : List Nat) (q : Nat) : List Nat := tmS m (rowS m (ints C)) (rowS m (ints [invS m q]))
theorem Loc.grow {m : Nat} (h : Em m) {S C B : List Nat} {L n : Nat} (hS : Els m S) (l : Loc m S C L B n) (h0 : cf m (nth C) (nth S) n ≠ 0) (hL : 2 * L ≤ n) : Loc m S (nxS m C B (cf m (nth C) (nth S) n)) (n + 1 - L) (upS m (grS m C (cf m (nth C) (nth S) n))) (n + 1) := by
  obtain ⟨F, g, d, hb, hB⟩ := l.bm
  refine ⟨⟨nth C, 1, cf m (nth C) (nth S) n, by rw [l.upd h hb hB]; exact hb.grow h hS h0 hL, fun i => ?_⟩, els_nxS h l.elc _, tm_els h _ _, nxS_len l.lnc l.lnb, by have := up_len m (grS m C (cf m (nth C) (nth S) n)); have := scale_len m C (invS m (cf m (nth C) (nth S) n)); have := l.lnc; unfold upS; unfold grS at *; omega, by have := l.len; omega⟩
  rw [upS, nth_up h (show Els m (grS m C (cf m (nth C) (nth S) n)) from tm_els h _ _)]
  by_cases a : 1 ≤ i
  · rw [if_pos a, if_pos a, grS, nth_scale h l.elc (inv_le h _), mul_comm]
  · rw [if_neg a, if_neg a]
theorem cf_congr {m n : Nat} {C s s' : Nat → Nat} (e : ∀ i, i ≤ n → s i = s' i) : cf m C s n = cf m C s' n := by
  unfold cf
  exact sm_congr fun i hi => by rw [e (n - i) (by omega)]
theorem rec_congr {m L n : Nat} {C s s' : Nat → Nat} (e : ∀ i, i < n → s i = s' i) (h : Rec m s C L n) : Rec m s' C L n :=
  ⟨h.els, h.one, h.top, fun j h1 h2 => by rw [← cf_congr fun i hi => e i (by omega)]; exact h.zero j h1 h2⟩
theorem Loc.is {m n L : Nat} {S C B : List Nat} (l : Loc m S C L B n) {s : Nat → Nat} (e : ∀ i, i < n → nth S i = s i) : Rec m s (nth C) L n ∧ ∀ D K, Rec m s D K n → L ≤ K := by
  obtain ⟨F, g, d, hb, _⟩ := l.bm
  exact ⟨rec_congr e hb.rec_, fun D K hD => hb.least D K (rec_congr (fun i hi => (e i hi).symm) hD)⟩
end Gf
end Go.Proofs.YtiojdoehlooibaaDoor
