/- Rest: what is left of a polynomial by another one. -/
import Derived.Test.YtiojdoehlooibaaDoorZAlg
import Derived.Deep.LoopGhost
import Derived.Deep.RegionWith
namespace Go.Proofs.YtiojdoehlooibaaDoor
open Go.RowKit
namespace Gf
theorem nth_put (r : List Nat) (k v j : Nat) (hk : k < r.length) : nth (put r k v) j = if j = k then nth r k ^^^ v else nth r j := by
  unfold put nth
  rw [List.getD_eq_getElem?_getD, List.getElem?_set]
  by_cases h : j = k
  · subst h; simp [hk]
  · rw [if_neg (fun e => h e.symm), if_neg h]; simp
theorem nth_inner (m a : Nat) (q : List Nat) (i : Nat) (r : List Nat) (j k : Nat) (hj : i + j ≤ r.length) : nth (inner m a q i r j) k = nth r k ^^^ (if i ≤ k ∧ k < i + j then mul m a (nth q (k - i)) else 0) := by
  induction j with
  | zero => rw [inner, if_neg (by omega), Nat.xor_zero]
  | succ j ih =>
    rw [inner, nth_put _ _ _ _ (by rw [inner_len]; omega), ih (by omega)]
    by_cases h : k = i + j
    · subst h
      rw [ih (by omega), if_pos rfl, if_neg (by omega), if_pos (by omega), Nat.xor_zero, Nat.add_sub_cancel_left]
    · rw [if_neg h]
      by_cases h2 : i ≤ k ∧ k < i + j
      · rw [if_pos h2, if_pos (by omega)]
      · rw [if_neg h2, if_neg (by omega)]
theorem nth_over (l : List Nat) {k : Nat} (h : l.length ≤ k) : nth l k = 0 := by simp [nth, h]
theorem trimN_last (l : List Nat) (h : trimN l ≠ []) : nth (trimN l) ((trimN l).length - 1) ≠ 0 := by
  have h1 : l.reverse.dropWhile (· == 0) ≠ [] := fun e => h (by unfold trimN; rw [e]; rfl)
  have h2 := List.head_dropWhile_not (· == 0) h1
  unfold trimN
  rw [nth, List.getD_eq_getElem?_getD, ← List.getLast?_eq_getElem?, List.getLast?_reverse, List.head?_eq_some_head h1]
  simpa using h2
theorem trimN_shrinks {l : List Nat} (h0 : 0 < l.length) (h : nth l (l.length - 1) = 0) : (trimN l).length < l.length := by
  have e : l = l.take (l.length - 1 + 1) := by rw [Nat.sub_add_cancel h0, List.take_length]
  have h1 := trim_zero (l := l) (k := l.length - 1) (by omega) h
  rw [← e] at h1
  rw [h1]
  have := trimN_len (l.take (l.length - 1))
  simp at this
  omega
/-- One step of the division. -/
def restStep (m : Nat) (Q P : List Nat) : List Nat := inner m (mul m (nth P (P.length - 1)) (invS m (nth Q (Q.length - 1)))) Q (P.length - Q.length) P Q.length
def restGo (m : Nat) (Q : List Nat) : Nat → List Nat → List Nat
  | 0, P => P
  | f + 1, P => if P.length < Q.length then P else restGo m Q f (trimN (restStep m Q P))
/-- What is left. -/
def restS (m : Nat) (P Q : List Nat) : List Nat := if Q = [] then [] else restGo m Q P.length P
theorem restStep_len (m : Nat) (Q P : List Nat) : (restStep m Q P).length = P.length := inner_len _ _ _ _ _ _
theorem restStep_els {m : Nat} (h : Em m) (Q : List Nat) {P : List Nat} (hP : Els m P) : Els m (restStep m Q P) := hP.inner h _ _ _ _
theorem els_trim {m : Nat} {l : List Nat} (h : Els m l) : Els m (trimN l) := by
  intro k
  by_cases hk : k < (trimN l).length
  · rw [trimN_nth l hk]; exact h k
  · rw [nth_over _ (by omega)]; exact Nat.zero_le _
theorem restStep_last {m : Nat} (h : Em m) {Q P : List Nat} (hQ : Els m Q) (hP : Els m P) (hl : nth Q (Q.length - 1) ≠ 0) (hq : 0 < Q.length) (hpq : Q.length ≤ P.length) : nth (restStep m Q P) (P.length - 1) = 0 := by
  unfold restStep
  rw [nth_inner _ _ _ _ _ _ _ (by omega), if_pos (by omega), show P.length - 1 - (P.length - Q.length) = Q.length - 1 by omega]
  rw [mul_assoc h (hP _) (inv_le h _) (hQ _), mul_comm m (invS m _), inv_mul h hl (hQ _), mul_one h (hP _), Nat.xor_self]
theorem rest_shrinks {m : Nat} (h : Em m) {Q P : List Nat} (hQ : Els m Q) (hP : Els m P) (hl : nth Q (Q.length - 1) ≠ 0) (hq : 0 < Q.length) (hpq : Q.length ≤ P.length) : (trimN (restStep m Q P)).length < P.length := by
  have := trimN_shrinks (l := restStep m Q P) (by rw [restStep_len]; omega) (by rw [restStep_len]; exact restStep_last h hQ hP hl hq hpq)
  rwa [restStep_len] at this
/-- What holds while it is divided. -/
structure RsRel (b m : Nat) (w0 wr : World) (g1 g2 : Nat) (R : List Nat) (T B : List Value) : Prop where
  own1 : Own b wr g1 (vals R ++ T)
  own2 : Own b wr g2 B
  fld : Fld wr b m
  since : Since b w0 wr
  els : Els m R
theorem RsRel.step {b m : Nat} {w0 wr w' : World} {g1 g2 : Nat} {R : List Nat} {T B : List Value} (h : RsRel b m w0 wr g1 g2 R T B) (hF : Fld w' b m) (hs : Step b wr w') : RsRel b m w0 w' g1 g2 R T B :=
  ⟨h.own1.step hs, h.own2.step hs, hF, h.since.step hs, h.els⟩
theorem RsRel.cell {b m : Nat} {w0 wr : World} {g1 g2 : Nat} {R : List Nat} {T B : List Value} (h : RsRel b m w0 wr g1 g2 R T B) {k : Nat} (hk : k < R.length) : wr.cell? ⟨g1, k, none⟩ = some (num (nth R k : Nat)) := by
  rw [h.own1.cell, List.getElem?_append_left (by rw [vals_len]; exact hk), vals_at hk]
theorem RsRel.store {b m : Nat} {w0 wr : World} {g1 g2 : Nat} {R : List Nat} {T B : List Value} (h : RsRel b m w0 wr g1 g2 R T B) (h1 : w0.heap.size ≤ g1) (h12 : g2 ≠ g1) (k v : Nat) (hk : k < R.length) (hv : v ≤ sz m) :
    RsRel b m w0 (wr.setCell ⟨g1, k, none⟩ (num (nth R k ^^^ v : Nat))) g1 g2 (put R k v) T B :=
  ⟨by
    have := h.own1.store k (num (nth R k ^^^ v : Nat))
    rw [List.set_append_left _ _ (by rw [vals_len]; exact hk), vals_set] at this
    exact this, h.own2.other h12 h.own1.free.1 _ _, h.fld.store h.own1.free _ _, h.since.store h1 h.own1.free.1 _ _, h.els.put k hv⟩
theorem RsRel.trim {b m : Nat} {w0 wr : World} {g1 g2 : Nat} {R : List Nat} {T B : List Value} (h : RsRel b m w0 wr g1 g2 R T B) : RsRel b m w0 wr g1 g2 (trimN R) (vals (R.drop (trimN R).length) ++ T) B := by
  refine ⟨?_, h.own2, h.fld, h.since, els_trim h.els⟩
  have e : R = trimN R ++ R.drop (trimN R).length := by
    obtain ⟨n, hn, e⟩ := trimN_prefix R
    have hl : (trimN R).length = n := by rw [e]; simp; omega
    rw [hl]
    conv => lhs; rw [← List.take_append_drop n R]
    rw [e]
  have h2 : vals (trimN R) ++ (vals (R.drop (trimN R).length) ++ T) = vals R ++ T := by
    rw [← List.append_assoc]
    congr 1
    unfold vals
    rw [← List.map_append, ← e]
  rw [h2]; exact h.own1
theorem restGo_done (m : Nat) (Q : List Nat) (f : Nat) (P : List Nat) (h : P.length < Q.length) : restGo m Q f P = P := by
  cases f with
  | zero => rfl
  | succ f => rw [restGo, if_pos h]
theorem vals_split {m : Nat} {xs : List Int} : vals (xs.map (el m)) = vals (rowS m xs) ++ vals ((xs.map (el m)).drop (rowS m xs).length) := by
  unfold rowS
  obtain ⟨n, hn, e⟩ := trimN_prefix (xs.map (el m))
  have hl : (trimN (xs.map (el m))).length = n := by rw [e]; simp; simp at hn; omega
  rw [hl]
  unfold vals
  rw [← List.map_append]
  congr 1
  conv => lhs; rw [← List.take_append_drop n (xs.map (el m))]
  rw [e]
end Gf
end Go.Proofs.YtiojdoehlooibaaDoor
