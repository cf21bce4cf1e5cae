/- Layer 10 (lru): what calls do to rows, plainly. -/
import Derived.Test.YtlgomaohfhgkpaaLk
namespace Go.Proofs.Ytlgomaohfhgkpaa
open Go.RowKit Go.Maps
namespace Lr
theorem rest_len (L : List Ent) (k : Int) : (rest L k).length ≤ L.length := List.length_filter_le _ _
theorem rest_not (L : List Ent) (k : Int) : ∀ x ∈ rest L k, x.key ≠ k := fun x hx => by
  have := (List.mem_filter.1 hx).2
  simpa using this
theorem look_rest (L : List Ent) (k : Int) : look (rest L k) k = none := look_none (rest_not L k)
theorem rest_lt {L : List Ent} {k : Int} (h : (look L k).isSome = true) : (rest L k).length < L.length := by
  unfold look at h
  rw [List.find?_isSome] at h
  obtain ⟨x, hx, h2⟩ := h
  unfold rest
  refine Nat.lt_of_le_of_ne (List.length_filter_le _ _) fun e => ?_
  have := List.length_filter_eq_length_iff.1 e x hx
  rw [h2] at this
  cases this
theorem roomL_lt {most : Int} {L : List Ent} (h1 : 1 ≤ most) (h : (L.length : Int) ≤ most) : ((roomL most L).length : Int) < most := by
  unfold roomL
  split
  · assumption
  · rw [List.length_dropLast]; omega
/-- What was put is the first one; behind it stands no more than did before. -/
theorem putL_first (most : Int) (x : Ent) (L : List Ent) : ∃ (d : Bool) (T : List Ent), putL most x L = ⟨x.key, x.val, d⟩ :: T ∧ (x.dirty = true → d = true) ∧ T.length ≤ L.length ∧ (1 ≤ most → (L.length : Int) ≤ most → (T.length : Int) < most) := by
  unfold putL
  cases h : look L x.key with
  | some y =>
    refine ⟨_, _, rfl, fun hd => by simp [hd], rest_len _ _, fun h1 h2 => ?_⟩
    have := rest_lt (L := L) (k := x.key) (by rw [h]; rfl)
    omega
  | none => exact ⟨x.dirty, _, rfl, fun h => h, roomL_len, fun h1 h2 => roomL_lt h1 h2⟩
theorem look_head {x : Ent} {T : List Ent} : look (x :: T) x.key = some x := by simp [look]
theorem rest_head {x : Ent} {T : List Ent} : rest (x :: T) x.key = rest T x.key := by simp [rest]
theorem putL_len {most : Int} {x : Ent} {L : List Ent} (h1 : 1 ≤ most) (h : (L.length : Int) ≤ most) : ((putL most x L).length : Int) ≤ most ∧ (putL most x L).length ≤ L.length + 1 := by
  obtain ⟨d, T, e, _, h2, h3⟩ := putL_first most x L
  have := h3 h1 h
  rw [e, List.length_cons]
  omega
theorem getL_len (L : List Ent) (k : Int) : (getL L k).length ≤ L.length := by
  cases h : look L k with
  | none => rw [getL_none h]; exact Nat.le_refl _
  | some x =>
    rw [getL_some h, List.length_cons]
    exact rest_lt (by rw [h]; rfl)
end Lr
end Go.Proofs.Ytlgomaohfhgkpaa
