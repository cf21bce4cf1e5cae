/- Layer 8 (record): records in a row, plainly. -/
import Derived.Test.YtfmkmfjmhpgglaaDoorRo
namespace Go.Proofs.YtfmkmfjmhpgglaaDoor
open Go.RowKit
namespace Rc
open Cr
theorem parE_pre {x y : List Nat} (h : x.length = 37) : parE (x ++ y) = parE x ∧ parR (x ++ y) = parR x := by
  have e1 : (x ++ y).take 33 = x.take 33 := List.take_append_of_le_length (by omega)
  have e2 : ((x ++ y).drop 33).take 4 = (x.drop 33).take 4 := by
    rw [List.drop_append_of_le_length (by omega), List.take_append_of_le_length (by simp; omega)]
  have hE : parE (x ++ y) = parE x := by
    unfold parE
    rw [e1, e2, if_neg (show ¬ (x ++ y).length < 37 by simp; omega), if_neg (show ¬ x.length < 37 by omega)]
  exact ⟨hE, by unfold parR; rw [hE, e1]⟩
def flat (rs : List Rec) : List Nat := rs.flatMap sealed
theorem flat_len (rs : List Rec) : (flat rs).length = 37 * rs.length := by
  induction rs with
  | nil => rfl
  | cons r rs ih => rw [show flat (r :: rs) = sealed r ++ flat rs by simp [flat], List.length_append, ih, sealed_len]; simp; omega
theorem flat_snoc (rs : List Rec) (r : Rec) : flat (rs ++ [r]) = flat rs ++ sealed r := by simp [flat]
theorem drop_flat : ∀ (rs : List Rec) (y : List Nat) (k : Nat), k < rs.length → ∃ z, (flat rs ++ y).drop (37 * k) = sealed (nthR rs k) ++ z
  | [], _, k, h => by simp at h
  | r :: rs, y, 0, _ => ⟨flat rs ++ y, by simp [flat, nthR]⟩
  | r :: rs, y, k + 1, h => by
    obtain ⟨z, hz⟩ := drop_flat rs y k (by simpa using h)
    refine ⟨z, ?_⟩
    have e : flat (r :: rs) ++ y = sealed r ++ (flat rs ++ y) := by simp [flat]
    rw [e, show 37 * (k + 1) = (sealed r).length + 37 * k by rw [sealed_len]; omega, ← List.drop_drop, List.drop_left]
    exact hz
theorem row_ok {rs : List Rec} {y : List Nat} (hf : ∀ i, i < rs.length → (nthR rs i).Fits ∧ MayR (nthR rs i)) (hup : ∀ i, i + 1 < rs.length → (nthR rs i).seq < (nthR rs (i + 1)).seq) (hy : parE y ≠ 0) :
    (∀ k, k < rs.length → Ok (flat rs ++ y) k) ∧ ¬ Ok (flat rs ++ y) rs.length ∧ recs (flat rs ++ y) rs.length = rs := by
  have at_ : ∀ k, k < rs.length → parE ((flat rs ++ y).drop (37 * k)) = 0 ∧ recK (flat rs ++ y) k = nthR rs k := fun k hk => by
    obtain ⟨z, hz⟩ := drop_flat rs y k hk
    have h1 := parE_pre (y := z) (sealed_len (nthR rs k))
    have h2 := parE_sealed (hf k hk).1 (hf k hk).2
    exact ⟨by rw [hz, h1.1, h2.1], by rw [recK, hz, h1.2, h2.2]⟩
  refine ⟨fun k hk => ⟨(at_ k hk).1, ?_⟩, fun h => ?_, ?_⟩
  · cases k with
    | zero => exact .inl rfl
    | succ k => exact .inr (by rw [Nat.add_sub_cancel, (at_ k (by omega)).2, (at_ (k + 1) hk).2]; exact hup k hk)
  · have h1 := h.1
    rw [← flat_len, List.drop_left] at h1
    exact hy h1
  · apply List.ext_getElem
    · simp [recs]
    · intro i h1 h2
      simp only [recs, List.getElem_map, List.getElem_range]
      rw [(at_ i h2).2]; simp [nthR, h2]
theorem nine_no (j : List Nat) : parE (9 :: j) ≠ 0 := by
  unfold parE
  split
  · decide
  · split
    · have : ¬ MayR (recOf ((9 :: j).take 33)) := fun h => by
        have h2 := h.2
        simp [recOf, nth] at h2
      rw [if_neg this]; decide
    · decide
end Rc
end Go.Proofs.YtfmkmfjmhpgglaaDoor
