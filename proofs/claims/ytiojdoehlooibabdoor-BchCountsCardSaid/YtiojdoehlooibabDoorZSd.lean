/- The document's own answers of layer 2 (bch): what is left of bits by the generator. -/
import Derived.Test.YtiojdoehlooibabDoorZPb
import Derived.Deep.RegionWith
namespace Go.Proofs.YtiojdoehlooibabDoor
open Go.RowKit
namespace Gf
/-- Numbers that can be read. -/
def RdN (w : World) (ao : Option Addr) (l : List Nat) : Prop :=
  l = [] ∨ ∃ g off, ao = some ⟨g, off, none⟩ ∧ ∀ i, i < l.length → w.cell? ⟨g, off + i, none⟩ = some (num (nth l i : Nat))
theorem RdN.more {w w' : World} {ao : Option Addr} {l : List Nat} (h : RdN w ao l) (hg : w.grownBy w' none) : RdN w' ao l := by
  rcases h with h | ⟨g, off, h1, h3⟩
  · exact .inl h
  · refine .inr ⟨g, off, h1, fun i hi => ?_⟩
    rw [World.cell?_of_block (w := w) (a := ⟨g, off + i, none⟩) (hg.block g (lt_of_cell (h3 i hi)) (by simp))]
    exact h3 i hi
/-- A row of one's own in a block g that came since, with more behind it. -/
structure OwnN (w wr : World) (g : Nat) (S : List Nat) (T : List Value) : Prop where
  at_ : wr.heap[g]? = some (.cells (vals S ++ T).toArray 3)
  new : w.heap.size ≤ g
  grown : w.grownBy wr none
theorem OwnN.cell {w wr : World} {g : Nat} {S : List Nat} {T : List Value} (h : OwnN w wr g S T) {k : Nat} (hk : k < S.length) : wr.cell? ⟨g, k, none⟩ = some (num (nth S k : Nat)) := by
  rw [cell_row h.at_, List.getElem?_append_left (by rw [vals_len]; exact hk), vals_at hk]
theorem OwnN.store {w wr : World} {g : Nat} {S : List Nat} {T : List Value} (h : OwnN w wr g S T) (k v : Nat) (hk : k < S.length) : OwnN w (wr.setCell ⟨g, k, none⟩ (num (nth S k ^^^ v : Nat))) g (put S k v) T :=
  ⟨by
    have := setCell_row (i := k) h.at_ (num (nth S k ^^^ v : Nat))
    rw [List.set_append_left _ _ (by rw [vals_len]; exact hk), vals_set] at this
    exact this, h.new, grownBy_setCell h.grown (.inl h.new) _⟩
theorem OwnN.drew {w wr : World} {g : Nat} {S : List Nat} {T : List Value} (h : OwnN w wr g S T) : OwnN w wr.drew g S T := ⟨h.at_, h.new, grownBy_drew h.grown⟩
theorem ret_slice2 {a : Option Addr} {l l' c c' : Nat} (h : l = l') (h' : c = c') : Ending.returned (.slice a l c) = .returned (.slice a l' c') := by rw [h, h']
theorem addr_add' (g off i : Nat) : (⟨g, off, none⟩ : Addr).add i = ⟨g, off + i, none⟩ := by unfold Addr.add; split <;> simp_all
end Gf
end Go.Proofs.YtiojdoehlooibabDoor
