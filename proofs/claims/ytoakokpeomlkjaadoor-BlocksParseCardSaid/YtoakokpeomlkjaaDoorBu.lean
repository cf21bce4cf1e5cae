/- Layer 7 (blocks): Parse, of a pool's bytes. -/
import Derived.Test.YtoakokpeomlkjaaDoorBt
namespace Go.Proofs.YtoakokpeomlkjaaDoor
open Go.RowKit Go.Maps Go.Shelf
namespace Bk
open Cr (valsB RdB OwnB Glob)
attribute [local go_sem] Oper.semAt_some
/-- Where a block's bytes lie. -/
theorem blkB_at (x : Blk) : blkB x = x.st.toNat :: Cr.le4 x.er := rfl
theorem flat_at {m : Nat} (r : Nat → Blk) : ∀ (l : List (Fin m)) (j i : Nat) (hj : j < l.length), i < 5 → Cr.nth (dieB r l) (5 * j + i) = Cr.nth (blkB (r (l[j]'hj).1)) i
  | z :: l, 0, i, _, hi => by
    have e : dieB r (z :: l) = blkB (r z.1) ++ dieB r l := by simp [dieB]
    have h5 : i < (blkB (r z.1)).length := by simp [blkB]; omega
    rw [e]
    simp only [Cr.nth, List.getElem_cons_zero, Nat.mul_zero, Nat.zero_add, List.getD_eq_getElem?_getD]
    rw [List.getElem?_append_left h5]
  | z :: l, j + 1, i, hj, hi => by
    have e : dieB r (z :: l) = blkB (r z.1) ++ dieB r l := by simp [dieB]
    have h5 : (blkB (r z.1)).length = 5 := by simp [blkB]
    have := flat_at r l j i (by simpa using hj) hi
    rw [e]
    simp only [Cr.nth, List.getElem_cons_succ, List.getD_eq_getElem?_getD] at this ⊢
    rw [List.getElem?_append_right (by omega), h5, show 5 * (j + 1) + i - 5 = 5 * j + i by omega]
    exact this
theorem poolB_at {f : Pool} {n m : Nat} : ∀ (K k j i : Nat), k < K → j < m → i < 5 → Cr.nth (poolB f n m K) (2 + k * (5 * m) + (5 * j + i)) = Cr.nth (blkB (f k j)) i
  | 0, k, _, _, hk, _, _ => by omega
  | K + 1, k, j, i, hk, hj, hi => by
    rw [poolB_succ]
    have hl := poolB_len f n m K
    by_cases e : k = K
    · subst e
      have h1 := flat_at (f k) (List.finRange m) j i (by simpa using hj) hi
      simp only [List.getElem_finRange] at h1
      have h2 : Cr.nth (poolB f n m k ++ dieB (f k) (List.finRange m)) (2 + k * (5 * m) + (5 * j + i)) = Cr.nth (dieB (f k) (List.finRange m)) (5 * j + i) := by
        simp only [Cr.nth, List.getD_eq_getElem?_getD]
        rw [List.getElem?_append_right (by omega), hl, show 2 + k * (5 * m) + (5 * j + i) - (2 + k * (5 * m)) = 5 * j + i by omega]
      rw [h2, h1]
      rfl
    · have h1 := poolB_at (f := f) (n := n) K k j i (by omega) hj hi
      have h3 : (k + 1) * (5 * m) ≤ K * (5 * m) := Nat.mul_le_mul_right _ (by omega)
      rw [Nat.add_mul, Nat.one_mul] at h3
      have h2 : Cr.nth (poolB f n m K ++ dieB (f K) (List.finRange m)) (2 + k * (5 * m) + (5 * j + i)) = Cr.nth (poolB f n m K) (2 + k * (5 * m) + (5 * j + i)) := by
        simp only [Cr.nth, List.getD_eq_getElem?_getD]
        rw [List.getElem?_append_left (by omega)]
      rw [h2, h1]
/-- A die's blocks are laid one behind the other: those of r, onto the blocks that came. -/
def put (k : Nat) (r : Nat → Blk) {m : Nat} : Pool → Nat → List (Fin m) → Pool
  | g, _, [] => g
  | g, i, x :: l => put k r (upd g k x.1 (r i)) (i + 1) l
theorem put_snoc {k : Nat} {r : Nat → Blk} {m : Nat} : ∀ (l : List (Fin m)) (g : Pool) (i : Nat) (x : Fin m), put k r g i (l ++ [x]) = upd (put k r g i l) k x.1 (r (i + l.length))
  | [], _, _, _ => rfl
  | z :: l, g, i, x => by
    show put k r (upd g k z.1 (r i)) (i + 1) (l ++ [x]) = _
    rw [put_snoc l]
    show upd _ _ _ (r (i + 1 + l.length)) = upd _ _ _ (r (i + (l.length + 1)))
    rw [show i + 1 + l.length = i + (l.length + 1) by omega]
    rfl
theorem put_off {k : Nat} {r : Nat → Blk} {m : Nat} : ∀ (l : List (Fin m)) (g : Pool) (i a b : Nat), a ≠ k → put k r g i l a b = g a b
  | [], _, _, _, _, _ => rfl
  | z :: l, g, i, a, b, h => by
    show put k r (upd g k z.1 (r i)) (i + 1) l a b = _
    rw [put_off l _ _ _ _ h, upd_other _ (fun e => h e.1)]
theorem put_ups {k : Nat} {r : Nat → Blk} {m : Nat} (g : Pool) : ∀ j, j ≤ m → ∀ b, b < j → put k r g 0 (ups m j) k b = r b
  | 0, _, b, hb => by omega
  | j + 1, hj, b, hb => by
    rw [ups_succ (by omega), put_snoc, ups_len (by omega), Nat.zero_add]
    by_cases e : b = j
    · subst e; exact upd_same _ _ _ _
    · rw [upd_other _ (fun x => e x.2)]
      exact put_ups g j (by omega) b (by omega)
/-- The pool whose first k dies are f's. -/
def upTo (f : Pool) : Nat → Nat → Pool → Pool
  | 0, _, g => g
  | k + 1, m, g => put k (f k) (upTo f k m g) 0 (List.finRange m)
theorem upTo_at {f g : Pool} {m : Nat} : ∀ K i b, i < K → b < m → upTo f K m g i b = f i b
  | 0, i, _, hi, _ => by omega
  | K + 1, i, b, hi, hb => by
    show put K (f K) (upTo f K m g) 0 (List.finRange m) i b = _
    by_cases e : i = K
    · subst e; rw [← ups_all]; exact put_ups _ m (Nat.le_refl _) b hb
    · rw [put_off _ _ _ _ _ e]; exact upTo_at K i b (by omega) hb
end Bk
end Go.Proofs.YtoakokpeomlkjaaDoor
