/- Layer 6 (stripe): a row of leaves made and set; what is missing is the sum of the others. -/
import Derived.Test.YtjokedggmhiklaaSy
namespace Go.Proofs.Ytjokedggmhiklaa
open Go.RowKit Go.Maps
namespace Sp
theorem flat_set2 {n j : Nat} {s b : Nat → Value} (hj : j < n) (x y : Value) : ((flat n (twoE s b)).set (j * 2) x).set (j * 2 + 1) y = flat n (twoE (fun i => if i = j then x else s i) (fun i => if i = j then y else b i)) := by
  have l1 : (flat n (twoE s b)).length = n * 2 := flat_len n fun _ _ => rfl
  have l2 : (flat n (twoE (fun i => if i = j then x else s i) (fun i => if i = j then y else b i))).length = n * 2 := flat_len n fun _ _ => rfl
  apply List.ext_getElem?
  intro i
  by_cases hi : i < n * 2
  · obtain ⟨q, r, rfl, hr⟩ : ∃ q r, i = q * 2 + r ∧ r < 2 := ⟨i / 2, i % 2, by omega, by omega⟩
    have hq : q < n := by omega
    rw [flat_at (sz := 2) (fun _ _ => rfl) hq hr, List.getElem?_set, List.getElem?_set, flat_at (sz := 2) (fun _ _ => rfl) hq hr]
    have hr2 : r = 0 ∨ r = 1 := by omega
    by_cases e : q = j
    · subst e
      rcases hr2 with rfl | rfl
      · simp [twoE, l1]; omega
      · simp [twoE, l1]; omega
    · rcases hr2 with rfl | rfl
      · rw [if_neg (by omega), if_neg (by omega)]; simp [twoE, e]
      · rw [if_neg (by omega), if_neg (by omega)]; simp [twoE, e]
  · rw [List.getElem?_eq_none (by simp [l1]; omega), List.getElem?_eq_none (by rw [l2]; omega)]
theorem flat_nil : ∀ n : Nat, flat n (twoE (fun _ => nilS) fun _ => nilS) = List.replicate (n * 2) nilS
  | 0 => rfl
  | n + 1 => by
    rw [flat_succ, flat_nil n, Nat.succ_mul]
    show _ ++ List.replicate 2 nilS = _
    rw [List.replicate_append_replicate]
theorem made_nil (m : Nat) : (madeCells #[nilS, nilS] m).toList = List.replicate m nilS := by
  apply List.ext_getElem (by simp [madeCells])
  intro i h1 h2
  have : i % 2 = 0 ∨ i % 2 = 1 := by omega
  rcases this with e | e <;> simp [madeCells, e]
theorem make_leaves (n : Nat) (hn : n ≤ 1000) (w : World) : (Instr.makeSlice 28 (num (n : Int)) (num (n : Int))).run Try.prog w = .ok (.slice (some ⟨w.heap.size, 0, none⟩) n n) (w.alloc (.cells (flat n (twoE (fun _ => nilS) fun _ => nilS)).toArray 32)) := by
  obtain ⟨i0, hi, hz0, hz1, hz2⟩ := info_parts info32
  have hr := run_make (P := Try.prog) w 28 32 i0 (.agg #[nilS, nilS]) Try.underlying28 hi hz0 .i64 .i64 n n (by omega) (Int.le_refl _) (by rw [hz2]; omega) (by omega)
  simp only [Int.toNat_natCast, hz1] at hr
  have e1 : madeCells (Value.agg #[nilS, nilS]).cells (n * 2) = (flat n (twoE (fun _ => nilS) fun _ => nilS)).toArray := by
    apply Array.toList_inj.1
    rw [flat_nil]
    exact made_nil (n * 2)
  rw [e1] at hr
  exact hr
/-- A row of leaves, as it lies. -/
def RowA (w : World) (ga n : Nat) (s b : Nat → Value) : Prop := w.heap[ga]? = some (.cells (flat n (twoE s b)).toArray 32)
theorem RowA.set {w : World} {ga n j : Nat} {s b : Nat → Value} (h : RowA w ga n s b) (hj : j < n) (x y : Value) : RowA ((w.setCell ⟨ga, j * 2, none⟩ x).setCell ⟨ga, j * 2 + 1, none⟩ y) ga n (fun i => if i = j then x else s i) (fun i => if i = j then y else b i) := by
  have := setCell_row (i := j * 2 + 1) (setCell_row (i := j * 2) h x) y
  rwa [flat_set2 hj] at this
theorem RowA.at {w : World} {ga n j : Nat} {s b : Nat → Value} (h : RowA w ga n s b) (hj : j < n) : w.cell? ⟨ga, j * 2, none⟩ = some (s j) ∧ w.cell? ⟨ga, j * 2 + 1, none⟩ = some (b j) ∧ w.frozen? ⟨ga, j * 2, none⟩ = false ∧ w.frozen? ⟨ga, j * 2 + 1, none⟩ = false :=
  ⟨cell_at h (by rw [List.getElem?_toArray]; exact flat_at (sz := 2) (j := 0) (fun _ _ => rfl) hj (by omega)), cell_at h (by rw [List.getElem?_toArray]; exact flat_at (sz := 2) (j := 1) (fun _ _ => rfl) hj (by omega)), free_at h, free_at h⟩
theorem RowA.same {w w' : World} {ga n : Nat} {s b : Nat → Value} (h : RowA w ga n s b) (e : w'.heap[ga]? = w.heap[ga]?) : RowA w' ga n s b := e.trans h
theorem RowA.lt {w : World} {ga n : Nat} {s b : Nat → Value} (h : RowA w ga n s b) : ga < w.heap.size := lt_of_heap h
theorem RowA.leaves {w : World} {ga n : Nat} {s b : Nat → Value} {Z : Nat → Leaf} (h : RowA w ga n s b) (hn : n ≤ 1000) (hl : ∀ j, j < n → LeafM w All (s j) (b j) (Z j)) : LeavesM w All (.slice (some ⟨ga, 0, none⟩) n n) n Z :=
  ⟨_, n, rfl, Nat.le_refl _, by omega, .inr ⟨ga, 0, rfl, trivial, fun i hi => by
    obtain ⟨a1, a2, _⟩ := h.at hi
    exact ⟨_, _, by rw [Nat.zero_add]; exact a1, by rw [Nat.zero_add]; exact a2, hl i hi⟩⟩⟩
/-! ### The missing one -/
theorem xorN_skip (F : Nat → Nat) (m : Nat) : ∀ n, m ≤ n → xorN (n + 1) F = xorN n (fun a => F (if a < m then a else a + 1)) ^^^ F m
  | 0, h => by
    obtain rfl : m = 0 := by omega
    simp [xorN]
  | n + 1, h => by
    by_cases e : m = n + 1
    · subst e
      rw [xorN]
      congr 1
      exact xorN_congr _ fun a ha => by rw [if_pos ha]
    · rw [xorN, xorN_skip F m n (by omega), xorN, if_neg (by omega), Nat.xor_assoc, Nat.xor_assoc, Nat.xor_comm (F m)]
/-- The row with its parity at the place p. -/
def rowZ (S N n p : Nat) (X : Nat → Leaf) (j : Nat) : Leaf := if j = p then sumS S N n X else if j < p then X j else X (j - 1)
theorem rowZ_zero {S N n p m : Nat} {X : Nat → Leaf} (hp : p ≤ n) (hm : m ≤ n) (f : Leaf → Nat) (hf : f (sumS S N n X) = xorN n fun a => f (X a)) : (xorN n fun a => f (rowZ S N n p X (if a < m then a else a + 1))) = f (rowZ S N n p X m) := by
  have h1 := xorN_skip (fun j => f (rowZ S N n p X j)) p n hp
  have h2 := xorN_skip (fun j => f (rowZ S N n p X j)) m n hm
  have e1 : (xorN n fun a => f (rowZ S N n p X (if a < p then a else a + 1))) = xorN n fun a => f (X a) := xorN_congr n fun a _ => by
    by_cases e : a < p
    · rw [if_pos e]; simp [rowZ, e, show a ≠ p by omega]
    · rw [if_neg e]; simp [rowZ, show a + 1 ≠ p by omega, show ¬ a + 1 < p by omega]
  have e2 : f (rowZ S N n p X p) = xorN n fun a => f (X a) := by simp [rowZ, hf]
  rw [e1, e2, Nat.xor_self] at h1
  rw [h1] at h2
  have h3 := congrArg (· ^^^ f (rowZ S N n p X m)) h2
  simp only [Nat.zero_xor, Nat.xor_assoc, Nat.xor_self, Nat.xor_zero] at h3
  exact h3.symm
theorem rowZ_may {S N n p : Nat} {X : Nat → Leaf} (hm : ∀ a, a < n → May S N (X a)) (hs : May S N (sumS S N n X)) (hp : p ≤ n) (hl : ∀ a, a < n → ∀ i, i < N → ((X a).sec i).length = S) : ∀ j, j < n + 1 → May S N (rowZ S N n p X j) ∧ ∀ i, i < N → ((rowZ S N n p X j).sec i).length = S := fun j hj => by
  unfold rowZ
  by_cases e : j = p
  · rw [if_pos e]; exact ⟨hs, fun i _ => sumSec_len _ _ _ _⟩
  · rw [if_neg e]
    by_cases e2 : j < p
    · rw [if_pos e2]; exact ⟨hm j (by omega), hl j (by omega)⟩
    · rw [if_neg e2]; exact ⟨hm (j - 1) (by omega), hl (j - 1) (by omega)⟩
/-- What Mend finds is what was there. -/
theorem mend_eq {S N n p m : Nat} {X Z : Nat → Leaf} (hS : 1 ≤ S) (hp : p ≤ n) (hm : m ≤ n) (hr : ∀ j, j < n + 1 → May S N (rowZ S N n p X j) ∧ ∀ i, i < N → ((rowZ S N n p X j).sec i).length = S) (hZ : ∀ j, j < n + 1 → j ≠ m → Z j = rowZ S N n p X j) : LeafEq (sumS S N n (others Z m)) (rowZ S N n p X m) := by
  have ho : ∀ f : Leaf → Nat, f (sumS S N n X) = (xorN n fun a => f (X a)) → (xorN n fun a => f (others Z m a)) = f (rowZ S N n p X m) := fun f hf => by
    rw [← rowZ_zero hp hm f hf]
    refine xorN_congr n fun a ha => ?_
    unfold others
    by_cases e : a < m
    · rw [if_pos e, if_pos e, hZ a (by omega) (by omega)]
    · rw [if_neg e, if_neg e, hZ (a + 1) (by omega) (by omega)]
  obtain ⟨hmay, hlen⟩ := hr m (by omega)
  refine ⟨by have := hmay.n; show N = _; omega, by have := hmay.m; show N = _; omega, fun i hi => ?_, fun i hi => ?_⟩
  · have hi' : i < (rowZ S N n p X m).n := by have := hmay.n; have e : (sumS S N n (others Z m)).n = N := rfl; omega
    show sumSlot n (others Z m) i = _
    unfold sumSlot
    rw [ho (fun x => (x.slot i).key) rfl, ho (fun x => (x.slot i).state.toNat) (by show Int.toNat _ = _; exact Int.toNat_natCast _), ho (fun x => (x.slot i).seq) rfl]
    have h0 := (hmay.slot i hi').lo
    generalize (rowZ S N n p X m).slot i = sl at h0
    obtain ⟨a, b, c⟩ := sl
    simp only at h0 ⊢
    congr 1
    omega
  · have hiN : i < N := hi
    refine ⟨?_, by show 1 ≤ (sumSec S n (others Z m) i).length; rw [sumSec_len]; exact hS⟩
    show sumSec S n (others Z m) i = _
    apply List.ext_getElem (by rw [sumSec_len, hlen i hiN])
    intro j h1 h2
    have hj : j < S := by rw [sumSec_len] at h1; exact h1
    have := ho (fun x => nth (x.sec i) j) (nth_sumSec hj)
    simp only [sumSec, List.getElem_map, List.getElem_range]
    rw [this, nth_of h2]
end Sp
end Go.Proofs.Ytjokedggmhiklaa
