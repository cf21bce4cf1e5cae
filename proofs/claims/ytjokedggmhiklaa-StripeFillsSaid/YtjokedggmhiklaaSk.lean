/- Layer 6 (stripe): rows that grow; what right makes. -/
import Derived.Test.YtjokedggmhiklaaSj
namespace Go.Proofs.Ytjokedggmhiklaa
open Go.RowKit Go.Maps
namespace Sp
/-! ### Rows that grow -/
def flat (n : Nat) (E : Nat → List Value) : List Value := (List.range n).flatMap E
theorem flat_zero (E : Nat → List Value) : flat 0 E = [] := rfl
theorem flat_succ (n : Nat) (E : Nat → List Value) : flat (n + 1) E = flat n E ++ E n := by simp [flat, List.range_succ]
theorem flat_len {sz : Nat} {E : Nat → List Value} : ∀ (n : Nat), (∀ k, k < n → (E k).length = sz) → (flat n E).length = n * sz
  | 0, _ => by simp [flat]
  | n + 1, h => by rw [flat_succ, List.length_append, flat_len n fun k hk => h k (by omega), h n (by omega), Nat.succ_mul]
theorem flat_at {sz : Nat} {E : Nat → List Value} : ∀ {n k j : Nat}, (∀ k, k < n → (E k).length = sz) → k < n → j < sz → (flat n E)[k * sz + j]? = (E k)[j]?
  | 0, _, _, _, hk, _ => by omega
  | n + 1, k, j, h, hk, hj => by
    have hl := flat_len n fun k hk => h k (by omega)
    rw [flat_succ]
    by_cases e : k = n
    · subst e
      rw [List.getElem?_append_right (by omega), hl]
      congr 1
      omega
    · have : k * sz + sz ≤ n * sz := by
        have := Nat.mul_le_mul_right sz (show k + 1 ≤ n by omega)
        rwa [Nat.succ_mul] at this
      rw [List.getElem?_append_left (by omega)]
      exact flat_at (fun k hk => h k (by omega)) (by omega) hj
theorem flat_congr {E E' : Nat → List Value} : ∀ (n : Nat), (∀ k, k < n → E k = E' k) → flat n E = flat n E'
  | 0, _ => rfl
  | n + 1, h => by rw [flat_succ, flat_succ, flat_congr n fun k hk => h k (by omega), h n (by omega)]
theorem own_parts {w : World} {B e sz n : Nat} {v : Value} {cs : List Value} (h : w.ownsRow B e sz v n cs) (hn : 1 ≤ n) : ∃ g cap cur, v = .slice (some ⟨g, 0, none⟩) n cap ∧ B ≤ g ∧ w.heap[g]? = some (.cells cur e (0, 0)) ∧ n ≤ cap ∧ cap ≤ maxLen ∧ ∀ i u, cs[i]? = some u → w.cell? ⟨g, i, none⟩ = some u := by
  rcases h.2 with ⟨_, h0⟩ | ⟨g, cap, cur, rfl, hg, hh, hle, hm, hcs, ht⟩
  · omega
  · refine ⟨g, cap, cur, rfl, hg, hh, hle, hm, fun i u hu => ?_⟩
    rw [← ht] at hu
    refine cell_at hh ?_
    rw [← Array.getElem?_toList]
    rw [List.getElem?_take] at hu
    split at hu
    · exact hu
    · cases hu
theorem own_len {w : World} {B e sz n : Nat} {v : Value} {cs : List Value} (h : w.ownsRow B e sz v n cs) : ∃ ao cap, v = .slice ao n cap ∧ n ≤ cap ∧ cap ≤ 9223372036854775807 := by
  rcases h.2 with ⟨rfl, rfl⟩ | ⟨g, cap, cur, rfl, hg, hh, hle, hm, hcs, ht⟩
  · exact ⟨none, 0, rfl, by omega, by omega⟩
  · exact ⟨_, cap, rfl, hle, by unfold maxLen at hm; omega⟩
theorem rows_of_own {w : World} {K : Nat → Prop} {B e sz n : Nat} {v : Value} {E : Nat → List Value} {X : Nat → Nat → Nat → Prop} (h : w.ownsRow B e sz v n (flat n E)) (hE : ∀ k, k < n → (E k).length = sz) (hK : ∀ g cur, B ≤ g → w.heap[g]? = some (.cells cur e (0, 0)) → K g)
    (hX : ∀ k g o, k < n → (∀ j u, j < sz → (E k)[j]? = some u → w.cell? ⟨g, o + j, none⟩ = some u) → X k g o) : Rows K v n sz X := by
  obtain ⟨ao, cap, rfl, h1, h2⟩ := own_len h
  refine ⟨ao, cap, rfl, h1, h2, ?_⟩
  by_cases hn : n = 0
  · exact .inl hn
  · obtain ⟨g, cap', cur, hv, hg, hh, _, _, hc⟩ := own_parts h (by omega)
    obtain ⟨rfl, -, -⟩ := Value.slice.inj hv
    exact .inr ⟨g, 0, rfl, hK g cur hg hh, fun k hk => hX k g _ hk fun j u hj hu => by
      rw [Nat.zero_add]
      exact hc _ u ((flat_at hE hk hj).trans hu)⟩
abbrev slotsE (f : Nat → Slot) (k : Nat) : List Value := [q32 (f k).key, num (f k).state, q64 (f k).seq]
abbrev oneE (u : Nat → Value) (k : Nat) : List Value := [u k]
abbrev twoE (s b : Nat → Value) (k : Nat) : List Value := [s k, b k]
theorem slots_of_own {w : World} {K : Nat → Prop} {B n : Nat} {v : Value} {f : Nat → Slot} (h : w.ownsRow B 53 3 v n (flat n (slotsE f))) (hK : ∀ g cur, B ≤ g → w.heap[g]? = some (.cells cur 53 (0, 0)) → K g) : SlotsM w K v n f :=
  rows_of_own h (fun _ _ => rfl) hK fun _ _ _ _ hc => ⟨hc 0 _ (by decide) rfl, hc 1 _ (by decide) rfl, hc 2 _ (by decide) rfl⟩
theorem secs_of_own {w : World} {K : Nat → Prop} {B n : Nat} {v : Value} {u : Nat → Value} {f : Nat → List Nat} (h : w.ownsRow B 49 1 v n (flat n (oneE u))) (hK : ∀ g cur, B ≤ g → w.heap[g]? = some (.cells cur 49 (0, 0)) → K g) (hb : ∀ k, k < n → BytesM w K (u k) (f k)) : SecsM w K v n f :=
  rows_of_own h (fun _ _ => rfl) hK fun k _ _ hk hc => ⟨u k, hc 0 _ (by decide) rfl, hb k hk⟩
theorem leaves_of_own {w : World} {K : Nat → Prop} {B n : Nat} {v : Value} {s b : Nat → Value} {f : Nat → Leaf} (h : w.ownsRow B 32 2 v n (flat n (twoE s b))) (hK : ∀ g cur, B ≤ g → w.heap[g]? = some (.cells cur 32 (0, 0)) → K g) (hb : ∀ k, k < n → LeafM w K (s k) (b k) (f k)) : LeavesM w K v n f :=
  rows_of_own h (fun _ _ => rfl) hK fun k _ _ hk hc => ⟨s k, b k, hc 0 _ (by decide) rfl, hc 1 _ (by decide) rfl, hb k hk⟩
/-- Blocks from B on that are no rows of leaves. -/
def KT (w : World) (B : Nat) (g : Nat) : Prop := B ≤ g ∧ ∃ L t, w.heap[g]? = some (.cells L t (0, 0)) ∧ t ≠ 32
theorem KT.more {w w' : World} {B g : Nat} {r : Option Nat} (h : KT w B g) (hg : w.grownBy w' r) (hr : r ≠ some g) : KT w' B g := by
  obtain ⟨h1, L, t, h2, h3⟩ := h
  exact ⟨h1, L, t, (hg.block g (lt_of_heap h2) hr.symm).trans h2, h3⟩
/-- A row of leaves is no such block. -/
theorem own_not_KT {w : World} {B B' sz n : Nat} {v : Value} {cs : List Value} (h : w.ownsRow B' 32 sz v n cs) {g : Nat} (hk : KT w B g) : v.ownBlock ≠ some g := by
  intro e
  obtain ⟨_, L, t, h2, h3⟩ := hk
  rcases h.2 with ⟨rfl, _⟩ | ⟨g', cap, cur, rfl, _, hh, _⟩
  · simp [Value.ownBlock] at e
  · simp [Value.ownBlock] at e
    subst e
    rw [hh] at h2
    simp only [Option.some.injEq, Obj.cells.injEq] at h2
    exact h3 h2.2.1.symm
/-- Leaves stand while a row of leaves grows. -/
theorem LeafM.grow {w w' : World} {B B' sz n : Nat} {v sv bv : Value} {cs : List Value} {x : Leaf} (h : LeafM w (KT w B) sv bv x) (ho : w.ownsRow B' 32 sz v n cs) (hg : w.grownBy w' v.ownBlock) : LeafM w' (KT w' B) sv bv x :=
  (h.kept fun g hk hl => hg.block g hl fun e => own_not_KT ho hk e.symm).sub fun _ hk => hk.more hg fun e => own_not_KT ho hk e
theorem LeafM.growN {w w' : World} {B : Nat} {sv bv : Value} {x : Leaf} (h : LeafM w (KT w B) sv bv x) (hg : w.grownBy w' none) : LeafM w' (KT w' B) sv bv x :=
  (h.more hg).sub fun _ hk => hk.more hg (by simp)
theorem own_grown {w : World} {B e sz n : Nat} {v : Value} {cs : List Value} {w0 w' : World} (ho : w.ownsRow B e sz v n cs) (h : w0.grownBy w none) (hB : w0.heap.size ≤ B) (hg : w.grownBy w' v.ownBlock) : w0.grownBy w' none :=
  ⟨hg.os.trans h.os, hg.tape.trans h.tape, hg.output.trans h.output, Nat.le_trans h.size hg.size, fun j hj _ => by
    rw [hg.block j (Nat.lt_of_lt_of_le hj h.size) (fun e => by have := (ho.lt j e.symm).1; omega)]; exact h.block j hj (by simp)⟩
/-! ### What right makes -/
def rightSlot (i : Nat) (x : Leaf) (k : Nat) : Slot := if k < x.n then ⟨(x.slot k).key, ((absS (x.slot k).state % 4 : Nat) : Int), (x.slot k).seq % 281474976710656⟩ else ⟨i, 1, 0⟩
def rightSrc (x : Leaf) (k : Nat) : List Nat := if k < x.m then x.sec k else []
/-- So many bytes of a row, and noughts. -/
def front (S j : Nat) (b : List Nat) : List Nat := (List.range S).map fun t => if t < j then nth b t else 0
def rightSec (S : Nat) (x : Leaf) (k : Nat) : List Nat := front S S (rightSrc x k)
def rightS (S N : Nat) (raw : Nat → Leaf) (i : Nat) : Leaf := ⟨N, rightSlot i (raw i), N, rightSec S (raw i)⟩
theorem front_len (S j : Nat) (b : List Nat) : (front S j b).length = S := by simp [front]
theorem front_zero (S : Nat) (b : List Nat) : front S 0 b = List.replicate S 0 := by
  apply List.ext_getElem (by simp [front])
  intro i h1 h2
  simp [front]
theorem front_all {S j : Nat} {b : List Nat} (h : S ≤ j ∨ b.length ≤ j) : front S j b = front S S b := by
  apply List.ext_getElem (by simp [front])
  intro i h1 h2
  have hi : i < S := by simpa [front] using h1
  simp only [front, List.getElem_map, List.getElem_range, hi, if_true]
  split
  · rfl
  · rcases h with h | h
    · omega
    · rw [nth_over b (by omega)]
theorem front_next {S j : Nat} {b : List Nat} (_h : j < S) : (front S j b).set j (nth b j) = front S (j + 1) b := by
  apply List.ext_getElem (by simp [front])
  intro i h1 h2
  rw [List.getElem_set]
  split
  · rename_i e
    subst e
    simp [front]
  · rename_i e
    simp only [front, List.getElem_map, List.getElem_range]
    by_cases hj : i < j
    · simp [hj, show i < j + 1 by omega]
    · simp [hj, show ¬ i < j + 1 by omega]
theorem nth_front_le {S j : Nat} {b : List Nat} (h : ∀ i, nth b i ≤ 255) (i : Nat) : nth (front S j b) i ≤ 255 := by
  by_cases hi : i < S
  · have : nth (front S j b) i = if i < j then nth b i else 0 := by simp [nth, front, hi]
    rw [this]
    split
    · exact h i
    · omega
  · rw [nth_over _ (by rw [front_len]; omega)]; omega
theorem rightSlot_i {i : Nat} {x : Leaf} (hi : i ≤ 100) (h : ∀ k, k < x.n → SlotI (x.slot k)) (k : Nat) : SlotI (rightSlot i x k) ∧ SlotMay (rightSlot i x k) := by
  unfold rightSlot
  split
  · rename_i hk
    have := h k hk
    have h1 := this.key
    exact ⟨⟨h1, by show I64 (((absS (x.slot k).state % 4 : Nat)) : Int); unfold I64; omega, by show _ % 281474976710656 < _; omega⟩, ⟨by show 0 ≤ (((absS (x.slot k).state % 4 : Nat)) : Int); omega, by show (((absS (x.slot k).state % 4 : Nat)) : Int) ≤ 3; omega, by show _ % 281474976710656 < _; omega⟩⟩
  · exact ⟨⟨by show i < _; omega, by show I64 1; unfold I64; omega, by show 0 < _; omega⟩, ⟨by show (0 : Int) ≤ 1; omega, by show (1 : Int) ≤ 3; omega, by show 0 < _; omega⟩⟩
theorem right_may {S N : Nat} {raw : Nat → Leaf} {i : Nat} (hi : i ≤ 100) (h : ∀ k, k < (raw i).n → SlotI ((raw i).slot k)) : May S N (rightS S N raw i) :=
  ⟨rfl, rfl, fun k _ => (rightSlot_i hi h k).2, fun k _ => .inr (by show ((rightSec S (raw i) k).length : Int) = S; rw [rightSec, front_len])⟩
/-- Blocks from B on that are rows of bytes. -/
def K5 (w : World) (B : Nat) (g : Nat) : Prop := B ≤ g ∧ ∃ L, w.heap[g]? = some (.cells L 5 (0, 0))
theorem K5.more {w w' : World} {B g : Nat} {r : Option Nat} (h : K5 w B g) (hg : w.grownBy w' r) (hr : r ≠ some g) : K5 w' B g := by
  obtain ⟨h1, L, h2⟩ := h
  exact ⟨h1, L, (hg.block g (lt_of_heap h2) hr.symm).trans h2⟩
theorem own_not_type {w : World} {B sz n e e' : Nat} {v : Value} {cs : List Value} (h : w.ownsRow B e sz v n cs) {g : Nat} {L : Array Value} (hk : w.heap[g]? = some (.cells L e' (0, 0))) (hne : e ≠ e') : v.ownBlock ≠ some g := by
  intro he
  rcases h.2 with ⟨rfl, _⟩ | ⟨g', cap, cur, rfl, _, hh, _⟩
  · simp [Value.ownBlock] at he
  · simp [Value.ownBlock] at he
    subst he
    rw [hh] at hk
    simp only [Option.some.injEq, Obj.cells.injEq] at hk
    exact hne hk.2.1
end Sp
end Go.Proofs.Ytjokedggmhiklaa
