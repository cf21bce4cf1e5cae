/- The document's own answers of layer 2 (bch): R, Parity, Bits. -/
import Derived.Test.YtiojdoehlooibabDoorZPa
import Derived.Test.YtiojdoehlooibabDoorZRef
namespace Go.Proofs.YtiojdoehlooibabDoor
open Go.RowKit
namespace Gf
/-- A code as a value. -/
abbrev codeV (m bytes t : Int) (g : Value) : Value := .agg #[num m, num bytes, num t, g]
/-- Bytes that can be read. -/
def RdB (w : World) (ao : Option Addr) (bs : List Nat) : Prop :=
  (∀ i, nth bs i ≤ 255) ∧ (bs = [] ∨ ∃ g off, ao = some ⟨g, off, none⟩ ∧ ∀ i, i < bs.length → w.cell? ⟨g, off + i, none⟩ = some (.int .u8 (nth bs i : Nat)))
theorem RdB.more {w w' : World} {ao : Option Addr} {bs : List Nat} (h : RdB w ao bs) (hg : w.grownBy w' none) : RdB w' ao bs := by
  refine ⟨h.1, ?_⟩
  rcases h.2 with h | ⟨g, off, h1, h3⟩
  · exact .inl h
  · refine .inr ⟨g, off, h1, fun i hi => ?_⟩
    rw [World.cell?_of_block (w := w) (a := ⟨g, off + i, none⟩) (hg.block g (lt_of_cell (h3 i hi)) (by simp))]
    exact h3 i hi
/-- A byte's bits, the highest first. -/
def byteBits (x : Nat) : List Nat := (List.range 8).map fun j => x / 2 ^ (7 - j) % 2
def bitsS (bs : List Nat) : List Nat := bs.flatMap byteBits
theorem byteBits_len (x : Nat) : (byteBits x).length = 8 := by simp [byteBits]
theorem bitsS_snoc (bs : List Nat) {i : Nat} (hi : i < bs.length) : bitsS (bs.take (i + 1)) = bitsS (bs.take i) ++ byteBits (nth bs i) := by
  rw [take_snoc' hi, bitsS, List.flatMap_append]; simp [bitsS]
theorem bitsS_len (bs : List Nat) : (bitsS bs).length = 8 * bs.length := by
  induction bs with
  | nil => rfl
  | cons b bs ih => rw [bitsS, List.flatMap_cons, List.length_append, byteBits_len, List.length_cons, ← bitsS, ih]; omega
theorem byteBits_take {x j : Nat} (hj : j < 8) : (byteBits x).take (j + 1) = (byteBits x).take j ++ [x / 2 ^ (7 - j) % 2] := by
  rw [take_snoc' (by rw [byteBits_len]; exact hj), nth_of (by rw [byteBits_len]; exact hj)]; simp [byteBits]
/-- A row of one's own that grows, whatever was there stays. -/
structure Row (w0 wr : World) (v : Value) (S : List Nat) : Prop where
  own : wr.ownsRow w0.heap.size 3 1 v S.length (vals S)
  more : w0.grownBy wr none
theorem Row.start (w : World) : Row w w (.slice none 0 0) [] := ⟨World.ownsRow_nil _ _ _ _, World.grownBy.refl _ _⟩
theorem Row.append {w0 wr w6 : World} {v v' o : Value} {S : List Nat} {c : Nat} (h : Row w0 wr v S) (hown : w6.ownsRow w0.heap.size 3 1 v' (S.length + 1) (vals S ++ [num c])) (hgrow : (wr.alloc (.cells #[o] 3)).grownBy w6 v.ownBlock) : Row w0 w6 v' (S ++ [c]) := by
  have hsz := h.more.size
  have hsz6 := hgrow.size
  simp at hsz6
  have hob : ∀ k, v.ownBlock = some k → w0.heap.size ≤ k := fun k hk => (h.own.lt k hk).1
  refine ⟨?_, ⟨hgrow.os.trans h.more.os, hgrow.tape.trans h.more.tape, hgrow.output.trans h.more.output, by omega, fun k hk _ => ?_⟩⟩
  · have e1 : vals (S ++ [c]) = vals S ++ [num c] := by simp [vals]
    rw [e1, List.length_append]
    exact hown
  · rw [hgrow.block k (by simp; omega) (fun e => by have := hob k e.symm; omega), ← h.more.block k hk (by simp)]
    exact Below.heap_alloc _ _ _ (by omega)
theorem and_bit_val (b i : Nat) (hb : b ≤ 8191) : bits .and .i64 ((b : Int) / 2 ^ i) 1 = ((b / 2 ^ i % 2 : Nat) : Int) := by
  have e : ((b : Int) / 2 ^ i) = ((b / 2 ^ i : Nat) : Int) := by simp
  have hle : b / 2 ^ i ≤ b := Nat.div_le_self _ _
  have h := (bits_nat .i64 62 (by decide) (fun n h1 h2 => by
    have h3 : n < 4611686018427387904 := by simpa using h2
    rw [IntKind.wrap_i64]; omega) (b / 2 ^ i) 1 (by omega) (by decide)).1
  rw [e]
  have h' : bits .and .i64 ((b / 2 ^ i : Nat) : Int) 1 = ((b / 2 ^ i &&& 1 : Nat) : Int) := h
  rw [h', Nat.and_one_is_mod]
end Gf
end Go.Proofs.YtiojdoehlooibabDoor
