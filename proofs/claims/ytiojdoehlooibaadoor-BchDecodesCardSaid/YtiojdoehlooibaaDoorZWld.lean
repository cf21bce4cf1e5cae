/- What a world says of a field: its struct's block, its tables, the list of polynomials; and how one world follows another. -/
import Derived.Test.YtiojdoehlooibaaDoorZMathy
import Derived.WalkKit
import Derived.WalkSpells
import Derived.WalkLawsBesides
import Derived.Laws.CopyOwn
namespace Go.Proofs.YtiojdoehlooibaaDoor
open Go.RowKit
namespace Gf

/-- The fields' polynomials lie where the program's text lays them. -/
def Glob (w : World) : Prop := ∀ m, 2 ≤ m → m ≤ 13 → w.cell? ⟨0, m - 2, none⟩ = some (.int .i64 (poly m))

/-- The tables of a field. -/
structure Tabs (w : World) (m gp gl : Nat) : Prop where
  pows : ∀ n, n < 2 * sz m → w.cell? ⟨gp, n, none⟩ = some (.int .i64 (pw m n))
  logs : ∀ a, 1 ≤ a → a ≤ sz m → w.cell? ⟨gl, a, none⟩ = some (.int .i64 (lg m a))

abbrev blk (m : Nat) (d : Int) (pv lv : Value) : Obj := .cells #[.int .i64 m, .int .u32 d, .int .i32 0, .int .u32 0, pv, lv] 95
abbrev pvOf (m gp : Nat) : Value := .slice (some ⟨gp, 0, none⟩) (2 * sz m) (2 * sz m)
abbrev lvOf (m gl : Nat) : Value := .slice (some ⟨gl, 0, none⟩) (sz m + 1) (sz m + 1)

/-- A field whose tables are not made. -/
structure Bare (w : World) (b m : Nat) : Prop where
  em : Em m
  glob : Glob w
  pos : 0 < b
  at_ : w.heap[b]? = some (blk m 0 (.slice none 0 0) (.slice none 0 0))
/-- A field whose tables are made. -/
structure Done (w : World) (b m gp gl : Nat) : Prop where
  em : Em m
  glob : Glob w
  pos : 0 < b
  at_ : w.heap[b]? = some (blk m 1 (pvOf m gp) (lvOf m gl))
  tabs : Tabs w m gp gl
  apart : gp ≠ b ∧ gl ≠ b
/-- A field. -/
def Fld (w : World) (b m : Nat) : Prop := Bare w b m ∨ ∃ gp gl, Done w b m gp gl

/-- Block r is none of the field's, nor the polynomials'. -/
def Free (w : World) (b r : Nat) : Prop := r ≠ b ∧ r ≠ 0 ∧ ∀ m d pv lv, w.heap[b]? = some (blk m d pv lv) → pv.ownBlock ≠ some r ∧ lv.ownBlock ≠ some r

theorem grownBy_trans {a b c : World} {r : Option Nat} (h : a.grownBy b r) (k : b.grownBy c r) : a.grownBy c r :=
  ⟨k.os.trans h.os, k.tape.trans h.tape, k.output.trans h.output, Nat.le_trans h.size k.size, fun i hi hr => (k.block i (Nat.lt_of_lt_of_le hi h.size) hr).trans (h.block i hi hr)⟩
theorem grownBy_drew {a b : World} {r : Option Nat} (h : a.grownBy b r) : a.grownBy b.drew r := ⟨h.os, h.tape, h.output, h.size, h.block⟩
theorem grownBy_drewN {a b : World} {r : Option Nat} (h : a.grownBy b r) (n : Nat) : a.grownBy (b.drewN n) r := ⟨h.os, h.tape, h.output, h.size, h.block⟩
theorem lt_of_heap {w : World} {b : Nat} {o : Obj} (h : w.heap[b]? = some o) : b < w.heap.size := (Array.getElem?_eq_some_iff.1 h).1
theorem lt_of_cell {w : World} {b o : Nat} {v : Value} (h : w.cell? ⟨b, o, none⟩ = some v) : b < w.heap.size := World.block_lt_of_cell? w ⟨b, o, none⟩ h

/-- What a call of the field's does: new blocks, and writes to the field's own; a block that is none of the field's stays so. -/
structure Step (b : Nat) (w w' : World) : Prop where
  grown : w.grownBy w' (some b)
  free : ∀ r, r < w.heap.size → Free w b r → Free w' b r
theorem Step.refl (b : Nat) (w : World) : Step b w w := ⟨World.grownBy.refl _ _, fun _ _ h => h⟩
theorem Step.trans {b : Nat} {w w' w'' : World} (h : Step b w w') (k : Step b w' w'') : Step b w w'' :=
  ⟨grownBy_trans h.grown k.grown, fun r hr hf => k.free r (Nat.lt_of_lt_of_le hr h.grown.size) (h.free r hr hf)⟩
theorem Step.drew {b : Nat} {w w' : World} (h : Step b w w') : Step b w w'.drew := ⟨grownBy_drew h.grown, h.free⟩
theorem Step.drewN {b : Nat} {w w' : World} (h : Step b w w') (n : Nat) : Step b w (w'.drewN n) := ⟨grownBy_drewN h.grown n, h.free⟩
theorem Step.size {b : Nat} {w w' : World} (h : Step b w w') : w.heap.size ≤ w'.heap.size := h.grown.size
/-- New blocks, and writes to blocks that are none of the field's: what is the field's stays. -/
theorem Free.of_block {w w' : World} {b r : Nat} (h : Free w b r) (e : w'.heap[b]? = w.heap[b]?) : Free w' b r := ⟨h.1, h.2.1, by rw [e]; exact h.2.2⟩
theorem Step.of_same {b : Nat} {w w' : World} (hg : w.grownBy w' (some b)) (e : w'.heap[b]? = w.heap[b]?) : Step b w w' := ⟨hg, fun _ _ h => h.of_block e⟩

theorem Glob.kept {w w' : World} (h : Glob w) (e : w'.heap[0]? = w.heap[0]?) : Glob w' := fun m h1 h2 => (World.cell?_of_block (w := w) (a := ⟨0, m - 2, none⟩) e).trans (h m h1 h2)
theorem Tabs.kept {w w' : World} {m gp gl : Nat} (h : Tabs w m gp gl) (e1 : w'.heap[gp]? = w.heap[gp]?) (e2 : w'.heap[gl]? = w.heap[gl]?) : Tabs w' m gp gl :=
  ⟨fun n hn => (World.cell?_of_block (w := w) (a := ⟨gp, n, none⟩) e1).trans (h.pows n hn), fun a h1 h2 => (World.cell?_of_block (w := w) (a := ⟨gl, a, none⟩) e2).trans (h.logs a h1 h2)⟩
theorem Fld.em {w : World} {b m : Nat} (h : Fld w b m) : Em m := by rcases h with h | ⟨_, _, h⟩ <;> exact h.em
theorem Fld.glob {w : World} {b m : Nat} (h : Fld w b m) : Glob w := by rcases h with h | ⟨_, _, h⟩ <;> exact h.glob
theorem Fld.lt {w : World} {b m : Nat} (h : Fld w b m) : b < w.heap.size := by rcases h with h | ⟨_, _, h⟩ <;> exact lt_of_heap h.at_
theorem Fld.pos {w : World} {b m : Nat} (h : Fld w b m) : 0 < b := by rcases h with h | ⟨_, _, h⟩ <;> exact h.pos
theorem Tabs.lt {w : World} {m gp gl : Nat} (h : Tabs w m gp gl) (hm : Em m) : gp < w.heap.size ∧ gl < w.heap.size := by
  have := sz_bd hm
  exact ⟨lt_of_cell (h.pows 0 (by omega)), lt_of_cell (h.logs 1 (by omega) (by omega))⟩
/-- A field's m, as it lies. -/
theorem Fld.cellM {w : World} {b m : Nat} (h : Fld w b m) : w.cell? ⟨b, 0, none⟩ = some (.int .i64 m) := by
  rcases h with h | ⟨_, _, h⟩ <;> simp [World.cell?, h.at_]
/-- A world in which new blocks have come and a block that is none of the field's was written. -/
theorem Fld.kept {w w' : World} {b m r : Nat} (h : Fld w b m) (hg : w.grownBy w' (some r)) (hf : Free w b r) : Fld w' b m := by
  have h0 := h.lt
  have hp := h.pos
  rcases h with h | ⟨gp, gl, h⟩
  · refine .inl ⟨h.em, h.glob.kept (hg.block 0 (by omega) (by simpa using fun e => hf.2.1 e.symm)), h.pos, ?_⟩
    rw [hg.block b h0 (by simpa using fun e => hf.1 e.symm)]; exact h.at_
  · have ht := h.tabs.lt h.em
    have hr := hf.2.2 _ _ _ _ h.at_
    simp only [Value.ownBlock, ne_eq, Option.some.injEq] at hr
    refine .inr ⟨gp, gl, h.em, h.glob.kept (hg.block 0 (by omega) (by simpa using fun e => hf.2.1 e.symm)), h.pos, ?_, h.tabs.kept (hg.block gp ht.1 (by simpa using hr.1)) (hg.block gl ht.2 (by simpa using hr.2)), h.apart⟩
    rw [hg.block b h0 (by simpa using fun e => hf.1 e.symm)]; exact h.at_
/-- New blocks alone. -/
theorem Fld.more {w w' : World} {b m : Nat} (h : Fld w b m) (hg : w.grownBy w' none) : Fld w' b m := by
  have h0 := h.lt
  have hp := h.pos
  rcases h with h | ⟨gp, gl, h⟩
  · refine .inl ⟨h.em, h.glob.kept (hg.block 0 (by omega) (by simp)), h.pos, ?_⟩
    rw [hg.block b h0 (by simp)]; exact h.at_
  · have ht := h.tabs.lt h.em
    refine .inr ⟨gp, gl, h.em, h.glob.kept (hg.block 0 (by omega) (by simp)), h.pos, ?_, h.tabs.kept (hg.block gp ht.1 (by simp)) (hg.block gl ht.2 (by simp)), h.apart⟩
    rw [hg.block b h0 (by simp)]; exact h.at_
theorem Fld.drew {w : World} {b m : Nat} (h : Fld w b m) : Fld w.drew b m := h.more (grownBy_drew (World.grownBy.refl _ _))
theorem Fld.drewN {w : World} {b m : Nat} (h : Fld w b m) (n : Nat) : Fld (w.drewN n) b m := h.more (grownBy_drewN (World.grownBy.refl _ _) n)
theorem Fld.alloc {w : World} {b m : Nat} (h : Fld w b m) (o : Obj) : Fld (w.alloc o) b m := h.more (World.grownBy_alloc w o none)
/-- A block that comes behind the field, and was not there when it had its tables, is none of the field's. -/
theorem Fld.free_new {w : World} {b m r : Nat} (h : Fld w b m) (hr : w.heap.size ≤ r) : Free w b r := by
  have h0 := h.lt
  refine ⟨by omega, by omega, fun m' d pv lv e => ?_⟩
  rcases h with h | ⟨gp, gl, h⟩
  · rw [h.at_] at e
    simp only [blk, Option.some.injEq, Obj.cells.injEq, Array.mk.injEq, List.cons.injEq] at e
    obtain ⟨⟨_, _, _, _, rfl, rfl, _⟩, _⟩ := e
    simp [Value.ownBlock]
  · have ht := h.tabs.lt h.em
    rw [h.at_] at e
    simp only [blk, Option.some.injEq, Obj.cells.injEq, Array.mk.injEq, List.cons.injEq] at e
    obtain ⟨⟨_, _, _, _, rfl, rfl, _⟩, _⟩ := e
    simp only [Value.ownBlock, ne_eq, Option.some.injEq]
    omega
theorem grownBy_some {w w' : World} (b : Option Nat) (h : w.grownBy w' none) : w.grownBy w' b := ⟨h.os, h.tape, h.output, h.size, fun k hk _ => h.block k hk (by simp)⟩
theorem Fld.step_more {w w' : World} {b m : Nat} (h : Fld w b m) (hg : w.grownBy w' none) : Step b w w' := Step.of_same (grownBy_some _ hg) (hg.block b h.lt (by simp))
/-- A cell of an old block that is none of the field's. -/
theorem Step.cell {b : Nat} {w w' : World} (h : Step b w w') {g o : Nat} (hg : g < w.heap.size) (hb : g ≠ b) : w'.cell? ⟨g, o, none⟩ = w.cell? ⟨g, o, none⟩ :=
  World.cell?_of_block (w := w) (h.grown.block g hg (by simpa using hb))
theorem Step.heap {b : Nat} {w w' : World} (h : Step b w w') {g : Nat} (hg : g < w.heap.size) (hb : g ≠ b) : w'.heap[g]? = w.heap[g]? := h.grown.block g hg (by simpa using hb)

/-! ### Go's own operations on numbers, as plain ones -/
theorem xor_i64 (a b : Nat) (ha : a < 4294967296) (hb : b < 4294967296) : bits .xor .i64 (a : Int) (b : Int) = ((a ^^^ b : Nat) : Int) := by
  have hx : a ^^^ b < 2 ^ 32 := Nat.xor_lt_two_pow (by omega) (by omega)
  have h1 : (BitVec.ofInt 64 (a : Int)).toNat = a := by
    rw [BitVec.ofInt_natCast, BitVec.toNat_ofNat]; exact Nat.mod_eq_of_lt (by omega)
  have h2 : (BitVec.ofInt 64 (b : Int)).toNat = b := by
    rw [BitVec.ofInt_natCast, BitVec.toNat_ofNat]; exact Nat.mod_eq_of_lt (by omega)
  show IntKind.i64.wrap ((BitVec.ofInt 64 (a : Int) ^^^ BitVec.ofInt 64 (b : Int)).toNat : Int) = _
  rw [BitVec.toNat_xor, h1, h2, IntKind.wrap_i64]
  omega
end Gf
end Go.Proofs.YtiojdoehlooibaaDoor
