/- Layer 6 (stripe): slots, leaves, rows of leaves, plainly, and as they lie in memory. -/
import Derived.Test.YtjokedggmhiklaaRows
import Derived.WalkKit
import Derived.WalkSpells
import Derived.WalkLawsBesides
import Derived.Laws.CopyOwn
import Derived.Laws.IdiomCopy
import Derived.Laws.BytesArg
import Derived.Laws.BitsAllLaws
import Derived.Laws.MakeOwn
import Derived.Laws.StructEq
import Derived.OwnWalk
import Derived.Deep.QuietTactic
import Derived.BigQuiet
import Derived.BigRegion
import Derived.Deep.RegionWith
import Derived.Deep.MidRow
import Derived.Maps.OwnSet
namespace Go.Proofs.Ytjokedggmhiklaa
open Go.RowKit Go.Maps
namespace Sp
abbrev num (n : Int) : Value := .int .i64 n
abbrev q32 (n : Nat) : Value := .int .u32 n
abbrev q64 (n : Nat) : Value := .int .u64 n
abbrev q8 (n : Nat) : Value := .int .u8 n
abbrev ptr (g o : Nat) : Value := .pointer (some ⟨g, o, none⟩)
theorem ret_int {k : IntKind} {a b : Int} (h : a = b) : Ending.returned (.int k a) = .returned (.int k b) := by rw [h]
theorem ret_bool {a b : Bool} (h : a = b) : Ending.returned (.bool a) = .returned (.bool b) := by rw [h]
theorem addr_add' (g off i : Nat) : (⟨g, off, none⟩ : Addr).add i = ⟨g, off + i, none⟩ := by unfold Addr.add; split <;> simp_all
theorem lt_of_heap {w : World} {b : Nat} {o : Obj} (h : w.heap[b]? = some o) : b < w.heap.size := (Array.getElem?_eq_some_iff.1 h).1
theorem lt_of_cell {w : World} {b o : Nat} {v : Value} (h : w.cell? ⟨b, o, none⟩ = some v) : b < w.heap.size := World.block_lt_of_cell? w ⟨b, o, none⟩ h
theorem grownBy_trans {a b c : World} {r : Option Nat} (h : a.grownBy b r) (k : b.grownBy c r) : a.grownBy c r :=
  ⟨k.os.trans h.os, k.tape.trans h.tape, k.output.trans h.output, Nat.le_trans h.size k.size, fun i hi hr => (k.block i (Nat.lt_of_lt_of_le hi h.size) hr).trans (h.block i hi hr)⟩
theorem grownBy_drew {a b : World} {r : Option Nat} (h : a.grownBy b r) : a.grownBy b.drew r := ⟨h.os, h.tape, h.output, h.size, h.block⟩
theorem grownBy_drewN {a b : World} {r : Option Nat} (h : a.grownBy b r) (n : Nat) : a.grownBy (b.drewN n) r := ⟨h.os, h.tape, h.output, h.size, h.block⟩
theorem grownBy_refl (w : World) (r : Option Nat) : w.grownBy w r := ⟨rfl, rfl, rfl, Nat.le_refl _, fun _ _ _ => rfl⟩
theorem grownBy_alloc' {a b : World} (h : a.grownBy b none) (o : Obj) : a.grownBy (b.alloc o) none := grownBy_trans h (World.grownBy_alloc b o none)
theorem grown_new {w W w2 : World} {g : Nat} (h : w.grownBy W none) (k : W.grownBy w2 (some g)) (hg : w.heap.size ≤ g) : w.grownBy w2 none :=
  ⟨k.os.trans h.os, k.tape.trans h.tape, k.output.trans h.output, Nat.le_trans h.size k.size, fun x hx _ => (k.block x (Nat.lt_of_lt_of_le hx h.size) (fun e => by have := Option.some.inj e; omega)).trans (h.block x hx (by simp))⟩
theorem setCell_else {w : World} {g i j : Nat} (hne : j ≠ g) (v : Value) : (w.setCell ⟨g, i, none⟩ v).heap[j]? = w.heap[j]? := Below.heap_setCell w ⟨g, i, none⟩ v j hne
/-- A write to what is new. -/
theorem grownBy_set {w W : World} (h : w.grownBy W none) {g o : Nat} (hg : w.heap.size ≤ g) (v : Value) : w.grownBy (W.setCell ⟨g, o, none⟩ v) none :=
  ⟨h.os, h.tape, h.output, by have := h.size; simp [World.setCell]; omega, fun x hx _ => by
    rw [setCell_else (by omega)]; exact h.block x hx (by simp)⟩
theorem below_of_grown {w w' : World} (h : w.grownBy w' none) : Below w.heap.size w w' := ⟨h.os, h.tape, h.output, h.size, fun k hk => h.block k hk (by simp)⟩
theorem grown_of_below {w w' : World} (h : Below w.heap.size w w') : w.grownBy w' none := ⟨h.os, h.tape, h.output, h.size, fun k hk _ => h.block k hk⟩
theorem cell_of_block {w w' : World} {g o : Nat} (e : w'.heap[g]? = w.heap[g]?) : w'.cell? ⟨g, o, none⟩ = w.cell? ⟨g, o, none⟩ := World.cell?_of_block (w := w) (a := ⟨g, o, none⟩) e
theorem cell_at {w : World} {g o : Nat} {L : Array Value} {t : TypeId} {v : Value} (h : w.heap[g]? = some (.cells L t)) (hv : L[o]? = some v) : w.cell? ⟨g, o, none⟩ = some v := by simp [World.cell?, h, hv]
theorem free_at {w : World} {g o : Nat} {L : Array Value} {t : TypeId} (h : w.heap[g]? = some (.cells L t)) : w.frozen? ⟨g, o, none⟩ = false := by simp [World.frozen?, h]
/-- The number at a place; 0 where there is none. -/
def nth (l : List Nat) (k : Nat) : Nat := l.getD k 0
theorem nth_of {l : List Nat} {k : Nat} (h : k < l.length) : nth l k = l[k] := by simp [nth, h]
theorem nth_over (l : List Nat) {k : Nat} (h : l.length ≤ k) : nth l k = 0 := by simp [nth, h]
def I64 (x : Int) : Prop := -9223372036854775808 ≤ x ∧ x ≤ 9223372036854775807
/-! ### Plainly -/
structure Slot where
  key : Nat
  state : Int
  seq : Nat
/-- A leaf: its slots, its sectors. -/
structure Leaf where
  n : Nat
  slot : Nat → Slot
  m : Nat
  sec : Nat → List Nat
structure SlotI (s : Slot) : Prop where
  key : s.key < 4294967296
  st : I64 s.state
  seq : s.seq < 18446744073709551616
structure SlotMay (s : Slot) : Prop where
  lo : 0 ≤ s.state
  hi : s.state ≤ 3
  seq : s.seq < 281474976710656
def SecMay (S : Int) (b : List Nat) : Prop := b = [] ∨ (b.length : Int) = S
structure May (S N : Int) (x : Leaf) : Prop where
  n : (x.n : Int) = N
  m : (x.m : Int) = N
  slot : ∀ i, i < x.n → SlotMay (x.slot i)
  sec : ∀ i, i < x.m → SecMay S (x.sec i)
def xorN : Nat → (Nat → Nat) → Nat
  | 0, _ => 0
  | k + 1, f => xorN k f ^^^ f k
/-- Slots together. -/
def sumSlot (k : Nat) (xs : Nat → Leaf) (i : Nat) : Slot :=
  ⟨xorN k fun a => ((xs a).slot i).key, (xorN k fun a => ((xs a).slot i).state.toNat : Nat), xorN k fun a => ((xs a).slot i).seq⟩
def sumSec (S k : Nat) (xs : Nat → Leaf) (i : Nat) : List Nat := (List.range S).map fun j => xorN k fun a => nth ((xs a).sec i) j
/-- Leaves together. -/
def sumS (S N k : Nat) (xs : Nat → Leaf) : Leaf := ⟨N, sumSlot k xs, N, sumSec S k xs⟩
theorem sumSec_len (S k : Nat) (xs : Nat → Leaf) (i : Nat) : (sumSec S k xs i).length = S := by simp [sumSec]
theorem nth_sumSec {S k : Nat} {xs : Nat → Leaf} {i j : Nat} (h : j < S) : nth (sumSec S k xs i) j = xorN k fun a => nth ((xs a).sec i) j := by simp [nth, sumSec, h]
theorem xorN_lt {n : Nat} : ∀ (k : Nat) (f : Nat → Nat), (∀ a, a < k → f a < 2 ^ n) → xorN k f < 2 ^ n
  | 0, _, _ => Nat.two_pow_pos n
  | k + 1, f, h => Nat.xor_lt_two_pow (xorN_lt k f fun a ha => h a (by omega)) (h k (by omega))
theorem xorN_congr : ∀ (k : Nat) {f g : Nat → Nat}, (∀ a, a < k → f a = g a) → xorN k f = xorN k g
  | 0, _, _, _ => rfl
  | k + 1, f, g, h => by rw [xorN, xorN, xorN_congr k fun a ha => h a (by omega), h k (by omega)]
/-! ### In memory -/
def Rows (K : Nat → Prop) (v : Value) (n sz : Nat) (E : Nat → Nat → Nat → Prop) : Prop :=
  ∃ ao cap, v = .slice ao n cap ∧ n ≤ cap ∧ cap ≤ 9223372036854775807 ∧ (n = 0 ∨ ∃ g off, ao = some ⟨g, off, none⟩ ∧ K g ∧ ∀ k, k < n → E k g (off + k * sz))
theorem Rows.imp {K K' : Nat → Prop} {v : Value} {n sz : Nat} {E E' : Nat → Nat → Nat → Prop} (h : Rows K v n sz E) (hk : ∀ g, K g → K' g) (he : ∀ k g o, k < n → K g → E k g o → E' k g o) : Rows K' v n sz E' := by
  obtain ⟨ao, cap, h1, h2, h3, h4⟩ := h
  refine ⟨ao, cap, h1, h2, h3, h4.imp id ?_⟩
  rintro ⟨g, off, a1, a2, a3⟩
  exact ⟨g, off, a1, hk g a2, fun k hk' => he k g _ hk' a2 (a3 k hk')⟩
theorem Rows.nil (K : Nat → Prop) (sz : Nat) (E : Nat → Nat → Nat → Prop) : Rows K (.slice none 0 0) 0 sz E := ⟨none, 0, rfl, Nat.le_refl _, by omega, .inl rfl⟩
structure SlotAt (w : World) (g o : Nat) (s : Slot) : Prop where
  key : w.cell? ⟨g, o, none⟩ = some (q32 s.key)
  st : w.cell? ⟨g, o + 1, none⟩ = some (num s.state)
  seq : w.cell? ⟨g, o + 2, none⟩ = some (q64 s.seq)
def BytesM (w : World) (K : Nat → Prop) (v : Value) (b : List Nat) : Prop :=
  (∀ i, nth b i ≤ 255) ∧ Rows K v b.length 1 fun k g o => w.cell? ⟨g, o, none⟩ = some (q8 (nth b k))
def SlotsM (w : World) (K : Nat → Prop) (v : Value) (n : Nat) (f : Nat → Slot) : Prop := Rows K v n 3 fun k g o => SlotAt w g o (f k)
def SecAt (w : World) (K : Nat → Prop) (g o : Nat) (b : List Nat) : Prop := ∃ v, w.cell? ⟨g, o, none⟩ = some v ∧ BytesM w K v b
def SecsM (w : World) (K : Nat → Prop) (v : Value) (n : Nat) (f : Nat → List Nat) : Prop := Rows K v n 1 fun k g o => SecAt w K g o (f k)
structure LeafM (w : World) (K : Nat → Prop) (sv bv : Value) (x : Leaf) : Prop where
  sl : SlotsM w K sv x.n x.slot
  se : SecsM w K bv x.m x.sec
  si : ∀ i, i < x.n → SlotI (x.slot i)
def LeafAt (w : World) (K : Nat → Prop) (g o : Nat) (x : Leaf) : Prop := ∃ sv bv, w.cell? ⟨g, o, none⟩ = some sv ∧ w.cell? ⟨g, o + 1, none⟩ = some bv ∧ LeafM w K sv bv x
def LeavesM (w : World) (K : Nat → Prop) (v : Value) (n : Nat) (f : Nat → Leaf) : Prop := Rows K v n 2 fun k g o => LeafAt w K g o (f k)
abbrev All : Nat → Prop := fun _ => True
/-- The blocks of K stand as they stood. -/
def Kept (K : Nat → Prop) (w w' : World) : Prop := ∀ g, K g → g < w.heap.size → w'.heap[g]? = w.heap[g]?
theorem Kept.of_grown {K : Nat → Prop} {w w' : World} (h : w.grownBy w' none) : Kept K w w' := fun g _ hl => h.block g hl (by simp)
theorem Kept.cell {K : Nat → Prop} {w w' : World} (h : Kept K w w') {g o : Nat} {v : Value} (hk : K g) (hc : w.cell? ⟨g, o, none⟩ = some v) : w'.cell? ⟨g, o, none⟩ = some v := by
  rw [cell_of_block (h g hk (lt_of_cell hc))]; exact hc
theorem SlotAt.kept {K : Nat → Prop} {w w' : World} (h : Kept K w w') {g o : Nat} {s : Slot} (hk : K g) (hs : SlotAt w g o s) : SlotAt w' g o s := ⟨h.cell hk hs.key, h.cell hk hs.st, h.cell hk hs.seq⟩
theorem BytesM.kept {K : Nat → Prop} {w w' : World} (h : Kept K w w') {v : Value} {b : List Nat} (hb : BytesM w K v b) : BytesM w' K v b := ⟨hb.1, hb.2.imp (fun _ => id) fun _ _ _ _ hk he => h.cell hk he⟩
theorem SlotsM.kept {K : Nat → Prop} {w w' : World} (h : Kept K w w') {v : Value} {n : Nat} {f : Nat → Slot} (hb : SlotsM w K v n f) : SlotsM w' K v n f := hb.imp (fun _ => id) fun _ _ _ _ hk he => he.kept h hk
theorem SecAt.kept {K : Nat → Prop} {w w' : World} (h : Kept K w w') {g o : Nat} {b : List Nat} (hk : K g) (hs : SecAt w K g o b) : SecAt w' K g o b := by
  obtain ⟨v, h1, h2⟩ := hs
  exact ⟨v, h.cell hk h1, h2.kept h⟩
theorem SecsM.kept {K : Nat → Prop} {w w' : World} (h : Kept K w w') {v : Value} {n : Nat} {f : Nat → List Nat} (hb : SecsM w K v n f) : SecsM w' K v n f := hb.imp (fun _ => id) fun _ _ _ _ hk he => he.kept h hk
theorem LeafM.kept {K : Nat → Prop} {w w' : World} (h : Kept K w w') {sv bv : Value} {x : Leaf} (hb : LeafM w K sv bv x) : LeafM w' K sv bv x := ⟨hb.sl.kept h, hb.se.kept h, hb.si⟩
theorem LeafAt.kept {K : Nat → Prop} {w w' : World} (h : Kept K w w') {g o : Nat} {x : Leaf} (hk : K g) (hs : LeafAt w K g o x) : LeafAt w' K g o x := by
  obtain ⟨sv, bv, h1, h2, h3⟩ := hs
  exact ⟨sv, bv, h.cell hk h1, h.cell hk h2, h3.kept h⟩
theorem LeavesM.kept {K : Nat → Prop} {w w' : World} (h : Kept K w w') {v : Value} {n : Nat} {f : Nat → Leaf} (hb : LeavesM w K v n f) : LeavesM w' K v n f := hb.imp (fun _ => id) fun _ _ _ _ hk he => he.kept h hk
/-! #### Fewer blocks are more -/
theorem BytesM.sub {K K' : Nat → Prop} (h : ∀ g, K g → K' g) {w : World} {v : Value} {b : List Nat} (hb : BytesM w K v b) : BytesM w K' v b := ⟨hb.1, hb.2.imp h fun _ _ _ _ _ he => he⟩
theorem SecAt.sub {K K' : Nat → Prop} (h : ∀ g, K g → K' g) {w : World} {g o : Nat} {b : List Nat} (hs : SecAt w K g o b) : SecAt w K' g o b := by
  obtain ⟨v, h1, h2⟩ := hs
  exact ⟨v, h1, h2.sub h⟩
theorem LeafM.sub {K K' : Nat → Prop} (h : ∀ g, K g → K' g) {w : World} {sv bv : Value} {x : Leaf} (hb : LeafM w K sv bv x) : LeafM w K' sv bv x := ⟨hb.sl.imp h fun _ _ _ _ _ he => he, hb.se.imp h fun _ _ _ _ _ he => he.sub h, hb.si⟩
theorem LeafAt.sub {K K' : Nat → Prop} (h : ∀ g, K g → K' g) {w : World} {g o : Nat} {x : Leaf} (hs : LeafAt w K g o x) : LeafAt w K' g o x := by
  obtain ⟨sv, bv, h1, h2, h3⟩ := hs
  exact ⟨sv, bv, h1, h2, h3.sub h⟩
theorem LeavesM.sub {K K' : Nat → Prop} (h : ∀ g, K g → K' g) {w : World} {v : Value} {n : Nat} {f : Nat → Leaf} (hb : LeavesM w K v n f) : LeavesM w K' v n f := hb.imp h fun _ _ _ _ _ he => he.sub h
theorem LeavesM.more {K : Nat → Prop} {w w' : World} {v : Value} {n : Nat} {f : Nat → Leaf} (hb : LeavesM w K v n f) (h : w.grownBy w' none) : LeavesM w' K v n f := hb.kept (.of_grown h)
theorem LeafM.more {K : Nat → Prop} {w w' : World} {sv bv : Value} {x : Leaf} (hb : LeafM w K sv bv x) (h : w.grownBy w' none) : LeafM w' K sv bv x := hb.kept (.of_grown h)
theorem BytesM.more {K : Nat → Prop} {w w' : World} {v : Value} {b : List Nat} (hb : BytesM w K v b) (h : w.grownBy w' none) : BytesM w' K v b := hb.kept (.of_grown h)
theorem SecsM.more {K : Nat → Prop} {w w' : World} {v : Value} {n : Nat} {f : Nat → List Nat} (hb : SecsM w K v n f) (h : w.grownBy w' none) : SecsM w' K v n f := hb.kept (.of_grown h)
theorem SlotsM.more {K : Nat → Prop} {w w' : World} {v : Value} {n : Nat} {f : Nat → Slot} (hb : SlotsM w K v n f) (h : w.grownBy w' none) : SlotsM w' K v n f := hb.kept (.of_grown h)
/-! #### What a row is at a place -/
theorem BytesM.len {w : World} {K : Nat → Prop} {v : Value} {b : List Nat} (h : BytesM w K v b) : ∃ ao cap, v = .slice ao b.length cap ∧ b.length ≤ cap ∧ cap ≤ 9223372036854775807 := by
  obtain ⟨ao, cap, h1, h2, h3, _⟩ := h.2
  exact ⟨ao, cap, h1, h2, h3⟩
theorem Rows.at {K : Nat → Prop} {ao : Option Addr} {n cap sz : Nat} {E : Nat → Nat → Nat → Prop} (h : Rows K (.slice ao n cap) n sz E) {k : Nat} (hk : k < n) : ∃ g off, ao = some ⟨g, off, none⟩ ∧ K g ∧ n ≤ cap ∧ cap ≤ 9223372036854775807 ∧ ∀ k, k < n → E k g (off + k * sz) := by
  obtain ⟨ao', cap', h1, h2, h3, h4⟩ := h
  obtain ⟨rfl, -, rfl⟩ := Value.slice.inj h1
  obtain ⟨g, off, a1, a2, a3⟩ := h4.resolve_left (by omega)
  exact ⟨g, off, a1, a2, h2, h3, a3⟩
theorem hnot (x : Bool) (w : World) : (Op.unary .not (.bool x)).run Try.prog w = .ok (.bool (!x)) w := rfl
end Sp
end Go.Proofs.Ytjokedggmhiklaa
