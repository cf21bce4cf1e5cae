/- Layer 7 (blocks): a pool, plainly, and as it lies in memory; how one world follows another. -/
import Derived.Test.YtoakokpeomlkjaaDoorRows
import Derived.WalkKit
import Derived.WalkSpells
import Derived.WalkLawsBesides
import Derived.Laws.CopyOwn
import Derived.Laws.IdiomCopy
import Derived.Laws.BytesArg
import Derived.Laws.BitsAllLaws
import Derived.Laws.MakeOwn
import Derived.Laws.StructEq
import Derived.OwnWalk
import Derived.Deep.QuietTactic
import Derived.BigQuiet
import Derived.BigRegion
import Derived.Deep.RegionWith
import Derived.Deep.MidRow
import Derived.Maps.OwnSet
import Derived.RangeFuncNested
import Derived.RangeFuncBound
import Derived.RangeFuncBox
import Derived.RangeFuncCalls
import Derived.RangeFuncLeaves
import Derived.Shelf.Abstract
import Derived.Shelf.RegionOpen
import Derived.OwnWalkIn
import Derived.TacticsInMore
import Derived.LoopNIn
import Derived.LoopIn
namespace Go.Proofs.YtoakokpeomlkjaaDoor
open Go.RowKit Go.Maps
namespace Bk
abbrev num (n : Int) : Value := .int .i64 n
abbrev q32 (n : Nat) : Value := .int .u32 n
abbrev q64 (n : Nat) : Value := .int .u64 n
abbrev q8 (n : Nat) : Value := .int .u8 n
abbrev ptr (g o : Nat) : Value := .pointer (some ⟨g, o, none⟩)
theorem ret_int {k : IntKind} {a b : Int} (h : a = b) : Ending.returned (.int k a) = .returned (.int k b) := by rw [h]
theorem ret_bool {a b : Bool} (h : a = b) : Ending.returned (.bool a) = .returned (.bool b) := by rw [h]
theorem addr_add' (g off i : Nat) : (⟨g, off, none⟩ : Addr).add i = ⟨g, off + i, none⟩ := by unfold Addr.add; split <;> simp_all
theorem lt_of_heap {w : World} {b : Nat} {o : Obj} (h : w.heap[b]? = some o) : b < w.heap.size := (Array.getElem?_eq_some_iff.1 h).1
theorem lt_of_cell {w : World} {b o : Nat} {v : Value} (h : w.cell? ⟨b, o, none⟩ = some v) : b < w.heap.size := World.block_lt_of_cell? w ⟨b, o, none⟩ h
theorem grownBy_trans {a b c : World} {r : Option Nat} (h : a.grownBy b r) (k : b.grownBy c r) : a.grownBy c r :=
  ⟨k.os.trans h.os, k.tape.trans h.tape, k.output.trans h.output, Nat.le_trans h.size k.size, fun i hi hr => (k.block i (Nat.lt_of_lt_of_le hi h.size) hr).trans (h.block i hi hr)⟩
theorem grownBy_drew {a b : World} {r : Option Nat} (h : a.grownBy b r) : a.grownBy b.drew r := ⟨h.os, h.tape, h.output, h.size, h.block⟩
theorem grownBy_drewN {a b : World} {r : Option Nat} (h : a.grownBy b r) (n : Nat) : a.grownBy (b.drewN n) r := ⟨h.os, h.tape, h.output, h.size, h.block⟩
theorem grownBy_refl (w : World) (r : Option Nat) : w.grownBy w r := ⟨rfl, rfl, rfl, Nat.le_refl _, fun _ _ _ => rfl⟩
theorem grownBy_alloc' {a b : World} (h : a.grownBy b none) (o : Obj) : a.grownBy (b.alloc o) none := grownBy_trans h (World.grownBy_alloc b o none)
theorem grown_new {w W w2 : World} {g : Nat} (h : w.grownBy W none) (k : W.grownBy w2 (some g)) (hg : w.heap.size ≤ g) : w.grownBy w2 none :=
  ⟨k.os.trans h.os, k.tape.trans h.tape, k.output.trans h.output, Nat.le_trans h.size k.size, fun x hx _ => (k.block x (Nat.lt_of_lt_of_le hx h.size) (fun e => by have := Option.some.inj e; omega)).trans (h.block x hx (by simp))⟩
theorem setCell_else {w : World} {g i j : Nat} (hne : j ≠ g) (v : Value) : (w.setCell ⟨g, i, none⟩ v).heap[j]? = w.heap[j]? := Below.heap_setCell w ⟨g, i, none⟩ v j hne
/-- A write to what is new. -/
theorem grownBy_set {w W : World} (h : w.grownBy W none) {g o : Nat} (hg : w.heap.size ≤ g) (v : Value) : w.grownBy (W.setCell ⟨g, o, none⟩ v) none :=
  ⟨h.os, h.tape, h.output, by have := h.size; simp [World.setCell]; omega, fun x hx _ => by
    rw [setCell_else (by omega)]; exact h.block x hx (by simp)⟩
theorem below_of_grown {w w' : World} (h : w.grownBy w' none) : Below w.heap.size w w' := ⟨h.os, h.tape, h.output, h.size, fun k hk => h.block k hk (by simp)⟩
theorem grown_of_below {w w' : World} (h : Below w.heap.size w w') : w.grownBy w' none := ⟨h.os, h.tape, h.output, h.size, fun k hk _ => h.block k hk⟩
theorem cell_of_block {w w' : World} {g o : Nat} (e : w'.heap[g]? = w.heap[g]?) : w'.cell? ⟨g, o, none⟩ = w.cell? ⟨g, o, none⟩ := World.cell?_of_block (w := w) (a := ⟨g, o, none⟩) e
theorem cell_at {w : World} {g o : Nat} {L : Array Value} {t : TypeId} {v : Value} (h : w.heap[g]? = some (.cells L t)) (hv : L[o]? = some v) : w.cell? ⟨g, o, none⟩ = some v := by simp [World.cell?, h, hv]
theorem free_at {w : World} {g o : Nat} {L : Array Value} {t : TypeId} (h : w.heap[g]? = some (.cells L t)) : w.frozen? ⟨g, o, none⟩ = false := by simp [World.frozen?, h]
/-- The number at a place; 0 where there is none. -/
def nth (l : List Nat) (k : Nat) : Nat := l.getD k 0
theorem nth_of {l : List Nat} {k : Nat} (h : k < l.length) : nth l k = l[k] := by simp [nth, h]
theorem nth_over (l : List Nat) {k : Nat} (h : l.length ≤ k) : nth l k = 0 := by simp [nth, h]
def I64 (x : Int) : Prop := -9223372036854775808 ≤ x ∧ x ≤ 9223372036854775807
theorem setCell_row {w : World} {g i : Nat} {L : List Value} {t : TypeId} (h : w.heap[g]? = some (.cells L.toArray t)) (v : Value) : (w.setCell ⟨g, i, none⟩ v).heap[g]? = some (.cells (L.set i v).toArray t) := by
  simp [World.setCell, Array.getElem?_modify, h]
/-- A row of one's own, of n cells. -/
def OwnR (w : World) (g n : Nat) (t : TypeId) : Prop := ∃ L : List Value, w.heap[g]? = some (.cells L.toArray t) ∧ L.length = n
theorem OwnR.set {w : World} {g n : Nat} {t : TypeId} (h : OwnR w g n t) (o : Nat) (v : Value) : OwnR (w.setCell ⟨g, o, none⟩ v) g n t := by
  obtain ⟨L, h1, h2⟩ := h
  exact ⟨L.set o v, setCell_row h1 v, by simpa using h2⟩
theorem OwnR.of_heap {w w' : World} {g n : Nat} {t : TypeId} (h : OwnR w g n t) (e : w'.heap[g]? = w.heap[g]?) : OwnR w' g n t := by
  obtain ⟨L, h1, h2⟩ := h
  exact ⟨L, e.trans h1, h2⟩
theorem OwnR.at {w : World} {g n : Nat} {t : TypeId} (h : OwnR w g n t) {o : Nat} (ho : o < n) : (∃ v, w.cell? ⟨g, o, none⟩ = some v) ∧ w.frozen? ⟨g, o, none⟩ = false := by
  obtain ⟨L, h1, h2⟩ := h
  exact ⟨⟨_, cell_at h1 (by rw [List.getElem?_toArray, List.getElem?_eq_getElem (by omega)])⟩, free_at h1⟩
theorem OwnR.free {w : World} {g n : Nat} {t : TypeId} (h : OwnR w g n t) (o : Nat) : w.frozen? ⟨g, o, none⟩ = false := by
  obtain ⟨L, h1, h2⟩ := h
  exact free_at h1
theorem OwnR.lt {w : World} {g n : Nat} {t : TypeId} (h : OwnR w g n t) : g < w.heap.size := by
  obtain ⟨L, h1, _⟩ := h
  exact lt_of_heap h1
theorem OwnR.same {w : World} {g n : Nat} {t : TypeId} (h : OwnR w g n t) {o : Nat} (ho : o < n) (v : Value) : (w.setCell ⟨g, o, none⟩ v).cell? ⟨g, o, none⟩ = some v := by
  obtain ⟨L, h1, h2⟩ := h
  exact cell_at (setCell_row h1 v) (by rw [List.getElem?_toArray, List.getElem?_set_self (by omega)])
theorem cell_off {w : World} {g o o' : Nat} {v u : Value} (h : w.cell? ⟨g, o, none⟩ = some v) (hne : o ≠ o') : (w.setCell ⟨g, o', none⟩ u).cell? ⟨g, o, none⟩ = some v := by
  rw [World.cell?_setCell_other _ _ _ _ (fun e => hne (by first | exact congrArg Addr.off e | exact (congrArg Addr.off e).symm))]; exact h
theorem cell_else {w : World} {g g' o o' : Nat} {v u : Value} (h : w.cell? ⟨g, o, none⟩ = some v) (hne : g ≠ g') : (w.setCell ⟨g', o', none⟩ u).cell? ⟨g, o, none⟩ = some v := by
  rw [cell_of_block (setCell_else hne u)]; exact h
/-! ### One world follows another -/
/-- What K doesn't name lies as it lay. -/
structure Stp (K : Nat → Prop) (w w' : World) : Prop where
  os : w'.os = w.os
  tape : w'.tape = w.tape
  output : w'.output = w.output
  size : w.heap.size ≤ w'.heap.size
  same : ∀ g, g < w.heap.size → ¬ K g → w'.heap[g]? = w.heap[g]?
abbrev No : Nat → Prop := fun _ => False
theorem Stp.refl (K : Nat → Prop) (w : World) : Stp K w w := ⟨rfl, rfl, rfl, Nat.le_refl _, fun _ _ _ => rfl⟩
theorem Stp.trans {K : Nat → Prop} {a b c : World} (h : Stp K a b) (k : Stp K b c) : Stp K a c :=
  ⟨k.os.trans h.os, k.tape.trans h.tape, k.output.trans h.output, Nat.le_trans h.size k.size, fun g hg hk => (k.same g (Nat.lt_of_lt_of_le hg h.size) hk).trans (h.same g hg hk)⟩
theorem Stp.more {K L : Nat → Prop} {a b : World} (h : Stp K a b) (hk : ∀ g, K g → L g) : Stp L a b := ⟨h.os, h.tape, h.output, h.size, fun g hg hl => h.same g hg fun k => hl (hk g k)⟩
theorem Stp.of_grown {K : Nat → Prop} {a b : World} (h : a.grownBy b none) : Stp K a b := ⟨h.os, h.tape, h.output, h.size, fun g hg _ => h.block g hg (by simp)⟩
theorem Stp.grown {a b : World} (h : Stp No a b) : a.grownBy b none := ⟨h.os, h.tape, h.output, h.size, fun g hg _ => h.same g hg fun k => k⟩
theorem Stp.of_below {a b : World} (h : Below a.heap.size a b) (K : Nat → Prop) : Stp K a b := ⟨h.os, h.tape, h.output, h.size, fun g hg _ => h.block g hg⟩
theorem Stp.below {K : Nat → Prop} {a b : World} (h : Stp K a b) {B : Nat} (hB : B ≤ a.heap.size) (hk : ∀ g, K g → B ≤ g) : Below B a b := ⟨h.os, h.tape, h.output, h.size, fun g hg => h.same g (by omega) fun k => by have := hk g k; omega⟩
theorem Stp.drew {K : Nat → Prop} {a b : World} (h : Stp K a b) : Stp K a b.drew := ⟨h.os, h.tape, h.output, h.size, h.same⟩
theorem Stp.drewN {K : Nat → Prop} {a b : World} (h : Stp K a b) (n : Nat) : Stp K a (b.drewN n) := ⟨h.os, h.tape, h.output, h.size, h.same⟩
theorem Stp.alloc {K : Nat → Prop} {a b : World} (h : Stp K a b) (o : Obj) : Stp K a (b.alloc o) := h.trans (.of_grown (World.grownBy_alloc b o none))
/-- A write to what K names, or to what is new. -/
theorem Stp.set {K : Nat → Prop} {a b : World} (h : Stp K a b) {g o : Nat} (hg : K g ∨ a.heap.size ≤ g) (v : Value) : Stp K a (b.setCell ⟨g, o, none⟩ v) :=
  ⟨h.os, h.tape, h.output, by have := h.size; simp [World.setCell]; omega, fun x hx hl => by
    rw [setCell_else (by rintro rfl; rcases hg with e | e; exact hl e; omega)]; exact h.same x hx hl⟩
theorem Stp.cell {K : Nat → Prop} {a b : World} (h : Stp K a b) {g o : Nat} {v : Value} (hk : ¬ K g) (hc : a.cell? ⟨g, o, none⟩ = some v) : b.cell? ⟨g, o, none⟩ = some v := (cell_of_block (h.same g (lt_of_cell hc) hk)).trans hc
theorem Stp.obj {K : Nat → Prop} {a b : World} (h : Stp K a b) {g : Nat} {o : Obj} (hk : ¬ K g) (hc : a.heap[g]? = some o) : b.heap[g]? = some o := (h.same g (lt_of_heap hc) hk).trans hc
/-! ### Plainly -/
structure Blk where
  st : Int
  er : Nat
/-- Where a pool lies: its box, its row of dies, each die's blocks; how many dies, how many blocks of each. -/
structure Lay where
  p : Nat
  d : Nat
  b : Nat → Nat
  n : Nat
  m : Nat
abbrev Pool := Nat → Nat → Blk
def Lay.K (P : Lay) : Nat → Prop := fun g => ∃ i, i < P.n ∧ g = P.b i
abbrev sl0 (g n : Nat) : Value := .slice (some ⟨g, 0, none⟩) n n
structure PoolM (w : World) (P : Lay) (f : Pool) : Prop where
  n1 : 1 ≤ P.n
  n8 : P.n ≤ 8
  m1 : 1 ≤ P.m
  m64 : P.m ≤ 64
  box : w.heap[P.p]? = some (.cells #[sl0 P.d P.n] 52)
  od : OwnR w P.d P.n 54
  die : ∀ i, i < P.n → w.cell? ⟨P.d, i, none⟩ = some (sl0 (P.b i) P.m)
  ob : ∀ i, i < P.n → OwnR w (P.b i) (P.m * 2) 62
  st : ∀ i k, i < P.n → k < P.m → w.cell? ⟨P.b i, k * 2, none⟩ = some (num (f i k).st)
  er : ∀ i k, i < P.n → k < P.m → w.cell? ⟨P.b i, k * 2 + 1, none⟩ = some (q32 (f i k).er)
  s1 : ∀ i k, i < P.n → k < P.m → 1 ≤ (f i k).st
  s4 : ∀ i k, i < P.n → k < P.m → (f i k).st ≤ 4
  e1 : ∀ i k, i < P.n → k < P.m → (f i k).er < 4294967296
  np : ∀ i, i < P.n → P.b i ≠ P.p
  nd : ∀ i, i < P.n → P.b i ≠ P.d
  nn : P.p ≠ P.d
  inj : ∀ i j, i < P.n → j < P.n → P.b i = P.b j → i = j
theorem PoolM.stp {K : Nat → Prop} {w w' : World} {P : Lay} {f : Pool} (h : PoolM w P f) (s : Stp K w w') (k1 : ¬ K P.p) (k2 : ¬ K P.d) (k3 : ∀ i, i < P.n → ¬ K (P.b i)) : PoolM w' P f :=
  ⟨h.n1, h.n8, h.m1, h.m64, s.obj k1 h.box, h.od.of_heap (s.same _ h.od.lt k2), fun i hi => s.cell k2 (h.die i hi), fun i hi => (h.ob i hi).of_heap (s.same _ (h.ob i hi).lt (k3 i hi)), fun i k hi hk => s.cell (k3 i hi) (h.st i k hi hk), fun i k hi hk => s.cell (k3 i hi) (h.er i k hi hk), h.s1, h.s4, h.e1, h.np, h.nd, h.nn, h.inj⟩
theorem PoolM.grown {w w' : World} {P : Lay} {f : Pool} (h : PoolM w P f) (s : w.grownBy w' none) : PoolM w' P f := h.stp (K := No) (.of_grown s) (fun k => k) (fun k => k) fun _ _ k => k
theorem PoolM.boxCell {w : World} {P : Lay} {f : Pool} (h : PoolM w P f) : w.cell? ⟨P.p, 0, none⟩ = some (sl0 P.d P.n) := cell_at h.box rfl
/-- One block is another. -/
def upd (f : Pool) (i k : Nat) (x : Blk) : Pool := fun a b => if a = i ∧ b = k then x else f a b
theorem upd_same (f : Pool) (i k : Nat) (x : Blk) : upd f i k x i k = x := by simp [upd]
theorem upd_other {f : Pool} {i k a b : Nat} (x : Blk) (h : ¬ (a = i ∧ b = k)) : upd f i k x a b = f a b := by simp [upd, h]
theorem PoolM.setSt {w : World} {P : Lay} {f : Pool} (h : PoolM w P f) {i k : Nat} (hi : i < P.n) (hk : k < P.m) (s : Int) (h1 : 1 ≤ s) (h4 : s ≤ 4) : PoolM (w.setCell ⟨P.b i, k * 2, none⟩ (num s)) P (upd f i k ⟨s, (f i k).er⟩) := by
  have el : ∀ g, g ≠ P.b i → (w.setCell ⟨P.b i, k * 2, none⟩ (num s)).heap[g]? = w.heap[g]? := fun g hg => setCell_else hg _
  refine ⟨h.n1, h.n8, h.m1, h.m64, (el _ (h.np i hi).symm).trans h.box, h.od.of_heap (el _ (h.nd i hi).symm), fun a ha => (cell_of_block (el _ (h.nd i hi).symm)).trans (h.die a ha), fun a ha => ?_, fun a c ha hc => ?_, fun a c ha hc => ?_, fun a c ha hc => ?_, fun a c ha hc => ?_, fun a c ha hc => ?_, h.np, h.nd, h.nn, h.inj⟩
  · by_cases e : a = i
    · subst e; exact (h.ob a ha).set _ _
    · exact (h.ob a ha).of_heap (el _ fun e' => e (h.inj a i ha hi e'))
  · by_cases e : a = i
    · subst e
      by_cases e2 : c = k
      · subst e2; rw [upd_same]; exact (h.ob a ha).same (by omega) _
      · rw [upd_other _ (fun x => e2 x.2)]; exact cell_off (h.st a c ha hc) (by omega)
    · rw [upd_other _ (fun x => e x.1)]; exact cell_else (h.st a c ha hc) fun e' => e (h.inj a i ha hi e')
  · by_cases e : a = i
    · subst e
      by_cases e2 : c = k
      · subst e2; rw [upd_same]; exact cell_off (h.er a c ha hc) (by omega)
      · rw [upd_other _ (fun x => e2 x.2)]; exact cell_off (h.er a c ha hc) (by omega)
    · rw [upd_other _ (fun x => e x.1)]; exact cell_else (h.er a c ha hc) fun e' => e (h.inj a i ha hi e')
  all_goals
    unfold upd
    split
    · first | exact h1 | exact h4 | exact h.e1 i k hi hk
    · first | exact h.s1 a c ha hc | exact h.s4 a c ha hc | exact h.e1 a c ha hc
theorem PoolM.setEr {w : World} {P : Lay} {f : Pool} (h : PoolM w P f) {i k : Nat} (hi : i < P.n) (hk : k < P.m) (s : Nat) (h1 : s < 4294967296) : PoolM (w.setCell ⟨P.b i, k * 2 + 1, none⟩ (q32 s)) P (upd f i k ⟨(f i k).st, s⟩) := by
  have el : ∀ g, g ≠ P.b i → (w.setCell ⟨P.b i, k * 2 + 1, none⟩ (q32 s)).heap[g]? = w.heap[g]? := fun g hg => setCell_else hg _
  refine ⟨h.n1, h.n8, h.m1, h.m64, (el _ (h.np i hi).symm).trans h.box, h.od.of_heap (el _ (h.nd i hi).symm), fun a ha => (cell_of_block (el _ (h.nd i hi).symm)).trans (h.die a ha), fun a ha => ?_, fun a c ha hc => ?_, fun a c ha hc => ?_, fun a c ha hc => ?_, fun a c ha hc => ?_, fun a c ha hc => ?_, h.np, h.nd, h.nn, h.inj⟩
  · by_cases e : a = i
    · subst e; exact (h.ob a ha).set _ _
    · exact (h.ob a ha).of_heap (el _ fun e' => e (h.inj a i ha hi e'))
  · by_cases e : a = i
    · subst e
      by_cases e2 : c = k
      · subst e2; rw [upd_same]; exact cell_off (h.st a c ha hc) (by omega)
      · rw [upd_other _ (fun x => e2 x.2)]; exact cell_off (h.st a c ha hc) (by omega)
    · rw [upd_other _ (fun x => e x.1)]; exact cell_else (h.st a c ha hc) fun e' => e (h.inj a i ha hi e')
  · by_cases e : a = i
    · subst e
      by_cases e2 : c = k
      · subst e2; rw [upd_same]; exact (h.ob a ha).same (by omega) _
      · rw [upd_other _ (fun x => e2 x.2)]; exact cell_off (h.er a c ha hc) (by omega)
    · rw [upd_other _ (fun x => e x.1)]; exact cell_else (h.er a c ha hc) fun e' => e (h.inj a i ha hi e')
  all_goals
    unfold upd
    split
    · first | exact h.s1 i k hi hk | exact h.s4 i k hi hk | exact h1
    · first | exact h.s1 a c ha hc | exact h.s4 a c ha hc | exact h.e1 a c ha hc
theorem hide {p : Prop} (h : p) : Hid p := h
theorem hnot (x : Bool) (w : World) : (Op.unary .not (.bool x)).run Tryd.prog w = .ok (.bool (!x)) w := rfl
end Bk
end Go.Proofs.YtoakokpeomlkjaaDoor
