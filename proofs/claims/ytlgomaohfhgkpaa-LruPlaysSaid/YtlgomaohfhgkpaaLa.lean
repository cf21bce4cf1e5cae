/- Layer 10 (lru): a ring of links, plainly and as it lies in memory; how one world follows another. -/
import Derived.Test.YtlgomaohfhgkpaaRows
import Derived.WalkKit
import Derived.WalkSpells
import Derived.WalkLawsBesides
import Derived.Laws.CopyOwn
import Derived.Laws.IdiomCopy
import Derived.Laws.BytesArg
import Derived.Laws.BitsAllLaws
import Derived.Laws.MakeOwn
import Derived.Laws.StructEq
import Derived.OwnWalk
import Derived.Deep.QuietTactic
import Derived.BigQuiet
import Derived.BigRegion
import Derived.Deep.RegionWith
import Derived.Deep.MidRow
import Derived.Maps.OwnSet
import Derived.Maps.StringElems
import Derived.RangeFuncNested
import Derived.RangeFuncBound
import Derived.RangeFuncBox
import Derived.RangeFuncCalls
import Derived.RangeFuncLeaves
import Derived.Shelf.Abstract
import Derived.Shelf.RegionOpen
import Derived.OwnWalkIn
import Derived.TacticsInMore
import Derived.LoopNIn
import Derived.LoopIn
namespace Go.Proofs.Ytlgomaohfhgkpaa
open Go.RowKit Go.Maps
namespace Lr
abbrev num (n : Int) : Value := .int .i64 n
abbrev q32 (n : Nat) : Value := .int .u32 n
abbrev q64 (n : Nat) : Value := .int .u64 n
abbrev q8 (n : Nat) : Value := .int .u8 n
abbrev ptr (g : Nat) : Value := .pointer (some ⟨g, 0, none⟩)
abbrev u64v (n : Int) : Value := .int .u64 n
theorem ret_int {k : IntKind} {a b : Int} (h : a = b) : Ending.returned (.int k a) = .returned (.int k b) := by rw [h]
theorem ret_bool {a b : Bool} (h : a = b) : Ending.returned (.bool a) = .returned (.bool b) := by rw [h]
theorem addr_add' (g off i : Nat) : (⟨g, off, none⟩ : Addr).add i = ⟨g, off + i, none⟩ := by unfold Addr.add; split <;> simp_all
theorem lt_of_heap {w : World} {b : Nat} {o : Obj} (h : w.heap[b]? = some o) : b < w.heap.size := (Array.getElem?_eq_some_iff.1 h).1
theorem lt_of_cell {w : World} {b o : Nat} {v : Value} (h : w.cell? ⟨b, o, none⟩ = some v) : b < w.heap.size := World.block_lt_of_cell? w ⟨b, o, none⟩ h
theorem grownBy_trans {a b c : World} {r : Option Nat} (h : a.grownBy b r) (k : b.grownBy c r) : a.grownBy c r :=
  ⟨k.os.trans h.os, k.tape.trans h.tape, k.output.trans h.output, Nat.le_trans h.size k.size, fun i hi hr => (k.block i (Nat.lt_of_lt_of_le hi h.size) hr).trans (h.block i hi hr)⟩
theorem grownBy_drew {a b : World} {r : Option Nat} (h : a.grownBy b r) : a.grownBy b.drew r := ⟨h.os, h.tape, h.output, h.size, h.block⟩
theorem grownBy_drewN {a b : World} {r : Option Nat} (h : a.grownBy b r) (n : Nat) : a.grownBy (b.drewN n) r := ⟨h.os, h.tape, h.output, h.size, h.block⟩
theorem grownBy_refl (w : World) (r : Option Nat) : w.grownBy w r := ⟨rfl, rfl, rfl, Nat.le_refl _, fun _ _ _ => rfl⟩
theorem grownBy_alloc' {a b : World} (h : a.grownBy b none) (o : Obj) : a.grownBy (b.alloc o) none := grownBy_trans h (World.grownBy_alloc b o none)
theorem grown_new {w W w2 : World} {g : Nat} (h : w.grownBy W none) (k : W.grownBy w2 (some g)) (hg : w.heap.size ≤ g) : w.grownBy w2 none :=
  ⟨k.os.trans h.os, k.tape.trans h.tape, k.output.trans h.output, Nat.le_trans h.size k.size, fun x hx _ => (k.block x (Nat.lt_of_lt_of_le hx h.size) (fun e => by have := Option.some.inj e; omega)).trans (h.block x hx (by simp))⟩
theorem setCell_else {w : World} {g i j : Nat} (hne : j ≠ g) (v : Value) : (w.setCell ⟨g, i, none⟩ v).heap[j]? = w.heap[j]? := Below.heap_setCell w ⟨g, i, none⟩ v j hne
/-- A write to what is new. -/
theorem grownBy_set {w W : World} (h : w.grownBy W none) {g o : Nat} (hg : w.heap.size ≤ g) (v : Value) : w.grownBy (W.setCell ⟨g, o, none⟩ v) none :=
  ⟨h.os, h.tape, h.output, by have := h.size; simp [World.setCell]; omega, fun x hx _ => by
    rw [setCell_else (by omega)]; exact h.block x hx (by simp)⟩
theorem below_of_grown {w w' : World} (h : w.grownBy w' none) : Below w.heap.size w w' := ⟨h.os, h.tape, h.output, h.size, fun k hk => h.block k hk (by simp)⟩
theorem grown_of_below {w w' : World} (h : Below w.heap.size w w') : w.grownBy w' none := ⟨h.os, h.tape, h.output, h.size, fun k hk _ => h.block k hk⟩
theorem cell_of_block {w w' : World} {g o : Nat} (e : w'.heap[g]? = w.heap[g]?) : w'.cell? ⟨g, o, none⟩ = w.cell? ⟨g, o, none⟩ := World.cell?_of_block (w := w) (a := ⟨g, o, none⟩) e
theorem cell_at {w : World} {g o : Nat} {L : Array Value} {t : TypeId} {v : Value} (h : w.heap[g]? = some (.cells L t)) (hv : L[o]? = some v) : w.cell? ⟨g, o, none⟩ = some v := by simp [World.cell?, h, hv]
theorem free_at {w : World} {g o : Nat} {L : Array Value} {t : TypeId} (h : w.heap[g]? = some (.cells L t)) : w.frozen? ⟨g, o, none⟩ = false := by simp [World.frozen?, h]
/-- The number at a place; 0 where there is none. -/
def nth (l : List Nat) (k : Nat) : Nat := l.getD k 0
theorem nth_of {l : List Nat} {k : Nat} (h : k < l.length) : nth l k = l[k] := by simp [nth, h]
theorem nth_over (l : List Nat) {k : Nat} (h : l.length ≤ k) : nth l k = 0 := by simp [nth, h]
def I64 (x : Int) : Prop := -9223372036854775808 ≤ x ∧ x ≤ 9223372036854775807
theorem setCell_row {w : World} {g i : Nat} {L : List Value} {t : TypeId} (h : w.heap[g]? = some (.cells L.toArray t)) (v : Value) : (w.setCell ⟨g, i, none⟩ v).heap[g]? = some (.cells (L.set i v).toArray t) := by
  simp [World.setCell, Array.getElem?_modify, h]
/-- A row of one's own, of n cells. -/
def OwnR (w : World) (g n : Nat) (t : TypeId) : Prop := ∃ L : List Value, w.heap[g]? = some (.cells L.toArray t) ∧ L.length = n
theorem OwnR.set {w : World} {g n : Nat} {t : TypeId} (h : OwnR w g n t) (o : Nat) (v : Value) : OwnR (w.setCell ⟨g, o, none⟩ v) g n t := by
  obtain ⟨L, h1, h2⟩ := h
  exact ⟨L.set o v, setCell_row h1 v, by simpa using h2⟩
theorem OwnR.of_heap {w w' : World} {g n : Nat} {t : TypeId} (h : OwnR w g n t) (e : w'.heap[g]? = w.heap[g]?) : OwnR w' g n t := by
  obtain ⟨L, h1, h2⟩ := h
  exact ⟨L, e.trans h1, h2⟩
theorem OwnR.at {w : World} {g n : Nat} {t : TypeId} (h : OwnR w g n t) {o : Nat} (ho : o < n) : (∃ v, w.cell? ⟨g, o, none⟩ = some v) ∧ w.frozen? ⟨g, o, none⟩ = false := by
  obtain ⟨L, h1, h2⟩ := h
  exact ⟨⟨_, cell_at h1 (by rw [List.getElem?_toArray, List.getElem?_eq_getElem (by omega)])⟩, free_at h1⟩
theorem OwnR.free {w : World} {g n : Nat} {t : TypeId} (h : OwnR w g n t) (o : Nat) : w.frozen? ⟨g, o, none⟩ = false := by
  obtain ⟨L, h1, h2⟩ := h
  exact free_at h1
theorem OwnR.lt {w : World} {g n : Nat} {t : TypeId} (h : OwnR w g n t) : g < w.heap.size := by
  obtain ⟨L, h1, _⟩ := h
  exact lt_of_heap h1
theorem OwnR.same {w : World} {g n : Nat} {t : TypeId} (h : OwnR w g n t) {o : Nat} (ho : o < n) (v : Value) : (w.setCell ⟨g, o, none⟩ v).cell? ⟨g, o, none⟩ = some v := by
  obtain ⟨L, h1, h2⟩ := h
  exact cell_at (setCell_row h1 v) (by rw [List.getElem?_toArray, List.getElem?_set_self (by omega)])
theorem cell_off {w : World} {g o o' : Nat} {v u : Value} (h : w.cell? ⟨g, o, none⟩ = some v) (hne : o ≠ o') : (w.setCell ⟨g, o', none⟩ u).cell? ⟨g, o, none⟩ = some v := by
  rw [World.cell?_setCell_other _ _ _ _ (fun e => hne (by first | exact congrArg Addr.off e | exact (congrArg Addr.off e).symm))]; exact h
theorem cell_else {w : World} {g g' o o' : Nat} {v u : Value} (h : w.cell? ⟨g, o, none⟩ = some v) (hne : g ≠ g') : (w.setCell ⟨g', o', none⟩ u).cell? ⟨g, o, none⟩ = some v := by
  rw [cell_of_block (setCell_else hne u)]; exact h
/-! ### One world follows another -/
/-- What K doesn't name lies as it lay. -/
structure Stp (K : Nat → Prop) (w w' : World) : Prop where
  os : w'.os = w.os
  tape : w'.tape = w.tape
  output : w'.output = w.output
  size : w.heap.size ≤ w'.heap.size
  same : ∀ g, g < w.heap.size → ¬ K g → w'.heap[g]? = w.heap[g]?
abbrev No : Nat → Prop := fun _ => False
theorem Stp.refl (K : Nat → Prop) (w : World) : Stp K w w := ⟨rfl, rfl, rfl, Nat.le_refl _, fun _ _ _ => rfl⟩
theorem Stp.trans {K : Nat → Prop} {a b c : World} (h : Stp K a b) (k : Stp K b c) : Stp K a c :=
  ⟨k.os.trans h.os, k.tape.trans h.tape, k.output.trans h.output, Nat.le_trans h.size k.size, fun g hg hk => (k.same g (Nat.lt_of_lt_of_le hg h.size) hk).trans (h.same g hg hk)⟩
theorem Stp.more {K L : Nat → Prop} {a b : World} (h : Stp K a b) (hk : ∀ g, K g → L g) : Stp L a b := ⟨h.os, h.tape, h.output, h.size, fun g hg hl => h.same g hg fun k => hl (hk g k)⟩
theorem Stp.of_grown {K : Nat → Prop} {a b : World} (h : a.grownBy b none) : Stp K a b := ⟨h.os, h.tape, h.output, h.size, fun g hg _ => h.block g hg (by simp)⟩
theorem Stp.grown {a b : World} (h : Stp No a b) : a.grownBy b none := ⟨h.os, h.tape, h.output, h.size, fun g hg _ => h.same g hg fun k => k⟩
theorem Stp.of_below {a b : World} (h : Below a.heap.size a b) (K : Nat → Prop) : Stp K a b := ⟨h.os, h.tape, h.output, h.size, fun g hg _ => h.block g hg⟩
theorem Stp.below {K : Nat → Prop} {a b : World} (h : Stp K a b) {B : Nat} (hB : B ≤ a.heap.size) (hk : ∀ g, K g → B ≤ g) : Below B a b := ⟨h.os, h.tape, h.output, h.size, fun g hg => h.same g (by omega) fun k => by have := hk g k; omega⟩
theorem Stp.drew {K : Nat → Prop} {a b : World} (h : Stp K a b) : Stp K a b.drew := ⟨h.os, h.tape, h.output, h.size, h.same⟩
theorem Stp.drewN {K : Nat → Prop} {a b : World} (h : Stp K a b) (n : Nat) : Stp K a (b.drewN n) := ⟨h.os, h.tape, h.output, h.size, h.same⟩
theorem Stp.alloc {K : Nat → Prop} {a b : World} (h : Stp K a b) (o : Obj) : Stp K a (b.alloc o) := h.trans (.of_grown (World.grownBy_alloc b o none))
/-- A write to what K names, or to what is new. -/
theorem Stp.set {K : Nat → Prop} {a b : World} (h : Stp K a b) {g o : Nat} (hg : K g ∨ a.heap.size ≤ g) (v : Value) : Stp K a (b.setCell ⟨g, o, none⟩ v) :=
  ⟨h.os, h.tape, h.output, by have := h.size; simp [World.setCell]; omega, fun x hx hl => by
    rw [setCell_else (by rintro rfl; rcases hg with e | e; exact hl e; omega)]; exact h.same x hx hl⟩
theorem Stp.cell {K : Nat → Prop} {a b : World} (h : Stp K a b) {g o : Nat} {v : Value} (hk : ¬ K g) (hc : a.cell? ⟨g, o, none⟩ = some v) : b.cell? ⟨g, o, none⟩ = some v := (cell_of_block (h.same g (lt_of_cell hc) hk)).trans hc
theorem Stp.obj {K : Nat → Prop} {a b : World} (h : Stp K a b) {g : Nat} {o : Obj} (hk : ¬ K g) (hc : a.heap[g]? = some o) : b.heap[g]? = some o := (h.same g (lt_of_heap hc) hk).trans hc
/-! ### A ring, plainly -/
structure Ent where
  key : Int
  val : Int
  dirty : Bool
def up (f : Nat → Nat) (a v : Nat) : Nat → Nat := fun x => if x = a then v else f x
theorem up_same (f : Nat → Nat) (a v : Nat) : up f a v a = v := by simp [up]
theorem up_other {f : Nat → Nat} {a v x : Nat} (h : x ≠ a) : up f a v x = f x := by simp [up, h]
/-- From a by nx through bs to z; back by pv. -/
def Chn (nx pv : Nat → Nat) : Nat → List Nat → Nat → Prop
  | a, [], z => nx a = z ∧ pv z = a
  | a, b :: bs, z => nx a = b ∧ pv b = a ∧ Chn nx pv b bs z
theorem Chn.split {nx pv : Nat → Nat} {b z : Nat} {ys : List Nat} : ∀ {xs : List Nat} {a : Nat}, Chn nx pv a (xs ++ b :: ys) z → Chn nx pv a xs b ∧ Chn nx pv b ys z
  | [], _, h => ⟨⟨h.1, h.2.1⟩, h.2.2⟩
  | _ :: xs, _, h => ⟨⟨h.1, h.2.1, (Chn.split (xs := xs) h.2.2).1⟩, (Chn.split (xs := xs) h.2.2).2⟩
theorem Chn.last {nx pv : Nat → Nat} {z : Nat} : ∀ {xs : List Nat} {a : Nat}, Chn nx pv a xs z → pv z ∈ a :: xs
  | [], _, h => by simp [h.2]
  | x :: xs, a, h => List.mem_cons_of_mem _ (Chn.last (xs := xs) h.2.2)
theorem Chn.first {nx pv : Nat → Nat} {z : Nat} : ∀ {xs : List Nat} {a : Nat}, Chn nx pv a xs z → nx a ∈ xs ++ [z]
  | [], _, h => by simp [h.1]
  | x :: xs, a, h => by simp [h.1]
theorem Chn.congr {nx pv nx' pv' : Nat → Nat} {z : Nat} : ∀ {bs : List Nat} {a : Nat}, Chn nx pv a bs z → (∀ x ∈ a :: bs, nx' x = nx x) → (∀ x ∈ bs ++ [z], pv' x = pv x) → Chn nx' pv' a bs z
  | [], a, h, h1, h2 => ⟨(h1 a (by simp)).trans h.1, (h2 z (by simp)).trans h.2⟩
  | b :: bs, a, h, h1, h2 => ⟨(h1 a (by simp)).trans h.1, (h2 b (by simp)).trans h.2.1, h.2.2.congr (fun x hx => h1 x (List.mem_cons_of_mem _ hx)) (fun x hx => h2 x (by simp at hx ⊢; exact .inr hx))⟩
/-- One is taken out. -/
theorem Chn.out {nx pv : Nat → Nat} {b z : Nat} {ys : List Nat} : ∀ {xs : List Nat} {a : Nat}, Chn nx pv a xs b → Chn nx pv b ys z → (a :: xs ++ b :: ys).Nodup → (xs ++ b :: ys ++ [z]).Nodup →
    Chn (up nx (pv b) (nx b)) (up pv (nx b) (pv b)) a (xs ++ ys) z
  | [], a, h, k, d1, d2 => by
    have hb := h.2
    rw [hb]
    cases ys with
    | nil =>
      have hz := k.1
      exact ⟨by rw [hz, up_same], by rw [hz, up_same]⟩
    | cons c ys =>
      have hc := k.1
      rw [hc]
      refine ⟨up_same _ _ _, up_same _ _ _, k.2.2.congr (fun x hx => up_other ?_) (fun x hx => up_other ?_)⟩
      · rintro rfl
        simp only [List.cons_append, List.nil_append, List.nodup_cons] at d1
        exact d1.1 (List.mem_cons_of_mem _ hx)
      · rintro rfl
        simp only [List.nil_append, List.cons_append, List.nodup_cons] at d2
        exact d2.2.1 hx
  | q :: xs, a, h, k, d1, d2 => by
    have hl := h.2.2.last
    have hf := k.first
    have d1' := d1
    have d2' := d2
    simp only [List.cons_append, List.nodup_cons] at d1 d2
    refine ⟨?_, ?_, Chn.out h.2.2 k d1'.tail d2'.tail⟩
    · rw [up_other]
      · exact h.1
      · rintro rfl
        exact d1.1 (by simp at hl ⊢; rcases hl with e | e; exact .inl e; exact .inr (.inl e))
    · rw [up_other]
      · exact h.2.1
      · rintro rfl
        exact d2.1 (by simp at hf ⊢; rcases hf with e | e; exact .inr (.inr (.inl e)); exact .inr (.inr (.inr e)))
/-- One is hung behind a. -/
theorem Chn.hang {nx pv : Nat → Nat} {a l z : Nat} {bs : List Nat} (h : Chn nx pv a bs z) (ha : a ∉ bs) (hl : l ≠ a) (hlb : l ∉ bs) (hlz : l ≠ z) (hd : (bs ++ [z]).Nodup) :
    Chn (up (up nx l (nx a)) a l) (up (up pv l a) (nx a) l) a (l :: bs) z := by
  have hf := h.first
  have hlf : l ≠ nx a := by rintro rfl; simp at hf; exact hf.elim hlb hlz
  refine ⟨up_same _ _ _, by rw [up_other hlf, up_same], ?_⟩
  cases bs with
  | nil =>
    have hz := h.1
    exact ⟨by rw [up_other hl, up_same, hz], by rw [hz, up_same]⟩
  | cons c bs =>
    have hc := h.1
    rw [hc]
    refine ⟨by rw [up_other hl, up_same], up_same _ _ _, h.2.2.congr (fun x hx => ?_) (fun x hx => ?_)⟩
    · rw [up_other (by rintro rfl; exact ha hx), up_other (by rintro rfl; exact hlb hx)]
    · have hxc : x ≠ c := by
        rintro rfl
        simp only [List.cons_append, List.nodup_cons] at hd
        exact hd.1 hx
      have hxl : x ≠ l := by
        rintro rfl
        simp at hx
        rcases hx with e | e
        · exact hlb (by simp [e])
        · exact hlz e
      rw [up_other hxc, up_other hxl]
theorem Chn.front {nx pv : Nat → Nat} {z : Nat} {xs : List Nat} {a : Nat} (h : Chn nx pv a xs z) : nx a = xs.headD z := by
  cases xs with
  | nil => exact h.1
  | cons x xs => exact h.1
theorem Chn.back {nx pv : Nat → Nat} {z : Nat} : ∀ {xs : List Nat} {a : Nat}, Chn nx pv a xs z → pv z = (a :: xs).getLast (by simp)
  | [], _, h => h.2
  | x :: xs, a, h => by rw [List.getLast_cons (by simp)]; exact Chn.back (xs := xs) h.2.2
/-! ### .. and as it lies in memory -/
/-- A link: its entry, what is ahead of it, what is behind it. -/
def LinkM (w : World) (b : Nat) (e : Ent) (p n : Nat) : Prop := w.heap[b]? = some (.cells [num e.key, u64v e.val, .bool e.dirty, ptr p, ptr n].toArray 68)
theorem LinkM.lt {w : World} {b : Nat} {e : Ent} {p n : Nat} (h : LinkM w b e p n) : b < w.heap.size := lt_of_heap h
theorem LinkM.of_heap {w w' : World} {b : Nat} {e : Ent} {p n : Nat} (h : LinkM w b e p n) (k : w'.heap[b]? = w.heap[b]?) : LinkM w' b e p n := k.trans h
theorem LinkM.key {w : World} {b : Nat} {e : Ent} {p n : Nat} (h : LinkM w b e p n) : w.cell? ⟨b, 0, none⟩ = some (num e.key) := cell_at h rfl
theorem LinkM.val {w : World} {b : Nat} {e : Ent} {p n : Nat} (h : LinkM w b e p n) : w.cell? ⟨b, 1, none⟩ = some (u64v e.val) := cell_at h rfl
theorem LinkM.dirty {w : World} {b : Nat} {e : Ent} {p n : Nat} (h : LinkM w b e p n) : w.cell? ⟨b, 2, none⟩ = some (.bool e.dirty) := cell_at h rfl
theorem LinkM.ahead {w : World} {b : Nat} {e : Ent} {p n : Nat} (h : LinkM w b e p n) : w.cell? ⟨b, 3, none⟩ = some (ptr p) := cell_at h rfl
theorem LinkM.behind {w : World} {b : Nat} {e : Ent} {p n : Nat} (h : LinkM w b e p n) : w.cell? ⟨b, 4, none⟩ = some (ptr n) := cell_at h rfl
theorem LinkM.free {w : World} {b : Nat} {e : Ent} {p n : Nat} (h : LinkM w b e p n) (o : Nat) : w.frozen? ⟨b, o, none⟩ = false := free_at h
theorem LinkM.setP {w : World} {b : Nat} {e : Ent} {p n : Nat} (h : LinkM w b e p n) (x : Nat) : LinkM (w.setCell ⟨b, 3, none⟩ (ptr x)) b e x n := setCell_row h _
theorem LinkM.setN {w : World} {b : Nat} {e : Ent} {p n : Nat} (h : LinkM w b e p n) (x : Nat) : LinkM (w.setCell ⟨b, 4, none⟩ (ptr x)) b e p x := setCell_row h _
theorem LinkM.setV {w : World} {b : Nat} {e : Ent} {p n : Nat} (h : LinkM w b e p n) (x : Int) : LinkM (w.setCell ⟨b, 1, none⟩ (u64v x)) b ⟨e.key, x, e.dirty⟩ p n := setCell_row h _
theorem LinkM.setD {w : World} {b : Nat} {e : Ent} {p n : Nat} (h : LinkM w b e p n) (x : Bool) : LinkM (w.setCell ⟨b, 2, none⟩ (.bool x)) b ⟨e.key, e.val, x⟩ p n := setCell_row h _
/-- Links in memory, by functions. -/
def LinksM (w : World) (ns : List Nat) (ent : Nat → Ent) (pv nx : Nat → Nat) : Prop := ∀ b ∈ ns, LinkM w b (ent b) (pv b) (nx b)
def upE (f : Nat → Ent) (a : Nat) (v : Ent) : Nat → Ent := fun x => if x = a then v else f x
theorem upE_same (f : Nat → Ent) (a : Nat) (v : Ent) : upE f a v a = v := by simp [upE]
theorem upE_other {f : Nat → Ent} {a x : Nat} {v : Ent} (h : x ≠ a) : upE f a v x = f x := by simp [upE, h]
theorem LinksM.drew {w : World} {ns : List Nat} {ent : Nat → Ent} {pv nx : Nat → Nat} (h : LinksM w ns ent pv nx) : LinksM w.drew ns ent pv nx := h
theorem LinksM.setP {w : World} {ns : List Nat} {ent : Nat → Ent} {pv nx : Nat → Nat} (h : LinksM w ns ent pv nx) {p : Nat} (hp : p ∈ ns) (x : Nat) : LinksM (w.setCell ⟨p, 3, none⟩ (ptr x)) ns ent (up pv p x) nx := fun b hb => by
  by_cases e : b = p
  · subst e; rw [up_same]; exact (h b hb).setP x
  · rw [up_other e]; exact (h b hb).of_heap (setCell_else e _)
theorem LinksM.setN {w : World} {ns : List Nat} {ent : Nat → Ent} {pv nx : Nat → Nat} (h : LinksM w ns ent pv nx) {p : Nat} (hp : p ∈ ns) (x : Nat) : LinksM (w.setCell ⟨p, 4, none⟩ (ptr x)) ns ent pv (up nx p x) := fun b hb => by
  by_cases e : b = p
  · subst e; rw [up_same]; exact (h b hb).setN x
  · rw [up_other e]; exact (h b hb).of_heap (setCell_else e _)
theorem LinksM.setV {w : World} {ns : List Nat} {ent : Nat → Ent} {pv nx : Nat → Nat} (h : LinksM w ns ent pv nx) {p : Nat} (hp : p ∈ ns) (x : Int) : LinksM (w.setCell ⟨p, 1, none⟩ (u64v x)) ns (upE ent p ⟨(ent p).key, x, (ent p).dirty⟩) pv nx := fun b hb => by
  by_cases e : b = p
  · subst e; rw [upE_same]; exact (h b hb).setV x
  · rw [upE_other e]; exact (h b hb).of_heap (setCell_else e _)
theorem LinksM.setD {w : World} {ns : List Nat} {ent : Nat → Ent} {pv nx : Nat → Nat} (h : LinksM w ns ent pv nx) {p : Nat} (hp : p ∈ ns) (x : Bool) : LinksM (w.setCell ⟨p, 2, none⟩ (.bool x)) ns (upE ent p ⟨(ent p).key, (ent p).val, x⟩) pv nx := fun b hb => by
  by_cases e : b = p
  · subst e; rw [upE_same]; exact (h b hb).setD x
  · rw [upE_other e]; exact (h b hb).of_heap (setCell_else e _)
theorem hide {p : Prop} (h : p) : Hid p := h
theorem hnot (x : Bool) (w : World) : (Op.unary .not (.bool x)).run Try.prog w = .ok (.bool (!x)) w := rfl
end Lr
end Go.Proofs.Ytlgomaohfhgkpaa
