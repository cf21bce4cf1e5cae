/- Layer 4 (nand): what an array is, plainly; how it lies in memory; how one world follows another. -/
import Derived.Test.YtojamicakkecbabRows
import Derived.WalkKit
import Derived.WalkSpells
import Derived.WalkLawsBesides
import Derived.Laws.CopyOwn
import Derived.Laws.IdiomCopy
import Derived.Laws.BytesArg
import Derived.Laws.LoneSync
import Derived.Deep.QuietTactic
import Derived.BigQuiet
import Derived.BigRegion
import Derived.Deep.RegionWith
import Derived.Maps.OwnSet
namespace Go.Proofs.Ytojamicakkecbab
open Go.RowKit Go.Maps
namespace Nd
abbrev num (n : Int) : Value := .int .i64 n
abbrev ptr (g o : Nat) : Value := .pointer (some ⟨g, o, none⟩)
theorem ret_int {k : IntKind} {a b : Int} (h : a = b) : Ending.returned (.int k a) = .returned (.int k b) := by rw [h]
theorem ret_bool {a b : Bool} (h : a = b) : Ending.returned (.bool a) = .returned (.bool b) := by rw [h]
theorem addr_add' (g off i : Nat) : (⟨g, off, none⟩ : Addr).add i = ⟨g, off + i, none⟩ := by unfold Addr.add; split <;> simp_all
theorem lt_of_heap {w : World} {b : Nat} {o : Obj} (h : w.heap[b]? = some o) : b < w.heap.size := (Array.getElem?_eq_some_iff.1 h).1
theorem lt_of_cell {w : World} {b o : Nat} {v : Value} (h : w.cell? ⟨b, o, none⟩ = some v) : b < w.heap.size := World.block_lt_of_cell? w ⟨b, o, none⟩ h
theorem grownBy_trans {a b c : World} {r : Option Nat} (h : a.grownBy b r) (k : b.grownBy c r) : a.grownBy c r :=
  ⟨k.os.trans h.os, k.tape.trans h.tape, k.output.trans h.output, Nat.le_trans h.size k.size, fun i hi hr => (k.block i (Nat.lt_of_lt_of_le hi h.size) hr).trans (h.block i hi hr)⟩
theorem grownBy_drew {a b : World} {r : Option Nat} (h : a.grownBy b r) : a.grownBy b.drew r := ⟨h.os, h.tape, h.output, h.size, h.block⟩
theorem grownBy_drewN {a b : World} {r : Option Nat} (h : a.grownBy b r) (n : Nat) : a.grownBy (b.drewN n) r := ⟨h.os, h.tape, h.output, h.size, h.block⟩
/-- The number at a place; 0 where there is none. -/
def nth (l : List Nat) (k : Nat) : Nat := l.getD k 0
/-- A number of 64 bits. -/
def I64 (x : Int) : Prop := -9223372036854775808 ≤ x ∧ x ≤ 9223372036854775807
def nthI (l : List Int) (k : Nat) : Int := l.getD k 0
theorem nth_of {l : List Nat} {k : Nat} (h : k < l.length) : nth l k = l[k] := by simp [nth, h]
theorem nth_over (l : List Nat) {k : Nat} (h : l.length ≤ k) : nth l k = 0 := by simp [nth, h]
/-! ### Plainly -/
structure Flip where
  page : Int
  frm : Int
  times : Int
  bits : List Int
structure Blk where
  next : Int
  erases : Int
  marked : Bool
  noP : Int
  noE : Int
  pages : Nat → Option (List Nat)
  flips : List Flip
structure St where
  D : Nat
  B : Nat
  P : Nat
  Y : Nat
  on : Bool
  dead : Nat → Int
  blk : Nat → Nat → Blk
  cuts : Int → Option Int
  cnt : Nat → Int
  nc : Nat
def never : Int := 9223372036854775807
def noFlip : Flip := ⟨0, 0, 0, []⟩
def nthF (l : List Flip) (k : Nat) : Flip := l.getD k noFlip
def Blk.new : Blk := ⟨0, 0, false, never, never, fun _ => none, []⟩
def St.new (D B P Y : Nat) : St := ⟨D, B, P, Y, true, fun _ => never, fun _ _ => Blk.new, fun _ => none, fun _ => 0, 0⟩
def St.setBlk (A : St) (d b : Nat) (x : Blk) : St := { A with blk := fun i j => if i = d ∧ j = b then x else A.blk i j }
def St.setCnt (A : St) (i : Nat) (v : Int) : St := { A with cnt := fun j => if j = i then v else A.cnt j }
def St.tick (A : St) (i : Nat) : St := A.setCnt i (A.cnt i + 1)
def St.setOn (A : St) (v : Bool) : St := { A with on := v }
def St.num (A : St) : Int := A.cnt 0 + A.cnt 1 + A.cnt 2
/-- A shape that may be. -/
structure Dims (A : St) : Prop where
  d1 : 1 ≤ A.D
  d2 : A.D ≤ 8
  b1 : 1 ≤ A.B
  b2 : A.B ≤ 64
  p1 : 1 ≤ A.P
  p2 : A.P ≤ 64
  y1 : 1 ≤ A.Y
  y2 : A.Y ≤ 4096
/-- Numbers that are far from the end. -/
structure Bd (A : St) (N : Int) : Prop where
  cnt : ∀ i, i ≠ 3 → 0 ≤ A.cnt i ∧ A.cnt i ≤ N
  er : ∀ d b, 0 ≤ (A.blk d b).erases ∧ (A.blk d b).erases ≤ N
  nx : ∀ d b, -1 ≤ (A.blk d b).next ∧ (A.blk d b).next ≤ A.P
  cu : ∀ k v, A.cuts k = some v → 0 ≤ v
/-! ### In memory -/
inductive Role
  | arr : Role
  | ds : Role
  | mp : Role
  | bk : Nat → Role
  | pg : Nat → Nat → Role
  | page : Nat → Nat → Nat → Role
  | flips : Nat → Nat → Role
  | bits : Nat → Nat → Nat → Role
  | step : Role
abbrev Lab := Nat → Option Role
structure Lay where
  a : Nat
  ds : Nat
  mp : Nat
  bk : Nat → Nat
def At (w : World) (g o : Nat) (v : Value) : Prop := w.cell? ⟨g, o, none⟩ = some v ∧ w.frozen? ⟨g, o, none⟩ = false
theorem frozen_of_block {w w' : World} {g o : Nat} (e : w'.heap[g]? = w.heap[g]?) : w'.frozen? ⟨g, o, none⟩ = w.frozen? ⟨g, o, none⟩ := by
  simp [World.frozen?, e]
theorem cell_of_block {w w' : World} {g o : Nat} (e : w'.heap[g]? = w.heap[g]?) : w'.cell? ⟨g, o, none⟩ = w.cell? ⟨g, o, none⟩ := World.cell?_of_block (w := w) (a := ⟨g, o, none⟩) e
theorem At.of_heap {w w' : World} {g o : Nat} {v : Value} (h : At w g o v) (e : w'.heap[g]? = w.heap[g]?) : At w' g o v :=
  ⟨(cell_of_block e).trans h.1, (frozen_of_block e).trans h.2⟩
theorem At.lt {w : World} {g o : Nat} {v : Value} (h : At w g o v) : g < w.heap.size := lt_of_cell h.1
theorem setCell_else {w : World} {g i j : Nat} (hne : j ≠ g) (v : Value) : (w.setCell ⟨g, i, none⟩ v).heap[j]? = w.heap[j]? := Below.heap_setCell w ⟨g, i, none⟩ v j hne
theorem At.set_same {w : World} {g o : Nat} {v : Value} (h : At w g o v) (u : Value) : At (w.setCell ⟨g, o, none⟩ u) g o u :=
  ⟨World.cell?_setCell_same w ⟨g, o, none⟩ u h.1, by rw [World.frozen?_setCell]; exact h.2⟩
theorem At.set_off {w : World} {g o o' : Nat} {v : Value} (h : At w g o v) (hne : o ≠ o') (u : Value) : At (w.setCell ⟨g, o', none⟩ u) g o v :=
  ⟨by rw [World.cell?_setCell_other _ _ _ _ (fun e => hne (by first | exact congrArg Addr.off e | exact (congrArg Addr.off e).symm))]; exact h.1, by rw [World.frozen?_setCell]; exact h.2⟩
theorem At.of_row {w : World} {g o : Nat} {L : Array Value} {t : TypeId} {v : Value} (h : w.heap[g]? = some (.cells L t)) (hv : L[o]? = some v) : At w g o v :=
  ⟨by simp [World.cell?, h, hv], by simp [World.frozen?, h]⟩
/-- A page as it lies. -/
def PageM (w : World) (lab : Lab) (Y d b p : Nat) (v : Value) (o : Option (List Nat)) : Prop :=
  (o = none ∧ v = .slice none 0 0) ∨ ∃ bs g, o = some bs ∧ bs.length = Y ∧ (∀ i, nth bs i ≤ 255) ∧ v = .slice (some ⟨g, 0, none⟩) Y Y ∧ lab g = some (.page d b p) ∧ ∀ i, i < Y → w.cell? ⟨g, i, none⟩ = some (.int .u8 (nth bs i : Nat))
/-- Flips as they lie. -/
def FlipsM (w : World) (lab : Lab) (d b : Nat) (v : Value) (fs : List Flip) : Prop :=
  (fs = [] ∧ v = .slice none 0 0) ∨ ∃ g cap cur, ∃ bv : Nat → Nat, v = .slice (some ⟨g, 0, none⟩) fs.length cap ∧ lab g = some (.flips d b) ∧ w.heap[g]? = some (.cells cur 87) ∧ cur.size = 4 * cap ∧ fs.length ≤ cap ∧ cap ≤ maxLen ∧
    ∀ k, k < fs.length → cur[k * 4]? = some (num (nthF fs k).page) ∧ cur[k * 4 + 1]? = some (num (nthF fs k).frm) ∧ cur[k * 4 + 2]? = some (num (nthF fs k).times) ∧
      cur[k * 4 + 3]? = some (.slice (some ⟨bv k, 0, none⟩) (nthF fs k).bits.length (nthF fs k).bits.length) ∧ lab (bv k) = some (.bits d b k) ∧
      ∀ i, i < (nthF fs k).bits.length → w.cell? ⟨bv k, i, none⟩ = some (num (nthI (nthF fs k).bits i))
/-- A block as it lies. -/
structure BlkM (w : World) (lab : Lab) (P Y d b g o : Nat) (x : Blk) : Prop where
  next : At w g o (num x.next)
  erases : At w g (o + 1) (num x.erases)
  marked : At w g (o + 2) (.bool x.marked)
  noP : At w g (o + 3) (num x.noP)
  noE : At w g (o + 4) (num x.noE)
  pages : ∃ pg, At w g (o + 5) (.slice (some ⟨pg, 0, none⟩) P P) ∧ lab pg = some (.pg d b) ∧ ∀ p, p < P → ∃ v, At w pg p v ∧ PageM w lab Y d b p v (x.pages p)
  flips : ∃ v, At w g (o + 6) v ∧ FlipsM w lab d b v x.flips
/-- The cuts as they lie. -/
def CutsM (w : World) (mp : Nat) (f : Int → Option Int) (N : Nat) : Prop :=
  ∃ n DM, w.ownsMap Try.prog 3 (plainElem (H := Unit) Try.prog 3) mp n DM ∧ n ≤ N ∧
    (∀ k, Maps.has DM (.int .i64 k) = (f k).isSome) ∧ (∀ k v, f k = some v → ∀ z, DM.atKey (.int .i64 k) z = .lit (.int .i64 v)) ∧ (∀ k, f k = none → ∀ z, DM.atKey (.int .i64 k) z = z)
/-- An array as it lies. -/
structure Arr (w : World) (M : Lay) (A : St) (lab : Lab) : Prop where
  dims : Dims A
  la : lab M.a = some .arr
  lds : lab M.ds = some .ds
  lmp : lab M.mp = some .mp
  lbk : ∀ d, d < A.D → lab (M.bk d) = some (.bk d)
  lt : ∀ g, lab g ≠ none → g < w.heap.size
  cD : At w M.a 0 (num A.D)
  cB : At w M.a 1 (num A.B)
  cP : At w M.a 2 (num A.P)
  cY : At w M.a 3 (num A.Y)
  cOn : At w M.a 4 (.bool A.on)
  cDs : At w M.a 5 (.slice (some ⟨M.ds, 0, none⟩) A.D A.D)
  cMp : At w M.a 6 (.map (some M.mp))
  cCnt : ∀ i, i < 6 → At w M.a (7 + i) (num (A.cnt i))
  cuts : CutsM w M.mp A.cuts A.nc
  die : ∀ d, d < A.D → At w M.ds (d * 2) (num (A.dead d)) ∧ At w M.ds (d * 2 + 1) (.slice (some ⟨M.bk d, 0, none⟩) A.B A.B)
  blk : ∀ d b, d < A.D → b < A.B → BlkM w lab A.P A.Y d b (M.bk d) (b * 7) (A.blk d b)
/-- One world follows another: what is not the array's stays, what comes to it is new. -/
structure Stp (lab lab' : Lab) (w w' : World) : Prop where
  os : w'.os = w.os
  tape : w'.tape = w.tape
  output : w'.output = w.output
  size : w.heap.size ≤ w'.heap.size
  same : ∀ g, g < w.heap.size → lab g = none → w'.heap[g]? = w.heap[g]?
  own : ∀ g, lab' g ≠ none → lab g ≠ none ∨ w.heap.size ≤ g
theorem Stp.refl (lab : Lab) (w : World) : Stp lab lab w w := ⟨rfl, rfl, rfl, Nat.le_refl _, fun _ _ _ => rfl, fun _ h => .inl h⟩
theorem Stp.no {lab lab' : Lab} {w w' : World} (h : Stp lab lab' w w') {g : Nat} (hg : g < w.heap.size) (hl : lab g = none) : lab' g = none := by
  cases e : lab' g with
  | none => rfl
  | some r => rcases h.own g (by simp [e]) with k | k
              · exact absurd hl k
              · omega
theorem Stp.trans {l1 l2 l3 : Lab} {a b c : World} (h : Stp l1 l2 a b) (k : Stp l2 l3 b c) : Stp l1 l3 a c :=
  ⟨k.os.trans h.os, k.tape.trans h.tape, k.output.trans h.output, Nat.le_trans h.size k.size, fun g hg hl => (k.same g (Nat.lt_of_lt_of_le hg h.size) (h.no hg hl)).trans (h.same g hg hl), fun g hg => by
    rcases k.own g hg with e | e
    · exact h.own g e
    · exact .inr (Nat.le_trans h.size e)⟩
theorem Stp.drew {l1 l2 : Lab} {a b : World} (h : Stp l1 l2 a b) : Stp l1 l2 a b.drew := ⟨h.os, h.tape, h.output, h.size, h.same, h.own⟩
theorem Stp.drewN {l1 l2 : Lab} {a b : World} (h : Stp l1 l2 a b) (n : Nat) : Stp l1 l2 a (b.drewN n) := ⟨h.os, h.tape, h.output, h.size, h.same, h.own⟩
theorem Stp.alloc {l1 l2 : Lab} {a b : World} (h : Stp l1 l2 a b) (o : Obj) : Stp l1 l2 a (b.alloc o) := by
  have g := World.grownBy_alloc b o none
  exact ⟨g.os.trans h.os, g.tape.trans h.tape, g.output.trans h.output, Nat.le_trans h.size g.size, fun x hx hl => (g.block x (Nat.lt_of_lt_of_le hx h.size) (by simp)).trans (h.same x hx hl), h.own⟩
theorem Stp.grown {l1 l2 : Lab} {a b c : World} (h : Stp l1 l2 a b) (g : b.grownBy c none) : Stp l1 l2 a c :=
  ⟨g.os.trans h.os, g.tape.trans h.tape, g.output.trans h.output, Nat.le_trans h.size g.size, fun x hx hl => (g.block x (Nat.lt_of_lt_of_le hx h.size) (by simp)).trans (h.same x hx hl), h.own⟩
/-- A write to what is the array's, or new. -/
theorem Stp.set {l1 l2 : Lab} {a b : World} (h : Stp l1 l2 a b) {g o : Nat} (hg : l1 g ≠ none ∨ a.heap.size ≤ g) (v : Value) : Stp l1 l2 a (b.setCell ⟨g, o, none⟩ v) :=
  ⟨h.os, h.tape, h.output, by have := h.size; simp [World.setCell]; omega, fun x hx hl => by
    rw [setCell_else (by rintro rfl; rcases hg with e | e; exact e hl; omega)]; exact h.same x hx hl, h.own⟩
theorem Stp.lab {l1 l2 l3 : Lab} {a b : World} (h : Stp l1 l2 a b) (hl : ∀ g, l3 g ≠ none → l1 g ≠ none ∨ a.heap.size ≤ g) : Stp l1 l3 a b := ⟨h.os, h.tape, h.output, h.size, h.same, hl⟩
theorem Stp.grownBy {l2 : Lab} {a b : World} (h : Stp (fun _ => none) l2 a b) : a.grownBy b none := ⟨h.os, h.tape, h.output, h.size, fun k hk _ => h.same k hk rfl⟩
/-! ### What stays of an array -/
theorem PageM.kept {w w' : World} {lab lab' : Lab} {Y d b p : Nat} {v : Value} {o : Option (List Nat)} (h : PageM w lab Y d b p v o) (e : ∀ g, lab g = some (.page d b p) → w'.heap[g]? = w.heap[g]? ∧ lab' g = some (.page d b p)) : PageM w' lab' Y d b p v o := by
  rcases h with h | ⟨bs, g, h1, h2, h3, h4, h5, h6⟩
  · exact .inl h
  · exact .inr ⟨bs, g, h1, h2, h3, h4, (e g h5).2, fun i hi => (cell_of_block (e g h5).1).trans (h6 i hi)⟩
theorem FlipsM.kept {w w' : World} {lab lab' : Lab} {d b : Nat} {v : Value} {fs : List Flip} (h : FlipsM w lab d b v fs) (e1 : ∀ g, lab g = some (.flips d b) → w'.heap[g]? = w.heap[g]? ∧ lab' g = some (.flips d b)) (e2 : ∀ k g, lab g = some (.bits d b k) → w'.heap[g]? = w.heap[g]? ∧ lab' g = some (.bits d b k)) : FlipsM w' lab' d b v fs := by
  rcases h with h | ⟨g, cap, cur, bv, h1, h2, h3, h4, h5, h5', h6⟩
  · exact .inl h
  · refine .inr ⟨g, cap, cur, bv, h1, (e1 g h2).2, (e1 g h2).1.trans h3, h4, h5, h5', fun k hk => ?_⟩
    obtain ⟨a1, a2, a3, a4, a5, a6⟩ := h6 k hk
    exact ⟨a1, a2, a3, a4, (e2 k _ a5).2, fun i hi => (cell_of_block (e2 k _ a5).1).trans (a6 i hi)⟩
theorem CutsM.kept {w w' : World} {mp : Nat} {f : Int → Option Int} {N : Nat} (h : CutsM w mp f N) (e : w'.heap[mp]? = w.heap[mp]?) : CutsM w' mp f N := by
  obtain ⟨n, DM, ⟨es, clock, h1, h2, h3, h4⟩, h5⟩ := h
  exact ⟨n, DM, ⟨es, clock, e.trans h1, h2, h3, h4⟩, h5⟩
/-- A block whose own cells stand as they were. -/
theorem BlkM.kept {w w' : World} {lab lab' : Lab} {P Y d b g o : Nat} {x : Blk} (h : BlkM w lab P Y d b g o x) (ec : ∀ i v, i < 7 → At w g (o + i) v → At w' g (o + i) v)
    (e : ∀ r g', (r = .pg d b ∨ (∃ p, r = .page d b p) ∨ r = .flips d b ∨ ∃ k, r = .bits d b k) → lab g' = some r → w'.heap[g']? = w.heap[g']? ∧ lab' g' = some r) : BlkM w' lab' P Y d b g o x := by
  obtain ⟨pg, a1, a2, a3⟩ := h.pages
  obtain ⟨fv, b1, b2⟩ := h.flips
  refine ⟨ec 0 _ (by omega) h.next, ec 1 _ (by omega) h.erases, ec 2 _ (by omega) h.marked, ec 3 _ (by omega) h.noP, ec 4 _ (by omega) h.noE, ⟨pg, ec 5 _ (by omega) a1, (e _ _ (.inl rfl) a2).2, fun p hp => ?_⟩, fv, ec 6 _ (by omega) b1, b2.kept (fun g' hg => e _ g' (.inr (.inr (.inl rfl))) hg) (fun k g' hg => e _ g' (.inr (.inr (.inr ⟨k, rfl⟩))) hg)⟩
  obtain ⟨v, c1, c2⟩ := a3 p hp
  exact ⟨v, c1.of_heap (e _ _ (.inl rfl) a2).1, c2.kept (fun g' hg => e _ g' (.inr (.inl ⟨p, rfl⟩)) hg)⟩
/-- What is the array's stands as it was, and is still the array's. -/
theorem Arr.kept {w w' : World} {M : Lay} {A : St} {lab lab' : Lab} (h : Arr w M A lab) (e : ∀ g r, lab g = some r → r ≠ .step → w'.heap[g]? = w.heap[g]? ∧ lab' g = some r) (lt : ∀ g, lab' g ≠ none → g < w'.heap.size) : Arr w' M A lab' := by
  have ea := e _ _ h.la (by simp)
  have ed := e _ _ h.lds (by simp)
  have em := e _ _ h.lmp (by simp)
  refine ⟨h.dims, ea.2, ed.2, em.2, fun d hd => (e _ _ (h.lbk d hd) (by simp)).2, lt, h.cD.of_heap ea.1, h.cB.of_heap ea.1, h.cP.of_heap ea.1, h.cY.of_heap ea.1, h.cOn.of_heap ea.1, h.cDs.of_heap ea.1, h.cMp.of_heap ea.1, fun i hi => (h.cCnt i hi).of_heap ea.1, h.cuts.kept em.1, fun d hd => ⟨(h.die d hd).1.of_heap ed.1, (h.die d hd).2.of_heap ed.1⟩, fun d b hd hb => ?_⟩
  refine (h.blk d b hd hb).kept (fun i v _ hv => hv.of_heap (e _ _ (h.lbk d hd) (by simp)).1) (fun r g' hr hg => e g' r hg ?_)
  rcases hr with rfl | ⟨_, rfl⟩ | rfl | ⟨_, rfl⟩ <;> simp
theorem Arr.more {w w' : World} {M : Lay} {A : St} {lab : Lab} (h : Arr w M A lab) (hg : w.grownBy w' none) : Arr w' M A lab :=
  h.kept (fun g r hr _ => ⟨hg.block g (h.lt g (by simp [hr])) (by simp), hr⟩) (fun g hl => Nat.lt_of_lt_of_le (h.lt g hl) hg.size)
theorem Arr.drew {w : World} {M : Lay} {A : St} {lab : Lab} (h : Arr w M A lab) : Arr w.drew M A lab := h.kept (fun _ _ hr _ => ⟨rfl, hr⟩) h.lt
theorem Arr.drewN {w : World} {M : Lay} {A : St} {lab : Lab} (h : Arr w M A lab) (n : Nat) : Arr (w.drewN n) M A lab := h.kept (fun _ _ hr _ => ⟨rfl, hr⟩) h.lt
theorem Arr.alloc {w : World} {M : Lay} {A : St} {lab : Lab} (h : Arr w M A lab) (o : Obj) : Arr (w.alloc o) M A lab := h.more (World.grownBy_alloc w o none)
/-- A write to what is none of the array's, or only an operation's. -/
theorem Arr.set {w : World} {M : Lay} {A : St} {lab : Lab} (h : Arr w M A lab) {g o : Nat} (hg : lab g = none ∨ lab g = some .step) (v : Value) : Arr (w.setCell ⟨g, o, none⟩ v) M A lab :=
  h.kept (fun x r hr hs => ⟨setCell_else (by rintro rfl; rcases hg with e | e <;> rw [hr] at e <;> simp at e; exact hs e) v, hr⟩) (fun x hl => by have := h.lt x hl; simpa [World.setCell] using this)
/-- A block that is none of the array's is an operation's. -/
def addLab (lab : Lab) (s : Nat) (r : Role) : Lab := fun g => if g = s then some r else lab g
theorem Arr.step {w : World} {M : Lay} {A : St} {lab : Lab} (h : Arr w M A lab) {s : Nat} (hs : lab s = none) (hlt : s < w.heap.size) : Arr w M A (addLab lab s .step) :=
  h.kept (fun x r hr _ => ⟨rfl, by
    have : x ≠ s := by rintro rfl; rw [hs] at hr; cases hr
    simp [addLab, this, hr]⟩) (fun x hl => by
    by_cases e : x = s
    · omega
    · exact h.lt x (by simpa [addLab, e] using hl))
theorem Arr.fresh {w : World} {M : Lay} {A : St} {lab : Lab} (h : Arr w M A lab) {g : Nat} (hg : w.heap.size ≤ g) : lab g = none := by
  cases e : lab g with
  | none => rfl
  | some r => have := h.lt g (by simp [e]); omega
theorem setCell_size (w : World) (a : Addr) (v : Value) : (w.setCell a v).heap.size = w.heap.size := by simp [World.setCell]
/-- A number of the array's own is written. -/
theorem Arr.setCnt {w : World} {M : Lay} {A : St} {lab : Lab} (h : Arr w M A lab) {i : Nat} (hi : i < 6) (v : Int) : Arr (w.setCell ⟨M.a, 7 + i, none⟩ (num v)) M (A.setCnt i v) lab := by
  have e : ∀ g r, lab g = some r → r ≠ .arr → (w.setCell ⟨M.a, 7 + i, none⟩ (num v)).heap[g]? = w.heap[g]? := fun g r hr hne => setCell_else (by rintro rfl; rw [h.la] at hr; simp at hr; exact hne hr.symm) _
  refine ⟨⟨h.dims.d1, h.dims.d2, h.dims.b1, h.dims.b2, h.dims.p1, h.dims.p2, h.dims.y1, h.dims.y2⟩, h.la, h.lds, h.lmp, h.lbk, fun g hl => by rw [setCell_size]; exact h.lt g hl, h.cD.set_off (by omega) _, h.cB.set_off (by omega) _, h.cP.set_off (by omega) _, h.cY.set_off (by omega) _, h.cOn.set_off (by omega) _, h.cDs.set_off (by omega) _, h.cMp.set_off (by omega) _, fun j hj => ?_, h.cuts.kept (e _ _ h.lmp (by simp)), fun d hd => ⟨(h.die d hd).1.of_heap (e _ _ h.lds (by simp)), (h.die d hd).2.of_heap (e _ _ h.lds (by simp))⟩, fun d b hd hb => ?_⟩
  · by_cases ej : j = i
    · subst ej
      simpa [St.setCnt] using (h.cCnt j hj).set_same (num v)
    · simpa [St.setCnt, ej] using (h.cCnt j hj).set_off (by omega) (num v)
  · refine (h.blk d b hd hb).kept (fun i v _ hv => hv.of_heap (e _ _ (h.lbk d hd) (by simp))) (fun r g' hr hg => ⟨e g' r hg ?_, hg⟩)
    rcases hr with rfl | ⟨_, rfl⟩ | rfl | ⟨_, rfl⟩ <;> simp
theorem Arr.power {w : World} {M : Lay} {A : St} {lab : Lab} (h : Arr w M A lab) (v : Bool) : Arr (w.setCell ⟨M.a, 4, none⟩ (.bool v)) M (A.setOn v) lab := by
  have e : ∀ g r, lab g = some r → r ≠ .arr → (w.setCell ⟨M.a, 4, none⟩ (.bool v)).heap[g]? = w.heap[g]? := fun g r hr hne => setCell_else (by rintro rfl; rw [h.la] at hr; simp at hr; exact hne hr.symm) _
  refine ⟨⟨h.dims.d1, h.dims.d2, h.dims.b1, h.dims.b2, h.dims.p1, h.dims.p2, h.dims.y1, h.dims.y2⟩, h.la, h.lds, h.lmp, h.lbk, fun g hl => by rw [setCell_size]; exact h.lt g hl, h.cD.set_off (by omega) _, h.cB.set_off (by omega) _, h.cP.set_off (by omega) _, h.cY.set_off (by omega) _, h.cOn.set_same _, h.cDs.set_off (by omega) _, h.cMp.set_off (by omega) _, fun j hj => (h.cCnt j hj).set_off (by omega) _, h.cuts.kept (e _ _ h.lmp (by simp)), fun d hd => ⟨(h.die d hd).1.of_heap (e _ _ h.lds (by simp)), (h.die d hd).2.of_heap (e _ _ h.lds (by simp))⟩, fun d b hd hb => ?_⟩
  refine (h.blk d b hd hb).kept (fun i v _ hv => hv.of_heap (e _ _ (h.lbk d hd) (by simp))) (fun r g' hr hg => ⟨e g' r hg ?_, hg⟩)
  rcases hr with rfl | ⟨_, rfl⟩ | rfl | ⟨_, rfl⟩ <;> simp
/-- What may be written of one block. -/
def OfBlk (d b : Nat) (r : Role) : Prop := r = .bk d ∨ r = .pg d b ∨ (∃ p, r = .page d b p) ∨ r = .flips d b ∨ ∃ k, r = .bits d b k
/-- One block is another. -/
theorem Arr.setBlk {w w' : World} {M : Lay} {A : St} {lab lab' : Lab} (h : Arr w M A lab) {d b : Nat} (hd : d < A.D) (hb : b < A.B) {x : Blk}
    (e1 : ∀ g r, lab g = some r → ¬ OfBlk d b r → r ≠ .step → w'.heap[g]? = w.heap[g]?)
    (e2 : ∀ o v, (o < b * 7 ∨ b * 7 + 7 ≤ o) → At w (M.bk d) o v → At w' (M.bk d) o v)
    (e3 : ∀ g r, lab g = some r → lab' g = some r) (lt : ∀ g, lab' g ≠ none → g < w'.heap.size)
    (hx : BlkM w' lab' A.P A.Y d b (M.bk d) (b * 7) x) : Arr w' M (A.setBlk d b x) lab' := by
  have nb : ∀ r, (r = .arr ∨ r = .ds ∨ r = .mp ∨ ∃ d', d' ≠ d ∧ r = .bk d') → ¬ OfBlk d b r ∧ r ≠ .step := by
    intro r hr
    rcases hr with rfl | rfl | rfl | ⟨d', hne, rfl⟩ <;> simp [OfBlk]
    exact hne
  have ea := e1 _ _ h.la (nb _ (.inl rfl)).1 (by simp)
  have eds := e1 _ _ h.lds (nb _ (.inr (.inl rfl))).1 (by simp)
  have em := e1 _ _ h.lmp (nb _ (.inr (.inr (.inl rfl)))).1 (by simp)
  refine ⟨⟨h.dims.d1, h.dims.d2, h.dims.b1, h.dims.b2, h.dims.p1, h.dims.p2, h.dims.y1, h.dims.y2⟩, e3 _ _ h.la, e3 _ _ h.lds, e3 _ _ h.lmp, fun d hd => e3 _ _ (h.lbk d hd), lt, h.cD.of_heap ea, h.cB.of_heap ea, h.cP.of_heap ea, h.cY.of_heap ea, h.cOn.of_heap ea, h.cDs.of_heap ea, h.cMp.of_heap ea, fun i hi => (h.cCnt i hi).of_heap ea, h.cuts.kept em, fun d hd => ⟨(h.die d hd).1.of_heap eds, (h.die d hd).2.of_heap eds⟩, fun d' b' hd' hb' => ?_⟩
  by_cases hdb : d' = d ∧ b' = b
  · obtain ⟨rfl, rfl⟩ := hdb
    simpa [St.setBlk] using hx
  · have hk : BlkM w' lab' A.P A.Y d' b' (M.bk d') (b' * 7) (A.blk d' b') := by
      refine (h.blk d' b' hd' hb').kept (fun i v hi hv => ?_) (fun r g' hr hg => ⟨e1 g' r hg ?_ ?_, e3 g' r hg⟩)
      · by_cases ed : d' = d
        · subst ed
          have : b' ≠ b := fun e => hdb ⟨rfl, e⟩
          exact e2 _ _ (by omega) hv
        · exact hv.of_heap (e1 _ _ (h.lbk d' hd') (nb _ (.inr (.inr (.inr ⟨d', ed, rfl⟩)))).1 (by simp))
      · rcases hr with rfl | ⟨_, rfl⟩ | rfl | ⟨_, rfl⟩ <;> simp [OfBlk] <;> intro a b <;> exact hdb ⟨a, b⟩
      · rcases hr with rfl | ⟨_, rfl⟩ | rfl | ⟨_, rfl⟩ <;> simp
    have e : (A.setBlk d b x).blk d' b' = A.blk d' b' := by simp [St.setBlk, hdb]
    rw [e]
    exact hk
end Nd
end Go.Proofs.Ytojamicakkecbab
