/- Layer 4 (nand): the loop of NandCounts: what stands. -/
import Derived.Test.YtojamicakkecbabOi
namespace Go.Proofs.Ytojamicakkecbab
open Go.ChangeShapes Go.WideShapes Go.ChangeAt Go.RowKit Go.Maps
namespace Nd
def wantL (A : St) (x : Int) : List Value := [num (A.cnt 0), num (A.cnt 1), num (A.cnt 2), num x, num (A.cnt 4), num (A.cnt 5)]
/-- The array, and what was counted beside it. -/
structure CtOk (w wr : World) (M : Lay) (g9 : Nat) (A : St) (lab : Lab) (k : Nat) : Prop where
  arr : Arr wr M A lab
  stp : Stp (fun _ => none) lab w wr
  row : wr.heap[g9]? = some (.cells (wantL A 0).toArray 32)
  lg : lab g9 = none
  ge : w.heap.size ≤ g9
  dims : A.D = 2 ∧ A.B = 2 ∧ A.P = 3 ∧ A.Y = 2
  ok : FlOk A
  fl : ∀ d b, (A.blk d b).flips.length ≤ 2000
  bd : Bd A (3 * k)
theorem CtOk.lt {w wr : World} {M : Lay} {g9 : Nat} {A : St} {lab : Lab} {k : Nat} (h : CtOk w wr M g9 A lab k) : g9 < wr.heap.size := lt_of_heap h.row
theorem CtOk.mono {w wr : World} {M : Lay} {g9 : Nat} {A : St} {lab : Lab} {k k' : Nat} (h : CtOk w wr M g9 A lab k) (hk : k ≤ k') : CtOk w wr M g9 A lab k' :=
  ⟨h.arr, h.stp, h.row, h.lg, h.ge, h.dims, h.ok, h.fl, h.bd.mono (by omega)⟩
theorem CtOk.more {w wr w' : World} {M : Lay} {g9 : Nat} {A : St} {lab : Lab} {k : Nat} (h : CtOk w wr M g9 A lab k) (hg : wr.grownBy w' none) : CtOk w w' M g9 A lab k :=
  ⟨h.arr.more hg, h.stp.grown hg, (hg.block g9 h.lt (by simp)).trans h.row, h.lg, h.ge, h.dims, h.ok, h.fl, h.bd⟩
theorem CtOk.on {w wr w' : World} {M : Lay} {g9 : Nat} {A : St} {lab : Lab} {k : Nat} (h : CtOk w wr M g9 A lab k) (ha : Arr w' M (A.setOn true) lab) (hs : Stp lab lab wr w') : CtOk w w' M g9 (A.setOn true) lab (k + 1) :=
  ⟨ha, h.stp.trans hs, (hs.same g9 h.lt h.lg).trans h.row, h.lg, h.ge, h.dims, h.ok, h.fl, h.bd.off.mono (by omega)⟩
/-- An operation is done; what is beside it is counted by hand. -/
theorem CtOk.op {w wr w5 : World} {M : Lay} {g9 : Nat} {A A5 : St} {lab lab5 : Lab} {k i : Nat} {r : Int} (h : CtOk w wr M g9 A lab k) (h5 : Arr w5 M A5 lab5) (s5 : Stp lab lab5 wr w5) (hc : Cnts A A5 i r) (hi : i < 3) (hb : Bd A5 (3 * (k + 1) : Nat)) :
    w5.heap[g9]? = some (.cells (wantL A 0).toArray 32) ∧
    (r = 0 ∨ r = 41 → CtOk w (w5.setCell ⟨g9, i, none⟩ (num (A.cnt i + 1))) M g9 A5 lab5 (k + 1)) ∧
    (r = 43 → CtOk w ((w5.setCell ⟨g9, i, none⟩ (num (A.cnt i + 1))).setCell ⟨g9, 4, none⟩ (num (A.cnt 4 + 1))) M g9 A5 lab5 (k + 1)) ∧
    (r = 40 → CtOk w ((w5.setCell ⟨g9, i, none⟩ (num (A.cnt i + 1))).setCell ⟨g9, 5, none⟩ (num (A.cnt 5 + 1))) M g9 A5 lab5 (k + 1)) := by
  have row5 : w5.heap[g9]? = some (.cells (wantL A 0).toArray 32) := (s5.same g9 h.lt h.lg).trans h.row
  have l5 : lab5 g9 = none := s5.no h.lt h.lg
  obtain ⟨e1, e2, e3, e4⟩ := hc.dims
  have hd : A5.D = 2 ∧ A5.B = 2 ∧ A5.P = 3 ∧ A5.Y = 2 := ⟨e1.trans h.dims.1, e2.trans h.dims.2.1, e3.trans h.dims.2.2.1, e4.trans h.dims.2.2.2⟩
  have st5 := h.stp.trans s5
  have hfl : ∀ d b, (A5.blk d b).flips.length ≤ 2000 := fun d b => by rw [hc.fl]; exact h.fl d b
  have hb' : Bd A5 (3 * ((k + 1 : Nat) : Int)) := hb.mono (by omega)
  have fin : ∀ {W : World}, Arr W M A5 lab5 → Stp (fun _ => none) lab5 w W → W.heap[g9]? = some (.cells (wantL A5 0).toArray 32) → CtOk w W M g9 A5 lab5 (k + 1) := fun ha hs hr =>
    ⟨ha, hs, hr, l5, h.ge, hd, hc.ok h.ok, hfl, hb'⟩
  have c0 := hc.c 0 (by decide)
  have c1 := hc.c 1 (by decide)
  have c2 := hc.c 2 (by decide)
  have c4 := hc.c 4 (by decide)
  have c5 := hc.c 5 (by decide)
  have hi3 : i = 0 ∨ i = 1 ∨ i = 2 := by omega
  refine ⟨row5, fun hr => fin (h5.set (.inl l5) _) (st5.set (.inr h.ge) _) ?_, fun hr => fin ((h5.set (.inl l5) _).set (.inl l5) _) ((st5.set (.inr h.ge) _).set (.inr h.ge) _) ?_, fun hr => fin ((h5.set (.inl l5) _).set (.inl l5) _) ((st5.set (.inr h.ge) _).set (.inr h.ge) _) ?_⟩
  · rw [setCell_row row5]
    have r1 : r ≠ 43 := by omega
    have r2 : r ≠ 40 := by omega
    simp only [r1, r2, and_false, if_false] at c0 c1 c2 c4 c5
    rcases hi3 with rfl | rfl | rfl <;> simp [wantL, c0, c1, c2, c4, c5]
  · rw [setCell_row (setCell_row row5 _)]
    subst hr
    rcases hi3 with rfl | rfl | rfl <;> simp [wantL, c0, c1, c2, c4, c5]
  · rw [setCell_row (setCell_row row5 _)]
    subst hr
    rcases hi3 with rfl | rfl | rfl <;> simp [wantL, c0, c1, c2, c4, c5]
end Nd
end Go.Proofs.Ytojamicakkecbab
