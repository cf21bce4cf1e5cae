/- Layer 4 (nand): how faults are laid. -/
import Derived.Test.YtojamicakkecbabNp
namespace Go.Proofs.Ytojamicakkecbab
open Go.RowKit Go.Maps
namespace Nd
/-- A fault; where its bits lie. -/
structure Flt where
  kind : Int
  at_ : Int
  die : Int
  block : Int
  page : Int
  times : Int
  part : Int
  bits : List Int
  ba : Option Addr
  bc : Nat
abbrev fltL (f : Flt) : List Value := [num f.kind, num f.at_, num f.die, num f.block, num f.page, num f.times, num f.part, .slice f.ba f.bits.length f.bc]
abbrev fltV (f : Flt) : Value := .agg (fltL f).toArray
/-- A fault that may be. -/
structure FMay (A : St) (f : Flt) : Prop where
  k1 : 1 ≤ f.kind
  k2 : f.kind ≤ 6
  a0 : 0 ≤ f.at_
  ai : I64 f.at_
  t0 : 0 ≤ f.times
  p0 : 0 ≤ f.part
  pi : I64 f.part
  d0 : 0 ≤ f.die
  d1 : f.die < A.D
  b0 : 0 ≤ f.block
  b1 : f.block < A.B
  g0 : 0 ≤ f.page
  g1 : f.page < A.P
  bits : ∀ i, i < f.bits.length → 0 ≤ nthI f.bits i ∧ nthI f.bits i < 8 * A.Y
def Blk.minP (v : Int) (x : Blk) : Blk := { x with noP := if v < x.noP then v else x.noP }
def Blk.minE (v : Int) (x : Blk) : Blk := { x with noE := if v < x.noE then v else x.noE }
def Blk.fact (x : Blk) : Blk := { x with noP := 0, noE := 0, marked := true }
def Blk.addF (f : Flt) (x : Blk) : Blk := { x with flips := x.flips ++ [⟨f.page, f.at_, f.times, f.bits⟩] }
def St.setDead (A : St) (d : Nat) (v : Int) : St := { A with dead := fun i => if i = d then v else A.dead i }
def St.addCut (A : St) (k v : Int) : St := { A with cuts := fun i => if i = k then some v else A.cuts i, nc := A.nc + 1 }
/-- A fault is laid. -/
def St.lay (A : St) (f : Flt) : St :=
  if f.kind = 1 then A.upB f.die.toNat f.block.toNat (Blk.addF f)
  else if f.kind = 2 then A.upB f.die.toNat f.block.toNat (Blk.minP f.at_)
  else if f.kind = 3 then A.upB f.die.toNat f.block.toNat (Blk.minE f.at_)
  else if f.kind = 4 then A.setDead f.die.toNat (if f.at_ < A.dead f.die.toNat then f.at_ else A.dead f.die.toNat)
  else if f.kind = 5 then (if (A.cuts f.at_).isSome then A else A.addCut f.at_ f.part)
  else A.upB f.die.toNat f.block.toNat Blk.fact
/-- Cells of a block that are numbers or marks are written. -/
theorem Arr.noPset {w : World} {M : Lay} {A : St} {lab : Lab} (h : Arr w M A lab) {d b : Nat} (hd : d < A.D) (hb : b < A.B) (v : Int) :
    Arr (w.setCell ⟨M.bk d, b * 7 + 3, none⟩ (num v)) M (A.upB d b (fun x => { x with noP := v })) lab := by
  have hx := h.blk d b hd hb
  obtain ⟨r1, r2⟩ := hx.rest (h.lbk d hd) (i := 3) (by decide) (num v)
  exact h.cellB hd hb (by decide) _ ⟨hx.next.set_off (by omega) _, hx.erases.set_off (by omega) _, hx.marked.set_off (by omega) _, hx.noP.set_same _, hx.noE.set_off (by omega) _, r1, r2⟩
theorem Arr.noEset {w : World} {M : Lay} {A : St} {lab : Lab} (h : Arr w M A lab) {d b : Nat} (hd : d < A.D) (hb : b < A.B) (v : Int) :
    Arr (w.setCell ⟨M.bk d, b * 7 + 4, none⟩ (num v)) M (A.upB d b (fun x => { x with noE := v })) lab := by
  have hx := h.blk d b hd hb
  obtain ⟨r1, r2⟩ := hx.rest (h.lbk d hd) (i := 4) (by decide) (num v)
  exact h.cellB hd hb (by decide) _ ⟨hx.next.set_off (by omega) _, hx.erases.set_off (by omega) _, hx.marked.set_off (by omega) _, hx.noP.set_off (by omega) _, hx.noE.set_same _, r1, r2⟩
theorem Arr.markset {w : World} {M : Lay} {A : St} {lab : Lab} (h : Arr w M A lab) {d b : Nat} (hd : d < A.D) (hb : b < A.B) :
    Arr (w.setCell ⟨M.bk d, b * 7 + 2, none⟩ (.bool true)) M (A.upB d b (fun x => { x with marked := true })) lab := by
  have hx := h.blk d b hd hb
  obtain ⟨r1, r2⟩ := hx.rest (h.lbk d hd) (i := 2) (by decide) (.bool true)
  exact h.cellB hd hb (by decide) _ ⟨hx.next.set_off (by omega) _, hx.erases.set_off (by omega) _, hx.marked.set_same _, hx.noP.set_off (by omega) _, hx.noE.set_off (by omega) _, r1, r2⟩
theorem Arr.deadset {w : World} {M : Lay} {A : St} {lab : Lab} (h : Arr w M A lab) {d : Nat} (hd : d < A.D) (v : Int) :
    Arr (w.setCell ⟨M.ds, d * 2, none⟩ (num v)) M (A.setDead d v) lab := by
  have e : ∀ g r, lab g = some r → r ≠ .ds → (w.setCell ⟨M.ds, d * 2, none⟩ (num v)).heap[g]? = w.heap[g]? := fun g r hr hne => setCell_else (by rintro rfl; rw [h.lds] at hr; simp at hr; exact hne hr.symm) _
  have ea := e _ _ h.la (by simp)
  refine ⟨⟨h.dims.d1, h.dims.d2, h.dims.b1, h.dims.b2, h.dims.p1, h.dims.p2, h.dims.y1, h.dims.y2⟩, h.la, h.lds, h.lmp, h.lbk, fun g hl => by rw [setCell_size]; exact h.lt g hl, h.cD.of_heap ea, h.cB.of_heap ea, h.cP.of_heap ea, h.cY.of_heap ea, h.cOn.of_heap ea, h.cDs.of_heap ea, h.cMp.of_heap ea, fun j hj => (h.cCnt j hj).of_heap ea, h.cuts.kept (e _ _ h.lmp (by simp)), fun d' hd' => ?_, fun d b hd hb => ?_⟩
  · refine ⟨?_, (h.die d' hd').2.set_off (by omega) _⟩
    by_cases ed : d' = d
    · subst ed
      simpa [St.setDead] using (h.die d' hd').1.set_same (num v)
    · simpa [St.setDead, ed] using (h.die d' hd').1.set_off (by omega) (num v)
  · refine (h.blk d b hd hb).kept (fun i v _ hv => hv.of_heap (e _ _ (h.lbk d hd) (by simp))) (fun r g' hr hg => ⟨e g' r hg ?_, hg⟩)
    rcases hr with rfl | ⟨_, rfl⟩ | rfl | ⟨_, rfl⟩ <;> simp
/-- A cut is put into the map. -/
theorem CutsM.put {w : World} {mp : Nat} {f : Int → Option Int} {N : Nat} (h : CutsM w mp f N) {k v : Int} (hk : I64 k) (hv : I64 v) (hN : N ≤ 2000) :
    ∃ w', (Instr.mapUpdate 51 (.map (some mp)) (num k) (num v)).run Try.prog w = .ok () w' ∧ CutsM w' mp (fun i => if i = k then some v else f i) (N + 1) ∧ w.grownBy w' (some mp) := by
  obtain ⟨n, DM, hown, hn, h1, h2, h3⟩ := h
  obtain ⟨w', hrun, hown', ht⟩ := hown.store (t := 51) keyed3 Try.underlying51 (by unfold maxLen; omega) (keyOf_int_mk Try.underlying3 (wf_i64 hk)) (plainElem_int Try.underlying3 (wf_i64 hv))
  refine ⟨w', hrun, ⟨n + 1, _, hown', by omega, fun i => ?_, fun i x hx z => ?_, fun i hx z => ?_⟩, ht.grown⟩
  · by_cases e : i = k
    · subst e
      rw [has_put_same (k := .int .i64 i) hown.isMap trivial]
      simp
    · rw [has_put_other (fun e2 => e (by simpa using e2)), h1]
      simp [e]
  · by_cases e : i = k
    · subst e
      simp at hx
      subst hx
      exact atKey_put_same (k := .int .i64 i) hown.isMap trivial _ z
    · simp [e] at hx
      rw [atKey_put_other (fun e2 => e (by simpa using e2))]
      exact h2 i x hx z
  · by_cases e : i = k
    · simp [e] at hx
    · simp [e] at hx
      rw [atKey_put_other (fun e2 => e (by simpa using e2))]
      exact h3 i hx z
theorem Arr.addCut {w w' : World} {M : Lay} {A : St} {lab : Lab} (h : Arr w M A lab) {k v : Int} (hc : CutsM w' M.mp (fun i => if i = k then some v else A.cuts i) (A.nc + 1)) (hg : w.grownBy w' (some M.mp)) : Arr w' M (A.addCut k v) lab := by
  have e : ∀ g r, lab g = some r → r ≠ .mp → w'.heap[g]? = w.heap[g]? := fun g r hr hne => hg.block g (h.lt g (by rw [hr]; simp)) (by rintro e; have := Option.some.inj e; rw [this, h.lmp] at hr; simp at hr; exact hne hr.symm)
  have ea := e _ _ h.la (by simp)
  have ed := e _ _ h.lds (by simp)
  refine ⟨⟨h.dims.d1, h.dims.d2, h.dims.b1, h.dims.b2, h.dims.p1, h.dims.p2, h.dims.y1, h.dims.y2⟩, h.la, h.lds, h.lmp, h.lbk, fun g hl => Nat.lt_of_lt_of_le (h.lt g hl) hg.size, h.cD.of_heap ea, h.cB.of_heap ea, h.cP.of_heap ea, h.cY.of_heap ea, h.cOn.of_heap ea, h.cDs.of_heap ea, h.cMp.of_heap ea, fun j hj => (h.cCnt j hj).of_heap ea, hc, fun d hd => ⟨(h.die d hd).1.of_heap ed, (h.die d hd).2.of_heap ed⟩, fun d b hd hb => ?_⟩
  refine (h.blk d b hd hb).kept (fun i v _ hv => hv.of_heap (e _ _ (h.lbk d hd) (by simp))) (fun r g' hr hg => ⟨e g' r hg ?_, hg⟩)
  rcases hr with rfl | ⟨_, rfl⟩ | rfl | ⟨_, rfl⟩ <;> simp
end Nd
end Go.Proofs.Ytojamicakkecbab
