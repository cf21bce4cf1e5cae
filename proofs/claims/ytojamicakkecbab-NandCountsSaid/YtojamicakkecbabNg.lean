/- Layer 4 (nand): programPart, program. -/
import Derived.Test.YtojamicakkecbabNf
namespace Go.Proofs.Ytojamicakkecbab
open Go.RowKit Go.Maps
namespace Nd
/-- The bytes of a page that was programmed so far. -/
def newPage (n noP : Int) (Y k : Nat) (bs : List Nat) : List Nat := if n < noP then bs.take k ++ List.replicate (Y - k) 255 else List.replicate Y 0
def Blk.prog (x : Blk) (p : Nat) (l : List Nat) : Blk := { x with pages := fun q => if q = p then some l else x.pages q, next := x.next + 1 }
/-- So many bytes are programmed. -/
def St.progPart (A : St) (n : Int) (d b p k : Nat) (bs : List Nat) : St := A.setBlk d b ((A.blk d b).prog p (newPage n (A.blk d b).noP A.Y k bs))
theorem newPage_len {n noP : Int} {Y k : Nat} {bs : List Nat} (hb : bs.length = Y) (hk : k ≤ Y) : (newPage n noP Y k bs).length = Y := by
  unfold newPage
  split
  · simp; omega
  · simp
theorem nth_mem_le {l : List Nat} (h : ∀ x ∈ l, x ≤ 255) : ∀ i, nth l i ≤ 255 := fun i => by
  by_cases hi : i < l.length
  · rw [nth_of hi]; exact h _ (List.getElem_mem hi)
  · rw [nth_over _ (by omega)]; omega
theorem mem_le {bs : List Nat} (h : ∀ i, nth bs i ≤ 255) : ∀ x ∈ bs, x ≤ 255 := fun x hx => by
  obtain ⟨i, hi, rfl⟩ := List.getElem_of_mem hx
  have := h i
  rwa [nth_of hi] at this
theorem newPage_le {n noP : Int} {Y k : Nat} {bs : List Nat} (hb : ∀ i, nth bs i ≤ 255) : ∀ i, nth (newPage n noP Y k bs) i ≤ 255 := nth_mem_le fun x hx => by
  unfold newPage at hx
  split at hx
  · rcases List.mem_append.1 hx with hx | hx
    · exact mem_le hb x (List.mem_of_mem_take hx)
    · simp at hx; omega
  · simp at hx; omega
/-- A page is another, which lies in new memory; Next is one more. -/
theorem Arr.prog {w w1 : World} {M : Lay} {A : St} {lab : Lab} (h : Arr w M A lab) {d b p : Nat} (hd : d < A.D) (hb : b < A.B) (hp : p < A.P) (hg1 : w.grownBy w1 none) {g pg : Nat} {l : List Nat} (hl : l.length = A.Y) (hle : ∀ i, nth l i ≤ 255)
    (hgn : w.heap.size ≤ g) (hrow : w1.heap[g]? = some (.cells (valsB l).toArray 5)) (hpg : w.cell? ⟨M.bk d, b * 7 + 5, none⟩ = some (.slice (some ⟨pg, 0, none⟩) A.P A.P)) {v : Value} (hv : v = .slice (some ⟨g, 0, none⟩) A.Y A.Y) :
    Arr ((w1.setCell ⟨pg, p, none⟩ v).setCell ⟨M.bk d, b * 7, none⟩ (num ((A.blk d b).next + 1))) M (A.setBlk d b ((A.blk d b).prog p l)) (addLab lab g (.page d b p)) := by
  have h1 := h.more hg1
  have hx := h1.blk d b hd hb
  obtain ⟨pg', a1, a2, a3⟩ := hx.pages
  have e : pg' = pg := by
    have e1 : w1.cell? ⟨M.bk d, b * 7 + 5, none⟩ = some (.slice (some ⟨pg, 0, none⟩) A.P A.P) := by rw [cell_of_block (hg1.block _ (lt_of_cell hpg) (by simp))]; exact hpg
    have := a1.1
    rw [e1] at this
    simpa using this.symm
  subst e
  have hbk := h1.lbk d hd
  have hfr : lab g = none := h.fresh hgn
  have hgp : g ≠ pg' := fun e => by rw [e, a2] at hfr; cases hfr
  have hgb : g ≠ M.bk d := fun e => by rw [e, hbk] at hfr; cases hfr
  have hpb : pg' ≠ M.bk d := fun e => by rw [e, hbk] at a2; cases a2
  have hsz : ((w1.setCell ⟨pg', p, none⟩ v).setCell ⟨M.bk d, b * 7, none⟩ (num ((A.blk d b).next + 1))).heap.size = w1.heap.size := by rw [setCell_size, setCell_size]
  have hel : ∀ x, x ≠ pg' → x ≠ M.bk d → ((w1.setCell ⟨pg', p, none⟩ v).setCell ⟨M.bk d, b * 7, none⟩ (num ((A.blk d b).next + 1))).heap[x]? = w1.heap[x]? := fun x hx1 hx2 => by
    rw [setCell_else hx2, setCell_else hx1]
  have hbo : ∀ {o : Nat} {u : Value}, At w1 (M.bk d) o u → o ≠ b * 7 → At ((w1.setCell ⟨pg', p, none⟩ v).setCell ⟨M.bk d, b * 7, none⟩ (num ((A.blk d b).next + 1))) (M.bk d) o u := fun {o u} ho hne => (ho.of_heap (setCell_else (Ne.symm hpb) _)).set_off hne _
  have hlab : ∀ x r, lab x = some r → addLab lab g (.page d b p) x = some r := fun x r hr => by
    have : x ≠ g := fun e => by rw [e, hfr] at hr; cases hr
    simp [addLab, this, hr]
  refine h1.setBlk hd hb (fun x r hr hno _ => hel x (fun e => hno (by rw [e, a2] at hr; cases hr; exact .inr (.inl rfl))) (fun e => hno (by rw [e, hbk] at hr; cases hr; exact .inl rfl))) (fun o u ho hu => hbo hu (by omega)) hlab (fun x hx' => ?_) ?_
  · rw [hsz]
    by_cases ex : x = g
    · rw [ex]; exact lt_of_heap hrow
    · exact h1.lt x (by simpa [addLab, ex] using hx')
  · obtain ⟨fv, f1, f2⟩ := hx.flips
    refine ⟨?_, hbo hx.erases (by omega), hbo hx.marked (by omega), hbo hx.noP (by omega), hbo hx.noE (by omega), ⟨pg', hbo a1 (by omega), hlab _ _ a2, fun q hq => ?_⟩, fv, hbo f1 (by omega), f2.kept (fun x hx' => ⟨hel x (fun e => by rw [e, a2] at hx'; cases hx') (fun e => by rw [e, hbk] at hx'; cases hx'), hlab _ _ hx'⟩) (fun k x hx' => ⟨hel x (fun e => by rw [e, a2] at hx'; cases hx') (fun e => by rw [e, hbk] at hx'; cases hx'), hlab _ _ hx'⟩)⟩
    · exact (hx.next.of_heap (setCell_else (Ne.symm hpb) _)).set_same _
    · obtain ⟨u, u1, u2⟩ := a3 q hq
      by_cases eq : q = p
      · subst eq
        refine ⟨v, ((u1.set_same v)).of_heap (setCell_else hpb _), .inr ⟨l, g, by simp [Blk.prog], hl, hle, hv, by simp [addLab], fun i hi => ?_⟩⟩
        rw [cell_of_block (hel g hgp hgb), cell_row hrow, valsB_at (by omega)]
      · refine ⟨u, ((u1.set_off eq v)).of_heap (setCell_else hpb _), ?_⟩
        have e2 : ((A.blk d b).prog p l).pages q = (A.blk d b).pages q := by simp [Blk.prog, eq]
        rw [e2]
        exact u2.kept (fun x hx' => ⟨hel x (fun e => by rw [e, a2] at hx'; cases hx') (fun e => by rw [e, hbk] at hx'; cases hx'), hlab _ _ hx'⟩)
def ProgPost (w : World) (M : Lay) (A' : St) (lab : Lab) (s : Nat) (ret : Value) (e : Ending) (w' : World) : Prop :=
  ∃ lab', e = .returned ret ∧ Arr w' M A' lab' ∧ Stp lab lab' w w' ∧ w'.heap[s]? = w.heap[s]? ∧ lab' s = some .step
end Nd
end Go.Proofs.Ytojamicakkecbab
