/- What holds beside an array while pages are kept. -/
import Derived.Test.YtojamicakkecbaaNy
namespace Go.Proofs.Ytojamicakkecbaa
open Go.ChangeShapes Go.WideShapes Go.ChangeAt Go.RowKit Go.Maps
namespace Nd
/-- What holds beside an array while pages are kept. -/
structure KpR (w wr : World) (M : Lay) (A : St) (lab : Lab) (bx mp gn nb np NA NK : Nat) (K : Int → Option (List Nat)) (F : Nat → Int) : Prop where
  fine : Fine A
  d : A.D = 1
  b : A.B = nb
  p : A.P = np
  y : A.Y = 4
  bd : Bd A NA
  arr : Arr wr M A lab
  st : Stp (fun _ => none) lab w wr
  lbx : lab bx = none
  lmp : lab mp = none
  lgn : lab gn = none
  obx : wr.heap[bx]? = some (boxO 1 nb np 4)
  kn : KnownM wr mp K NK
  nx : ∀ b, b < nb → At wr gn b (num (F b))
  nb0 : 0 < nb
  n1 : bx ≠ mp
  n2 : bx ≠ gn
  n3 : mp ≠ gn
  g1 : w.heap.size ≤ bx
  g2 : w.heap.size ≤ mp
  g3 : w.heap.size ≤ gn
theorem KpR.mpLt {w wr : World} {M : Lay} {A : St} {lab : Lab} {bx mp gn nb np NA NK : Nat} {K : Int → Option (List Nat)} {F : Nat → Int} (h : KpR w wr M A lab bx mp gn nb np NA NK K F) : mp < wr.heap.size := by
  obtain ⟨_, _, ⟨es, clock, h1, _⟩, _⟩ := h.kn
  exact lt_of_heap h1
theorem KpR.gnLt {w wr : World} {M : Lay} {A : St} {lab : Lab} {bx mp gn nb np NA NK : Nat} {K : Int → Option (List Nat)} {F : Nat → Int} (h : KpR w wr M A lab bx mp gn nb np NA NK K F) : gn < wr.heap.size := (h.nx 0 h.nb0).lt
/-- An operation of the array's leaves what is beside it. -/
theorem KpR.op {w wr : World} {M : Lay} {A : St} {lab : Lab} {bx mp gn nb np NA NK : Nat} {K : Int → Option (List Nat)} {F : Nat → Int} {w' : World} {A' : St} {lab' : Lab} {NB : Nat} (h : KpR w wr M A lab bx mp gn nb np NA NK K F) (hA : Arr w' M A' lab') (hs : Stp lab lab' wr w') (hf : Fine A') (hd : A'.D = 1) (hB : A'.B = nb) (hp : A'.P = np) (hy : A'.Y = 4) (hbd : Bd A' NB) : KpR w w' M A' lab' bx mp gn nb np NB NK K F := by
  have l1 := lt_of_heap h.obx
  have l2 := h.mpLt
  have l3 := h.gnLt
  exact ⟨hf, hd, hB, hp, hy, hbd, hA, h.st.trans hs, hs.no l1 h.lbx, hs.no l2 h.lmp, hs.no l3 h.lgn, by rw [hs.same bx l1 h.lbx]; exact h.obx, h.kn.kept (hs.same mp l2 h.lmp), fun b hb => (h.nx b hb).of_heap (hs.same gn l3 h.lgn), h.nb0, h.n1, h.n2, h.n3, h.g1, h.g2, h.g3⟩
/-- A counter beside it is written. -/
theorem KpR.setF {w wr : World} {M : Lay} {A : St} {lab : Lab} {bx mp gn nb np NA NK : Nat} {K : Int → Option (List Nat)} {F : Nat → Int} (h : KpR w wr M A lab bx mp gn nb np NA NK K F) {b : Nat} (hb : b < nb) (v : Int) : KpR w (wr.setCell ⟨gn, b, none⟩ (num v)) M A lab bx mp gn nb np NA NK K (fun i => if i = b then v else F i) := by
  refine ⟨h.fine, h.d, h.b, h.p, h.y, h.bd, h.arr.set (.inl h.lgn) _, h.st.set (.inr h.g3) _, h.lbx, h.lmp, h.lgn, by rw [setCell_else h.n2]; exact h.obx, h.kn.kept (setCell_else h.n3 _), fun b' hb' => ?_, h.nb0, h.n1, h.n2, h.n3, h.g1, h.g2, h.g3⟩
  by_cases e : b' = b
  · subst e
    simpa using (h.nx b' hb').set_same (num v)
  · simpa [e] using (h.nx b' hb').set_off e (num v)
/-- Another map beside it. -/
theorem KpR.known {w wr : World} {M : Lay} {A : St} {lab : Lab} {bx mp gn nb np NA NK : Nat} {K : Int → Option (List Nat)} {F : Nat → Int} {w' : World} {NL : Nat} {K' : Int → Option (List Nat)} (h : KpR w wr M A lab bx mp gn nb np NA NK K F) (hk : KnownM w' mp K' NL) (hg : wr.grownBy w' (some mp)) : KpR w w' M A lab bx mp gn nb np NA NL K' F := by
  have e : ∀ x, x < wr.heap.size → x ≠ mp → w'.heap[x]? = wr.heap[x]? := fun x hx hne => hg.block x hx (fun e => hne (Option.some.inj e))
  refine ⟨h.fine, h.d, h.b, h.p, h.y, h.bd, h.arr.kept (fun g r hr _ => ⟨e g (h.arr.lt g (by rw [hr]; simp)) (by rintro rfl; rw [h.lmp] at hr; cases hr), hr⟩) (fun g hl => Nat.lt_of_lt_of_le (h.arr.lt g hl) hg.size), ⟨hg.os.trans h.st.os, hg.tape.trans h.st.tape, hg.output.trans h.st.output, Nat.le_trans h.st.size hg.size, fun g hg' hl => (e g (Nat.lt_of_lt_of_le hg' h.st.size) (by have := h.g2; omega)).trans (h.st.same g hg' hl), h.st.own⟩, h.lbx, h.lmp, h.lgn, by rw [e bx (lt_of_heap h.obx) h.n1]; exact h.obx, hk, fun b hb => (h.nx b hb).of_heap (e gn (h.nx b hb).lt (Ne.symm h.n3)), h.nb0, h.n1, h.n2, h.n3, h.g1, h.g2, h.g3⟩
/-- New memory, and writes to what is new and none of it. -/
theorem KpR.more {w wr : World} {M : Lay} {A : St} {lab : Lab} {bx mp gn nb np NA NK : Nat} {K : Int → Option (List Nat)} {F : Nat → Int} {w' : World} (h : KpR w wr M A lab bx mp gn nb np NA NK K F) (hg : wr.grownBy w' none) : KpR w w' M A lab bx mp gn nb np NA NK K F :=
  h.op (h.arr.more hg) ((Stp.refl _ _).grown hg) h.fine h.d h.b h.p h.y h.bd
theorem KpR.set {w wr : World} {M : Lay} {A : St} {lab : Lab} {bx mp gn nb np NA NK : Nat} {K : Int → Option (List Nat)} {F : Nat → Int} (h : KpR w wr M A lab bx mp gn nb np NA NK K F) {g o : Nat} {v : Value} (hl : lab g = none) (h1 : g ≠ bx) (h2 : g ≠ mp) (h3 : g ≠ gn) (h4 : w.heap.size ≤ g) : KpR w (wr.setCell ⟨g, o, none⟩ v) M A lab bx mp gn nb np NA NK K F :=
  ⟨h.fine, h.d, h.b, h.p, h.y, h.bd, h.arr.set (.inl hl) _, h.st.set (.inr h4) _, h.lbx, h.lmp, h.lgn, by rw [setCell_else (Ne.symm h1)]; exact h.obx, h.kn.kept (setCell_else (Ne.symm h2) _), fun b hb => (h.nx b hb).of_heap (setCell_else (Ne.symm h3) _), h.nb0, h.n1, h.n2, h.n3, h.g1, h.g2, h.g3⟩
theorem KpR.loose {w wr : World} {M : Lay} {A : St} {lab : Lab} {bx mp gn nb np NA NK : Nat} {K : Int → Option (List Nat)} {F : Nat → Int} {NB NL : Nat} (h : KpR w wr M A lab bx mp gn nb np NA NK K F) (h1 : NA ≤ NB) (h2 : NK ≤ NL) : KpR w wr M A lab bx mp gn nb np NB NL K F := by
  obtain ⟨n, DM, k1, k2, k3⟩ := h.kn
  exact ⟨h.fine, h.d, h.b, h.p, h.y, h.bd.mono (by omega), h.arr, h.st, h.lbx, h.lmp, h.lgn, h.obx, ⟨n, DM, k1, by omega, k3⟩, h.nx, h.nb0, h.n1, h.n2, h.n3, h.g1, h.g2, h.g3⟩
/-- The counters beside it are the array's. -/
def Counts (A : St) (nb np : Nat) (F : Nat → Int) : Prop := ∀ b, b < nb → (A.blk 0 b).next = F b ∧ 0 ≤ F b ∧ F b ≤ np
/-- Known is just what was programmed. -/
def Knows (A : St) (nb np : Nat) (K : Int → Option (List Nat)) : Prop := ∀ b p, b < nb → p < np → K ((b * np + p : Nat) : Int) = (A.blk 0 b).pages p
/-- Keys that were deleted up to a place. -/
def delK (K : Int → Option (List Nat)) (kb p : Nat) : Int → Option (List Nat) := fun i => if (kb : Int) ≤ i ∧ i < (kb : Int) + p then none else K i
theorem delK_zero (K : Int → Option (List Nat)) (kb : Nat) : delK K kb 0 = K := by
  funext i
  unfold delK
  rw [if_neg (by omega)]
theorem delK_next (K : Int → Option (List Nat)) (kb p : Nat) : (fun i => if i = ((kb + p : Nat) : Int) then none else delK K kb p i) = delK K kb (p + 1) := by
  funext i
  unfold delK
  by_cases h : i = ((kb + p : Nat) : Int)
  · rw [if_pos h, if_pos (by omega)]
  · rw [if_neg h]
    by_cases h2 : (kb : Int) ≤ i ∧ i < (kb : Int) + p
    · rw [if_pos h2, if_pos (by omega)]
    · rw [if_neg h2, if_neg (by omega)]
theorem key_apart {np b b' p p' : Nat} (hp : p < np) (hp' : p' < np) (h : b * np + p = b' * np + p') : b = b' ∧ p = p' := by
  have h1 : (b * np + p) / np = b := by rw [Nat.mul_comm, Nat.mul_add_div (by omega), Nat.div_eq_of_lt hp, Nat.add_zero]
  have h2 : (b' * np + p') / np = b' := by rw [Nat.mul_comm, Nat.mul_add_div (by omega), Nat.div_eq_of_lt hp', Nat.add_zero]
  have : b = b' := by rw [← h1, h, h2]
  subst this
  exact ⟨rfl, by omega⟩
theorem Knows.erase {A A' : St} {nb np : Nat} {K : Int → Option (List Nat)} (h : Knows A nb np K) {b : Nat} (he : ∀ p, p < np → (A'.blk 0 b).pages p = none) (ho : ∀ b', b' ≠ b → (A'.blk 0 b').pages = (A.blk 0 b').pages) : Knows A' nb np (delK K (b * np) np) := by
  intro b' p hb' hp
  unfold delK
  by_cases e : b' = b
  · subst e
    rw [if_pos (by omega), he p hp]
  · rw [if_neg (fun hh => e (by
      have h1 : b * np ≤ b' * np + p := by omega
      have h2 : b' * np + p < b * np + np := by omega
      have := key_apart (np := np) (b := b') (b' := b) (p := p) (p' := b' * np + p - b * np) hp (by omega) (by omega)
      exact this.1)), ho b' e]
    exact h b' p hb' hp
theorem Knows.prog {A A' : St} {nb np : Nat} {K : Int → Option (List Nat)} (h : Knows A nb np K) {b q : Nat} {l : List Nat} (hq : q < np) (he : ∀ p, (A'.blk 0 b).pages p = if p = q then some l else (A.blk 0 b).pages p) (ho : ∀ b', b' ≠ b → (A'.blk 0 b').pages = (A.blk 0 b').pages) : Knows A' nb np (fun i => if i = ((b * np + q : Nat) : Int) then some l else K i) := by
  intro b' p hb' hp
  by_cases e : b' = b ∧ p = q
  · obtain ⟨rfl, rfl⟩ := e
    simp only [if_true]
    rw [he, if_pos rfl]
  · have hne : ((b' * np + p : Nat) : Int) ≠ ((b * np + q : Nat) : Int) := fun hh => e (key_apart hp hq (by omega))
    simp only [hne, if_false]
    by_cases eb : b' = b
    · subst eb
      rw [he, if_neg (fun e2 => e ⟨rfl, e2⟩)]
      exact h b' p hb' hp
    · rw [ho b' eb]
      exact h b' p hb' hp
theorem page_len {w : World} {M : Lay} {A : St} {lab : Lab} (h : Arr w M A lab) {d b p : Nat} (hd : d < A.D) (hb : b < A.B) (hp : p < A.P) : (pageS A.Y ((A.blk d b).pages p)).length = A.Y := by
  obtain ⟨pg, _, _, a3⟩ := (h.blk d b hd hb).pages
  obtain ⟨v, _, hv⟩ := a3 p hp
  rcases hv with ⟨e, _⟩ | ⟨bs, g, e, hl, _⟩
  · rw [e]; simp [pageS]
  · rw [e]; exact hl
theorem str_ff : strB (List.replicate 4 255) = ⟨#[255, 255, 255, 255]⟩ := by kernel_rfl
theorem newPage_full {n : Int} (hn : n < never) {l : List Nat} (hl : l.length = 4) : newPage n never 4 4 l = l := by
  unfold newPage
  rw [if_pos hn, List.take_of_length_le (by omega)]
  simp
theorem info3 : (Try.prog.info? 3).map (fun i => (i.zero, i.size, i.bytes)) = some (some (.int .i64 0), 1, 8) := by kernel_rfl
def zerosI (n : Nat) : List Value := List.replicate n (num 0)
theorem make_ints (w : World) (n : Nat) (hn : n ≤ 64) : (Instr.makeSlice 42 (num (n : Int)) (num (n : Int))).run Try.prog w = .ok (.slice (some ⟨w.heap.size, 0, none⟩) n n) (w.alloc (.cells (zerosI n).toArray 3)) := by
  obtain ⟨i0, hi, hz0, hz1, hz2⟩ := info_parts info3
  have hr := run_make (P := Try.prog) w 42 3 i0 (.int .i64 0) Try.underlying42 hi hz0 .i64 .i64 n n (by omega) (Int.le_refl _) (by rw [hz2]; omega) (by omega)
  simp only [Int.toNat_natCast, hz1, Nat.mul_one] at hr
  have e1 : (madeCells (Value.int .i64 0).cells n) = (zerosI n).toArray := by
    apply Array.toList_inj.1
    exact (toList_madeCells_one (.int .i64 0) n)
  rw [e1] at hr
  exact hr
end Nd
end Go.Proofs.Ytojamicakkecbaa
