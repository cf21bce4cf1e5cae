/- Layer 4 (nand): begin: an operation is counted. -/
import Derived.Test.YtojamicakkecbabNc
namespace Go.Proofs.Ytojamicakkecbab
open Go.RowKit Go.Maps
namespace Nd
/-- An operation as it lies. -/
abbrev stepO (M : Lay) (n : Int) (d b : Nat) (p : Int) (v : Value) : Obj := .cells #[ptr M.a 0, num n, ptr M.ds (d * 2), ptr (M.bk d) (b * 7), num p, v] 78
theorem dk_keep {w0 w w' : World} {a : Nat} {v : Value} (h : w0.grownBy w none ∧ w.cell? ⟨a, 5, none⟩ = some v) (hg : w.grownBy w' none) : w0.grownBy w' none ∧ w'.cell? ⟨a, 5, none⟩ = some v :=
  ⟨grownBy_trans h.1 hg, by rw [cell_of_block (hg.block a (lt_of_cell h.2) (by simp))]; exact h.2⟩
/-- What begin leaves. -/
def BeginPost (w : World) (M : Lay) (A : St) (lab : Lab) (i d b : Nat) (p : Int) (e : Ending) (w' : World) : Prop :=
  ∃ s, e = .returned (ptr s 0) ∧ w.heap.size ≤ s ∧ w'.heap[s]? = some (stepO M A.num d b p (.slice none 0 0)) ∧ Arr w' M (A.tick i) (addLab lab s .step) ∧ Stp lab (addLab lab s .step) w w'
theorem begin_end {w w1 : World} {M : Lay} {A : St} {lab : Lab} (h : Arr w M A lab) {o : Nat} (h1 : 7 ≤ o) (h2 : o < 10) {N : Int} (hB : Bd A N) (hN : N ≤ 1000000) (d b : Nat) (p : Int) (hg : w.grownBy w1 none) :
    BeginPost w M A lab (o - 7) d b p (.returned (ptr w1.heap.size 0)) ((w1.alloc (stepO M A.num d b p (.slice none 0 0))).setCell ⟨M.a, o, none⟩ (num (wr (A.cnt (o - 7) + 1)))) := by
  have hA := h.more hg
  have hA2 := hA.alloc (stepO M A.num d b p (.slice none 0 0))
  have hf : lab w1.heap.size = none := hA.fresh (Nat.le_refl _)
  have hA3 := hA2.step hf (Array.getElem?_eq_some_iff.1 (heap_alloc_new w1 (stepO M A.num d b p (.slice none 0 0)))).1
  have hc := hB.cnt (o - 7) (by omega)
  have hA4 := hA3.setCnt (i := o - 7) (by omega) (wr (A.cnt (o - 7) + 1))
  rw [show 7 + (o - 7) = o by omega] at hA4
  have hne : w1.heap.size ≠ M.a := fun e => by have := h.la; rw [← e, hf] at this; cases this
  refine ⟨w1.heap.size, rfl, hg.size, ?_, ?_, ?_⟩
  · rw [setCell_else hne]
    exact heap_alloc_new w1 _
  · have e : wr (A.cnt (o - 7) + 1) = A.cnt (o - 7) + 1 := wr_in (by omega) (by omega)
    rw [e] at hA4 ⊢
    exact hA4
  · refine (((Stp.refl lab w).grown hg).alloc _).set (.inl (by rw [h.la]; simp)) _ |>.lab (fun g hl => ?_)
    by_cases eg : g = w1.heap.size
    · exact .inr (by rw [eg]; exact hg.size)
    · simp [addLab, eg] at hl
      exact .inl (by simpa using hl)
set_option maxHeartbeats 6400000 in
set_option maxRecDepth 4000 in
theorem begin_ok {w : World} {M : Lay} {A : St} {lab : Lab} (h : Arr w M A lab) (o : Nat) (h1 : 7 ≤ o) (h2 : o < 10) {N : Int} (hB : Bd A N) (hN : N ≤ 1000000) (d b : Nat) (hd : d < A.D) (hb : b < A.B) (p : Int) :
    Calls Try.prog 22 #[ptr M.a 0, ptr M.a o, num d, num b, num p] w (BeginPost w M A lab (o - 7) d b p) := by
  have c5 := h.cDs.1
  have b1 : (d : Int) < (A.D : Int) := by omega
  have b3 : (A.D : Int) ≤ 8 := by have := h.dims.d2; omega
  have HE : Hid (∀ w1 : World, w.grownBy w1 none → BeginPost w M A lab (o - 7) d b p (.returned (ptr w1.heap.size 0)) ((w1.alloc (stepO M A.num d b p (.slice none 0 0))).setCell ⟨M.a, o, none⟩ (num (wr (A.cnt (o - 7) + 1))))) := fun w1 hg => begin_end h h1 h2 hB hN d b p hg
  have HC : Hid (∀ w1 : World, w.grownBy w1 none → ∀ x, (w1.alloc x).cell? ⟨M.a, o, none⟩ = some (num (A.cnt (o - 7))) ∧ (w1.alloc x).frozen? ⟨M.a, o, none⟩ = false) := fun w1 hg x => by
    have := ((h.more hg).alloc x).cCnt (o - 7) (by omega)
    rw [show 7 + (o - 7) = o by omega] at this
    exact this
  have HS0 : Hid (w.grownBy w.drew none ∧ w.drew.cell? ⟨M.a, 5, none⟩ = some (.slice (some ⟨M.ds, 0, none⟩) A.D A.D)) := ⟨grownBy_drew (World.grownBy.refl _ _), c5⟩
  go_enter Try.func22, Try.ntmps22
  go_wp2_with fail
  go_region_held3 (fun w' => w.grownBy w' none ∧ w'.cell? ⟨M.a, 5, none⟩ = some (.slice (some ⟨M.ds, 0, none⟩) A.D A.D)) (first | assumption | exact HS0.out | exact dk_keep ‹_› (World.grownBy_alloc _ _ _) | exact dk_keep ‹_› ‹_›)
    (first | (go_at_call 14; refine (ops_ok (h.more (‹w.grownBy _ none ∧ _›).1) hB hN).mono ?_; rintro e w5 ⟨rfl, hg5⟩) | (go_at_call 20; refine (find_ok (h.more (‹w.grownBy _ none ∧ _›).1) d b hd hb).mono ?_; rintro e w6 ⟨rfl, rfl⟩))
  all_goals
    have hg6 : w.grownBy w6 none := grownBy_trans (grownBy_drew (World.grownBy.refl _ _)) ‹w.drew.grownBy w6 none›
    obtain ⟨k1, k2⟩ := HC.out w6 hg6 (stepO M A.num d b p (.slice none 0 0))
    clear HC HS0 c5
    go_wp2_with fail
    refine (add_ok 1 k1 k2).mono ?_
    rintro e w7 ⟨rfl, rfl⟩
    go_wp2
    go_ret
    exact HE.out w6 hg6
end Nd
end Go.Proofs.Ytojamicakkecbab
