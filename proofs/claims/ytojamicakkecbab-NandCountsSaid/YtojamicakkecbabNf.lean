/- Layer 4 (nand): bytes of one's own; verdict, fill. -/
import Derived.Test.YtojamicakkecbabNe
namespace Go.Proofs.Ytojamicakkecbab
open Go.RowKit Go.Maps
namespace Nd
/-- Bytes as they lie. -/
def valsB (l : List Nat) : List Value := l.map fun (x : Nat) => .int .u8 x
theorem valsB_len (l : List Nat) : (valsB l).length = l.length := by simp [valsB]
theorem valsB_set (R : List Nat) (k v : Nat) : (valsB R).set k (.int .u8 (v : Nat)) = valsB (R.set k v) := by
  simp only [valsB, List.map_set]
theorem valsB_at {R : List Nat} {k : Nat} (h : k < R.length) : (valsB R)[k]? = some (.int .u8 (nth R k : Nat)) := by simp [valsB, h, nth]
theorem valsB_zeros (n : Nat) : Array.replicate n (Value.int .u8 0) = (valsB (List.replicate n 0)).toArray := by simp [valsB]
theorem valsB_one (l : List Nat) : ∀ u ∈ valsB l, u.oneCell' = true := fun u hu => by
  simp [valsB] at hu
  obtain ⟨x, _, rfl⟩ := hu
  rfl
theorem setCell_row {w : World} {g i : Nat} {L : List Value} {t : TypeId} (h : w.heap[g]? = some (.cells L.toArray t)) (v : Value) : (w.setCell ⟨g, i, none⟩ v).heap[g]? = some (.cells (L.set i v).toArray t) := by
  simp [World.setCell, Array.getElem?_modify, h]
theorem cell_row {w : World} {g i : Nat} {L : List Value} {t : TypeId} (h : w.heap[g]? = some (.cells L.toArray t)) : w.cell? ⟨g, i, none⟩ = L[i]? := by
  simp [World.cell?, h]
theorem frozen_row {w : World} {g i : Nat} {L : List Value} {t : TypeId} (h : w.heap[g]? = some (.cells L.toArray t)) : w.frozen? ⟨g, i, none⟩ = false := by
  simp [World.frozen?, h]
theorem grownBy_setCell {w w' : World} {r : Option Nat} (h : w.grownBy w' r) {g i : Nat} (hg : w.heap.size ≤ g ∨ r = some g) (v : Value) : w.grownBy (w'.setCell ⟨g, i, none⟩ v) r :=
  ⟨h.os, h.tape, h.output, by have := h.size; simp [World.setCell]; omega, fun k hk hne => by
    rw [setCell_else (by rintro rfl; rcases hg with hg | hg; omega; exact hne hg.symm)]; exact h.block k hk hne⟩
/-- Bytes that can be read. -/
structure Src (w : World) (g off : Nat) (bs : List Nat) : Prop where
  le : ∀ i, nth bs i ≤ 255
  cell : ∀ i, i < bs.length → w.cell? ⟨g, off + i, none⟩ = some (.int .u8 (nth bs i : Nat))
theorem Src.of_heap {w w' : World} {g off : Nat} {bs : List Nat} (h : Src w g off bs) (e : w'.heap[g]? = w.heap[g]?) : Src w' g off bs :=
  ⟨h.le, fun i hi => (cell_of_block e).trans (h.cell i hi)⟩
theorem Src.of_row {w : World} {g : Nat} {bs : List Nat} (h : w.heap[g]? = some (.cells (valsB bs).toArray 5)) (hle : ∀ i, nth bs i ≤ 255) : Src w g 0 bs :=
  ⟨hle, fun i hi => by rw [Nat.zero_add, cell_row h, valsB_at hi]⟩
theorem Src.news {w : World} {g off : Nat} {bs : List Nat} (h : Src w g off bs) (k : Nat) : ∀ j u, (valsB (bs.take k))[j]? = some u → w.cell? ((⟨g, off, none⟩ : Addr).add j) = some u := fun j u hj => by
  have hjl : j < (bs.take k).length := by
    have := (List.getElem?_eq_some_iff.1 hj).1
    rwa [valsB_len] at this
  have hj2 : j < bs.length ∧ j < k := by simp at hjl; omega
  rw [valsB_at hjl] at hj
  rw [addr_add', h.cell j hj2.1, ← hj]
  simp [nth, hj2.2]
/-! ### fill -/
def filB (bs : List Nat) (k : Nat) : List Nat := List.replicate k 255 ++ bs.drop k
theorem filB_next {bs : List Nat} {k : Nat} (h : k < bs.length) : (filB bs k).set k 255 = filB bs (k + 1) := by
  unfold filB
  rw [List.set_append_right _ _ (by simp)]
  simp only [List.length_replicate, Nat.sub_self]
  rw [List.drop_eq_getElem_cons h, List.set_cons_zero, List.replicate_succ', List.append_assoc]
  rfl
theorem filB_len {bs : List Nat} {k : Nat} (h : k ≤ bs.length) : (filB bs k).length = bs.length := by simp [filB]; omega
theorem filB_all (bs : List Nat) : filB bs bs.length = List.replicate bs.length 255 := by simp [filB]
set_option maxHeartbeats 800000 in
theorem fill_ok {w : World} (g : Nat) (bs : List Nat) (hr : w.heap[g]? = some (.cells (valsB bs).toArray 5)) (hl : bs.length ≤ 4096) :
    Calls Try.prog 35 #[.slice (some ⟨g, 0, none⟩) bs.length bs.length] w fun e w' => e = .returned (.tuple #[]) ∧ w'.heap[g]? = some (.cells (valsB (List.replicate bs.length 255)).toArray 5) ∧ w.grownBy w' (some g) := by
  go_enter Try.func35, Try.ntmps35
  go_wp2_with fail
  go_loopw [5] (fun i wr => ∃ k : Nat, k ≤ bs.length ∧ i = num k ∧ wr.heap[g]? = some (.cells (valsB (filB bs k)).toArray 5) ∧ w.grownBy wr (some g)) (fun i _ => bs.length - (intOf i).toNat)
  case atStart => exact ⟨0, Nat.zero_le _, rfl, by simpa [filB] using hr, World.grownBy.refl _ _⟩
  case round =>
    obtain ⟨k, hk, rfl, hrow, hgr⟩ := hrel
    by_cases hlt : k < bs.length
    · have b1 : (k : Int) < (bs.length : Int) := by omega
      have hc := cell_row (i := k) hrow
      rw [valsB_at (by rw [filB_len hk]; exact hlt)] at hc
      have hz := frozen_row (i := k) hrow
      have HN : Hid ((wr.setCell ⟨g, k, none⟩ (.int .u8 255)).heap[g]? = some (.cells (valsB (filB bs (k + 1))).toArray 5)) := by
        have := setCell_row (i := k) hrow (.int .u8 ((255 : Nat) : Int))
        rw [valsB_set, filB_next hlt] at this
        exact this
      have HG : Hid (w.grownBy (wr.setCell ⟨g, k, none⟩ (.int .u8 255)) (some g)) := grownBy_setCell hgr (.inr rfl) _
      clear hrow hgr hr
      go_wp2
      go_roundw
      case rel => exact ⟨k + 1, by omega, by go_num, HN.out, HG.out⟩
      case measure => simp [intOf]; omega
    · obtain rfl : k = bs.length := by omega
      rw [filB_all] at hrow
      have b1 : ¬ (bs.length : Int) < (bs.length : Int) := by omega
      have HN : Hid _ := hrow
      clear hrow hr
      go_wp2
      go_end0
      exact ⟨rfl, HN.out, hgr⟩
/-! ### verdict -/
set_option maxHeartbeats 800000 in
theorem verdict_yes {w : World} {M : Lay} {s : Nat} {n : Int} {d b : Nat} {p : Int} {v : Value} (hs : w.heap[s]? = some (stepO M n d b p v)) (frm : Int) (hlt : n < frm) :
    Calls Try.prog 34 #[ptr s 0, num frm] w fun e w' => e = .returned (num 0) ∧ w' = w := by
  have c1 : w.cell? ⟨s, 1, none⟩ = some (num n) := (At.of_row (o := 1) hs rfl).1
  go_enter Try.func34, Try.ntmps34
  go_wp2
  go_ret
  exact ⟨rfl, rfl⟩
set_option maxHeartbeats 800000 in
theorem verdict_no {w : World} {M : Lay} {A : St} {lab : Lab} (h : Arr w M A lab) {s : Nat} {n : Int} {d b : Nat} {p : Int} {v : Value} (hs : w.heap[s]? = some (stepO M n d b p v)) (hsl : lab s = some .step) (frm : Int) (hlt : frm ≤ n)
    {N : Int} (hB : Bd A N) (hN : N ≤ 1000000) :
    Calls Try.prog 34 #[ptr s 0, num frm] w fun e w' => e = .returned (num 43) ∧ Arr w' M (A.tick 4) lab ∧ Stp lab lab w w' ∧ w'.heap[s]? = w.heap[s]? := by
  have c0 : w.cell? ⟨s, 0, none⟩ = some (ptr M.a 0) := (At.of_row (o := 0) hs rfl).1
  have c1 : w.cell? ⟨s, 1, none⟩ = some (num n) := (At.of_row (o := 1) hs rfl).1
  have hb4 := hB.cnt 4 (by decide)
  have hlt' : ¬ n < frm := by omega
  obtain ⟨k1, k2⟩ := h.cCnt 4 (by decide)
  have hne : s ≠ M.a := fun e => by have := h.la; rw [← e, hsl] at this; cases this
  go_enter Try.func34, Try.ntmps34
  go_wp2_with fail
  refine (add_ok 1 k1 k2).mono ?_
  rintro e w7 ⟨rfl, rfl⟩
  go_wp2
  go_ret
  refine ⟨rfl, ?_, (Stp.refl _ _).set (.inl (by rw [h.la]; simp)) _, setCell_else hne _⟩
  have := h.setCnt (i := 4) (by decide) (wr (A.cnt 4 + 1))
  rw [wr_in (by omega) (by omega)] at this ⊢
  exact this
end Nd
end Go.Proofs.Ytojamicakkecbab
