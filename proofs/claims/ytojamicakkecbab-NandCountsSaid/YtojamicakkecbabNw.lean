/- Layer 4 (nand): abs; arguments that are numbers and rows of numbers; arrays without faults. -/
import Derived.Test.YtojamicakkecbabNv
import Derived.ProofKit
import Derived.OpenShut
import Derived.ChangeOld
import Derived.Stop.Joined
namespace Go.Proofs.Ytojamicakkecbab
open Go.ChangeShapes Go.WideShapes Go.ChangeAt Go.RowKit Go.Maps
namespace Nd
def absS (n : Int) : Nat := if n < 0 then (-(n + 1)).toNat else n.toNat
theorem absS_neg {n : Int} (h : n < 0) : (absS n : Int) = -(n + 1) := by unfold absS; rw [if_pos h]; omega
theorem absS_pos {n : Int} (h : ¬ n < 0) : (absS n : Int) = n := by unfold absS; rw [if_neg h]; omega
theorem absS_le {n : Int} (h : I64 n) : absS n ≤ 9223372036854775807 := by
  unfold I64 at h
  by_cases hn : n < 0
  · have := absS_neg hn; omega
  · have := absS_pos hn; omega
set_option maxHeartbeats 400000 in
theorem abs_ok (n : Int) (h : I64 n) (w : World) : Calls Try.prog 6 #[num n] w fun e w' => e = .returned (num (absS n)) ∧ w' = w := by
  obtain ⟨h1, h2⟩ := h
  by_cases hn : n < 0
  · have HE : Hid _ := absS_neg hn
    have q1 : n + 1 ≤ 0 := by omega
    go_enter Try.func6, Try.ntmps6
    go_wp2
    go_ret
    exact ⟨ret_int (by rw [HE.out]), rfl⟩
  · have HE : Hid _ := absS_pos hn
    go_enter Try.func6, Try.ntmps6
    go_wp2
    go_ret
    exact ⟨ret_int HE.out.symm, rfl⟩
/-- An argument that is a slice of numbers: those up to its length. -/
def Arg (w : World) (ao : Option Addr) (len : Nat) (xs : List Int) : Prop :=
  xs.length = len ∧ (∀ x ∈ xs, I64 x) ∧ (xs = [] ∨ ∃ g off, ao = some ⟨g, off, none⟩ ∧ ∀ i, i < xs.length → w.cell? ⟨g, off + i, none⟩ = some (num (nthI xs i)))
theorem Arg.more {w w' : World} {ao : Option Addr} {len : Nat} {xs : List Int} (h : Arg w ao len xs) (hg : w.grownBy w' none) : Arg w' ao len xs := by
  refine ⟨h.1, h.2.1, ?_⟩
  rcases h.2.2 with h | ⟨g, off, h1, h2⟩
  · exact .inl h
  · exact .inr ⟨g, off, h1, fun i hi => by rw [cell_of_block (hg.block g (lt_of_cell (h2 i hi)) (by simp))]; exact h2 i hi⟩
theorem arg_of {W : World} {a0 : Option Addr} {len0 cap0 : Nat} {H : Type} {enc : TypeId × Value → H} {base : Nat} {d : DataW H} {ps : List MemPlace}
    (h0 : DataW.Trod enc Try.prog W base (fun _ => true) true 45 (.slice a0 len0 cap0) d ps) : ∃ xs, Arg W a0 len0 xs ∧ len0 ≤ 9223372036854775807 := by
  obtain ⟨fuel, hf⟩ := h0
  rcases open_ints Try.underlying45 Try.underlying3 (by kernel_rfl) hf with ⟨hcs, _⟩ | ⟨x, l, c, zs, hcs, _, hl, hm, hz, _, hcell, hwz⟩
  · simp [Value.cells] at hcs
    obtain ⟨rfl, rfl, rfl⟩ := hcs
    exact ⟨[], ⟨rfl, by simp, .inl rfl⟩, by omega⟩
  · simp [Value.cells] at hcs
    obtain ⟨rfl, rfl, rfl⟩ := hcs
    have hz' : zs.length = cap0 := by simpa using hz
    unfold maxLen at hm
    refine ⟨zs.take len0, ⟨by simp; omega, fun y hy => i64_of_wf (hwz y (List.mem_of_mem_take hy)), ?_⟩, by omega⟩
    by_cases h0 : len0 = 0
    · subst h0; exact .inl (by simp)
    · obtain ⟨g, off, spot⟩ := x
      have hc := hcell 0 (by omega)
      have hspot : spot = none := by simpa [Addr.add] using World.cell?_spot hc
      subst hspot
      refine .inr ⟨g, off, rfl, fun i hi => ?_⟩
      have hi' : i < zs.length := by simp at hi; omega
      have hi2 : i < len0 := by simp at hi; omega
      have := hcell i hi'
      rw [addr_add'] at this
      rw [this]
      simp [nthI, hi2]
theorem own : ownKnob Try.prog.godebug = none := by kernel_rfl
theorem laidOut : laidOutB Try.prog = true := by kernel_rfl
theorem faults_nil (w : World) (ao : Option Addr) : FaultsM w ao [] := ⟨.inl rfl, fun f hf => by cases hf⟩
/-- An array without faults whose power is on. -/
structure Fine (A : St) : Prop where
  on : A.on = true
  cuts : ∀ k, A.cuts k = none
  dead : ∀ d, A.dead d = never
  noP : ∀ d b, (A.blk d b).noP = never
  noE : ∀ d b, (A.blk d b).noE = never
  flips : ∀ d b, (A.blk d b).flips = []
theorem Fine.new (D B P Y : Nat) : Fine (St.new D B P Y) := ⟨rfl, fun _ => rfl, fun _ => rfl, fun _ _ => rfl, fun _ _ => rfl, fun _ _ => rfl⟩
theorem num_never {A : St} {N : Int} (hB : Bd A N) (hN : N ≤ 1000000) : A.num < never := by
  obtain ⟨a1, a2, a3, a4, a5, a6⟩ := num_le hB
  unfold St.num never
  omega
theorem Fine.program {A : St} {N : Int} (h : Fine A) (hB : Bd A N) (hN : N ≤ 1000000) (d b p : Nat) (bs : List Nat) : A.doProgram d b p bs = ((A.tick 1).progPart A.num d b p A.Y bs, 0) := by
  have hn := num_never hB hN
  unfold St.doProgram
  rw [h.cuts]
  simp only [h.dead, hn, if_true]
  have e1 : ((A.tick 1).blk d b).noP = never := h.noP d b
  unfold St.progAll progRet
  rw [e1, h.noP, if_pos hn, if_pos hn]
  rfl
theorem Fine.erase {A : St} {N : Int} (h : Fine A) (hB : Bd A N) (hN : N ≤ 1000000) (d b : Nat) : A.doErase d b = ((((A.tick 2).upB d b Blk.incE).upB d b (Blk.clr A.P)).upB d b (Blk.setN 0), 0) := by
  have hn := num_never hB hN
  unfold St.doErase
  rw [h.cuts]
  simp only [h.dead, hn, if_true]
  have e1 : ((A.tick 2).blk d b).noE = never := h.noE d b
  unfold St.eraseAll eraseRet
  rw [e1, h.noE, if_pos hn, if_pos hn]
  rfl
theorem Fine.read {A : St} {N : Int} (h : Fine A) (hB : Bd A N) (hN : N ≤ 1000000) (d b p : Nat) : A.doRead0 d b p = (A.tick 0, some (pageS A.Y ((A.blk d b).pages p)), 0) := by
  have hn := num_never hB hN
  unfold St.doRead0
  rw [h.cuts]
  simp only [h.dead, hn, if_true]
theorem Fine.tick {A : St} (h : Fine A) (i : Nat) : Fine (A.tick i) := ⟨h.on, h.cuts, h.dead, h.noP, h.noE, h.flips⟩
theorem Fine.upB {A : St} (h : Fine A) (d b : Nat) {f : Blk → Blk} (h1 : (f (A.blk d b)).noP = (A.blk d b).noP) (h2 : (f (A.blk d b)).noE = (A.blk d b).noE) (h3 : (f (A.blk d b)).flips = (A.blk d b).flips) : Fine (A.upB d b f) := by
  refine ⟨h.on, h.cuts, h.dead, fun d' b' => ?_, fun d' b' => ?_, fun d' b' => ?_⟩
  · show (if d' = d ∧ b' = b then f (A.blk d b) else A.blk d' b').noP = never
    split
    · rw [h1]; exact h.noP d b
    · exact h.noP d' b'
  · show (if d' = d ∧ b' = b then f (A.blk d b) else A.blk d' b').noE = never
    split
    · rw [h2]; exact h.noE d b
    · exact h.noE d' b'
  · show (if d' = d ∧ b' = b then f (A.blk d b) else A.blk d' b').flips = []
    split
    · rw [h3]; exact h.flips d b
    · exact h.flips d' b'
theorem Fine.prog {A : St} (h : Fine A) (n : Int) (d b p k : Nat) (bs : List Nat) : Fine (A.progPart n d b p k bs) := h.upB d b (f := fun x => x.prog p (newPage n (A.blk d b).noP A.Y k bs)) rfl rfl rfl
theorem Fine.eras {A : St} (h : Fine A) (d b : Nat) : Fine ((((A.tick 2).upB d b Blk.incE).upB d b (Blk.clr A.P)).upB d b (Blk.setN 0)) :=
  (((h.tick 2).upB d b (f := Blk.incE) rfl rfl rfl).upB d b (f := Blk.clr A.P) rfl rfl rfl).upB d b (f := Blk.setN 0) rfl rfl rfl
theorem tick_num (A : St) (i : Nat) (hi : i < 3) : (A.tick i).num = A.num + 1 := by
  have : i = 0 ∨ i = 1 ∨ i = 2 := by omega
  rcases this with rfl | rfl | rfl <;> simp [St.num, St.tick, St.setCnt] <;> omega
theorem dims_new {D B P Y : Nat} (d1 : 1 ≤ D) (d2 : D ≤ 8) (b1 : 1 ≤ B) (b2 : B ≤ 64) (p1 : 1 ≤ P) (p2 : P ≤ 64) (y1 : 1 ≤ Y) (y2 : Y ≤ 4096) : Dims (St.new D B P Y) := ⟨d1, d2, b1, b2, p1, p2, y1, y2⟩
theorem Stp.from {lab : Lab} {w w1 w2 : World} (hg1 : w.grownBy w1 none) (st2 : Stp (fun _ => none) lab w1 w2) : Stp (fun _ => none) lab w w2 :=
  ⟨st2.os.trans hg1.os, st2.tape.trans hg1.tape, st2.output.trans hg1.output, Nat.le_trans hg1.size st2.size, fun g hg _ => (st2.same g (Nat.lt_of_lt_of_le hg hg1.size) rfl).trans (hg1.block g hg (by simp)), fun g hg => .inr (by
    rcases st2.own g hg with k | k
    · exact absurd rfl k
    · exact Nat.le_trans hg1.size k)⟩
theorem prog_next (A : St) (n : Int) (d b p k : Nat) (bs : List Nat) : ((A.progPart n d b p k bs).blk d b).next = (A.blk d b).next + 1 := by
  simp [St.progPart, St.setBlk, Blk.prog]
end Nd
end Go.Proofs.Ytojamicakkecbab
