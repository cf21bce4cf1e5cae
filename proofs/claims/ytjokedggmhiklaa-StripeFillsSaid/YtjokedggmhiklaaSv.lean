/- Layer 6 (stripe): a row that is open. -/
import Derived.Test.YtjokedggmhiklaaSu
import Derived.Deep.DeepCutAuto
namespace Go.Proofs.Ytjokedggmhiklaa
open Go.RowKit Go.Maps
namespace Sp
abbrev openO (S N wd p k : Nat) (sv bv : Value) : Obj := .cells #[num S, num N, num 1, num wd, num p, num k, sv, bv] 69
theorem KT.low {w : World} {B B' g : Nat} (h : KT w B g) (hb : B' ≤ B) : KT w B' g := ⟨Nat.le_trans hb h.1, h.2⟩
/-- Blocks that are neither the open row nor rows of leaves. -/
def KO (w : World) (g b : Nat) : Prop := b ≠ g ∧ KT w 0 b
/-- A row that is open, as it lies. -/
structure OpenM (w : World) (g S N wd p k gs gb : Nat) (X : Nat → Leaf) : Prop where
  box : w.heap[g]? = some (openO S N wd p k (sl0 gs N) (sl0 gb N))
  leaf : LeafM w (KO w g) (sl0 gs N) (sl0 gb N) (sumS S N k X)
theorem OpenM.more {w w' : World} {g S N wd p k gs gb : Nat} {X : Nat → Leaf} (h : OpenM w g S N wd p k gs gb X) (hg : w.grownBy w' none) : OpenM w' g S N wd p k gs gb X :=
  ⟨(hg.block _ (lt_of_heap h.box) (by simp)).trans h.box, (h.leaf.more hg).sub fun _ hb => ⟨hb.1, hb.2.more hg (by simp)⟩⟩
/-- Writes into a row of leaves leave what is no row of leaves. -/
theorem LeafM.setRow {w w' : World} {ga B : Nat} {sv bv : Value} {x : Leaf} {L : Array Value} (h : LeafM w (KT w B) sv bv x) (hr : w.heap[ga]? = some (.cells L 32)) (hs : ∀ b, b ≠ ga → w'.heap[b]? = w.heap[b]?) : LeafM w' (KT w' B) sv bv x := by
  have e : ∀ b, KT w B b → w'.heap[b]? = w.heap[b]? := fun b hb => hs b fun e => by
    obtain ⟨_, L', t, h2, h3⟩ := hb
    rw [e, hr] at h2
    simp only [Option.some.injEq, Obj.cells.injEq] at h2
    exact h3 h2.2.1.symm
  exact (h.kept fun b hb _ => e b hb).sub fun b hb => by
    have e' := e b hb
    obtain ⟨h1, L', t, h2, h3⟩ := hb
    exact ⟨h1, L', t, e'.trans h2, h3⟩
theorem OpenM.setRow {w w' : World} {g ga S N wd p k gs gb : Nat} {X : Nat → Leaf} {L : Array Value} (h : OpenM w g S N wd p k gs gb X) (hr : w.heap[ga]? = some (.cells L 32)) (hs : ∀ b, b ≠ ga → w'.heap[b]? = w.heap[b]?) : OpenM w' g S N wd p k gs gb X := by
  have hne : g ≠ ga := fun e => by
    have h2 := h.box
    rw [e, hr] at h2
    simp only [Option.some.injEq, Obj.cells.injEq] at h2
    exact absurd h2.2.1 (by decide)
  have e : ∀ b, KO w g b → w'.heap[b]? = w.heap[b]? := fun b hb => hs b fun e => by
    obtain ⟨_, _, L', t, h2, h3⟩ := hb
    rw [e, hr] at h2
    simp only [Option.some.injEq, Obj.cells.injEq] at h2
    exact h3 h2.2.1.symm
  exact ⟨(hs g hne).trans h.box, (h.leaf.kept fun b hb _ => e b hb).sub fun b hb => by
    have e' := e b hb
    obtain ⟨h0, h1, L', t, h2, h3⟩ := hb
    exact ⟨h0, h1, L', t, e'.trans h2, h3⟩⟩
theorem ptr_some (g : Nat) (w : World) : (binOp .eql 40 (.pointer (some ⟨g, 0, none⟩)) (.pointer none)).run Try.prog w = .ok (.bool false) w := by go_simp
theorem none_ok {w : World} {g S N wd p k : Nat} {sv bv : Value} (h : w.heap[g]? = some (openO S N wd p k sv bv)) (hw : 1 ≤ wd) : Calls Try.prog 32 #[.pointer (some ⟨g, 0, none⟩)] w fun e w' => e = .returned (.bool false) ∧ w' = w := by
  have e0 := ptr_some g
  have c3 : w.cell? ⟨g, 3, none⟩ = some (num wd) := cell_at h rfl
  have h1 : ((wd : Int) == 0) = false := by simp; omega
  have h2 : (wd : Int) ≠ 0 := by omega
  clear h
  go_enter Try.func32, Try.ntmps32
  go_wp2
  go_ret
  exact ⟨rfl, rfl⟩
theorem left_ok {w : World} {g S N wd p k : Nat} {sv bv : Value} (h : w.heap[g]? = some (openO S N wd p k sv bv)) (hk : k + 1 ≤ wd) (hw : wd ≤ 255) : Calls Try.prog 21 #[.pointer (some ⟨g, 0, none⟩)] w fun e w' => e = .returned (num ((wd - 1 - k : Nat) : Int)) ∧ w.grownBy w' none := by
  have HN : Hid (Calls Try.prog 32 #[.pointer (some ⟨g, 0, none⟩)] w fun e w' => e = .returned (.bool false) ∧ w' = w) := none_ok h (by omega)
  have c3 : w.cell? ⟨g, 3, none⟩ = some (num wd) := cell_at h rfl
  have c5 : w.cell? ⟨g, 5, none⟩ = some (num k) := cell_at h rfl
  have a1 : IntKind.i64.wrap ((wd : Int) - 1) = (wd : Int) - 1 := by rw [IntKind.wrap_i64]; omega
  have a2 : IntKind.i64.wrap ((wd : Int) - 1 - (k : Int)) = ((wd - 1 - k : Nat) : Int) := by rw [IntKind.wrap_i64]; omega
  clear h
  go_enter Try.func21, Try.ntmps21
  go_wp2_with fail
  refine HN.out.mono ?_
  rintro e w1 ⟨rfl, rfl⟩
  go_wp2_with fail
  go_quiet (fail)
  go_wp2
  go_ret
  exact ⟨rfl, grownBy_drewN (grownBy_refl _ _) _⟩
end Sp
end Go.Proofs.Ytjokedggmhiklaa
