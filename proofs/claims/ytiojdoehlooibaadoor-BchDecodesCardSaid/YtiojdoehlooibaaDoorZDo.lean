/- sync.Once.Do over makeTables: behind it the field has its tables, whether or not it had them. -/
import Derived.Test.YtiojdoehlooibaaDoorZOnce
import Derived.Test.YtiojdoehlooibaaDoorZTab
namespace Go.Proofs.YtiojdoehlooibaaDoor
open Go.RowKit
namespace Gf
abbrev fv (b : Nat) : Value := .func (.func 70) #[ptr b] #[]
theorem setCell_blk {w : World} {b i : Nat} {A : Array Value} {t : TypeId} (h : w.heap[b]? = some (.cells A t)) (v : Value) : (w.setCell ⟨b, i, none⟩ v).heap[b]? = some (.cells (A.setIfInBounds i v) t) := by
  simp [World.setCell, Array.getElem?_modify, h]
theorem cell_blk {w : World} {b i : Nat} {A : Array Value} {t : TypeId} (h : w.heap[b]? = some (.cells A t)) : w.cell? ⟨b, i, none⟩ = A[i]? := by
  simp [World.cell?, h]
theorem frozen_blk {w : World} {b i : Nat} {A : Array Value} {t : TypeId} (h : w.heap[b]? = some (.cells A t)) : w.frozen? ⟨b, i, none⟩ = false := by
  simp [World.frozen?, h]
theorem Done.free {w : World} {b m gp gl : Nat} (h : Done w b m gp gl) {r : Nat} (h1 : r ≠ b) (h2 : r ≠ 0) (h3 : r ≠ gp) (h4 : r ≠ gl) : Free w b r := by
  refine ⟨h1, h2, fun m' d pv lv e => ?_⟩
  rw [h.at_] at e
  simp only [blk, Option.some.injEq, Obj.cells.injEq, Array.mk.injEq, List.cons.injEq] at e
  obtain ⟨⟨_, _, _, _, rfl, rfl, _⟩, _⟩ := e
  simp only [Value.ownBlock, ne_eq, Option.some.injEq]
  omega

set_option maxRecDepth 100000 in
set_option maxHeartbeats 1600000 in
theorem slow_bare {w : World} {b m : Nat} (h : Bare w b m) :
    Calls Tryd.prog 82 #[.pointer (some ⟨b, 1, none⟩), fv b] w fun e w' => e = .returned (.tuple #[]) ∧ (∃ gp gl, Done w' b m gp gl) ∧ Step b w w' := by
  have hblt : b < w.heap.size := lt_of_heap h.at_
  have hpos := h.pos
  have a1 := setCell_blk (i := 2) h.at_ (.int .i32 1)
  simp at a1
  have hz1 : ∀ o, w.frozen? ⟨b, o, none⟩ = false := fun o => frozen_blk h.at_
  have c2 : w.cell? ⟨b, 2, none⟩ = some (.int .i32 0) := by rw [cell_blk h.at_]; rfl
  have g1 : Glob (w.setCell ⟨b, 2, none⟩ (.int .i32 1)) := h.glob.kept (setCell_else (by omega) _)
  have gr1 : w.grownBy (w.setCell ⟨b, 2, none⟩ (.int .i32 1)) (some b) := grownBy_setCell (World.grownBy.refl _ _) (.inr rfl) _
  have hT := tab_ok h.em g1 hpos (.int .u32 0) (.int .i32 1) (.int .u32 0) a1
  have d1 : (w.setCell ⟨b, 2, none⟩ (.int .i32 1)).cell? ⟨b, 1, none⟩ = some (.int .u32 0) := by rw [cell_blk a1]; rfl
  have hl := run_call_load (P := Tryd.prog) Tryd.func84 (by kernel_rfl) (by kernel_rfl) (by kernel_rfl) .u32 (by kernel_rfl) d1
  have hnot : ∀ (x : Bool) (w : World), (Op.unary .not (.bool x)).run Tryd.prog w = .ok (.bool (!x)) w := fun _ _ => rfl
  have HT : Hid (Calls Tryd.prog 70 #[ptr b] (w.setCell ⟨b, 2, none⟩ (.int .i32 1)) _) := hT
  clear hT a1 d1
  go_enter_defers Tryd.func82, Tryd.ntmps82
  go_wp2_with (first | (go_at_call 85; refine (lock_free ⟨b, 2, none⟩ _ c2 (hz1 _)).mono ?_; rintro e w' ⟨rfl, rfl⟩) | (go_at_call 81; go_in) | (go_at_call 70; refine HT.out.mono ?_; rintro e w2 ⟨rfl, gp, gl, k1, k2, k3, k4, k5⟩))
  have x1 : w2.cell? ⟨b, 1, none⟩ = some (.int .u32 0) := by rw [cell_blk k1]; rfl
  have y1 : ∀ o, w2.frozen? ⟨b, o, none⟩ = false := fun o => frozen_blk k1
  have a3 : (w2.drew.setCell ⟨b, 1, none⟩ (.int .u32 1)).heap[b]? = some (.cells #[num m, .int .u32 1, .int .i32 1, .int .u32 0, pvOf m gp, lvOf m gl] 95) := by
    have := setCell_blk (w := w2.drew) (i := 1) k1 (.int .u32 1)
    simpa using this
  have a4 : ((w2.drew.setCell ⟨b, 1, none⟩ (.int .u32 1)).setCell ⟨b, 2, none⟩ (.int .i32 0)).heap[b]? = some (blk m 1 (pvOf m gp) (lvOf m gl)) := by
    have := setCell_blk (i := 2) a3 (.int .i32 0)
    simpa using this
  have hs1 : (w.setCell ⟨b, 2, none⟩ (.int .i32 1)).heap.size = w.heap.size := by simp [World.setCell]
  rw [hs1] at k4 k5
  have G4 : w.grownBy ((w2.drew.setCell ⟨b, 1, none⟩ (.int .u32 1)).setCell ⟨b, 2, none⟩ (.int .i32 0)) (some b) :=
    grownBy_setCell (grownBy_setCell (grownBy_drew (grownBy_trans gr1 k3)) (.inr rfl) _) (.inr rfl) _
  have T4 : Tabs ((w2.drew.setCell ⟨b, 1, none⟩ (.int .u32 1)).setCell ⟨b, 2, none⟩ (.int .i32 0)) m gp gl := by
    refine Tabs.kept (w := w2) k2 ?_ ?_
    · rw [setCell_else (by omega), setCell_else (by omega)]; rfl
    · rw [setCell_else (by omega), setCell_else (by omega)]; rfl
  have D4 : Done ((w2.drew.setCell ⟨b, 1, none⟩ (.int .u32 1)).setCell ⟨b, 2, none⟩ (.int .i32 0)) b m gp gl :=
    ⟨h.em, h.glob.kept (G4.block 0 (by omega) (by simp; omega)), hpos, a4, T4, by omega, by omega⟩
  have S4 : Step b w ((w2.drew.setCell ⟨b, 1, none⟩ (.int .u32 1)).setCell ⟨b, 2, none⟩ (.int .i32 0)) :=
    ⟨G4, fun r hr hf => D4.free hf.1 hf.2.1 (by omega) (by omega)⟩
  refine leaves_cons (f := 87) (args := #[.pointer (some ⟨b, 1, none⟩), .bool true]) (by simp) (by simp [go_sem]) ?_
  refine (store_deferred ⟨b, 1, none⟩ (.int .u32 0) .returning _ x1 (y1 _)).mono ?_
  rintro e u' w'' ⟨rfl, rfl, rfl⟩
  refine leaves_cons (f := 86) (args := #[.pointer (some ⟨b, 2, none⟩)]) (by simp [settle]) (by simp [go_sem]) ?_
  refine (unlock_deferred ⟨b, 2, none⟩ _ _ (by rw [cell_blk a3]; rfl) (frozen_blk a3)).mono ?_
  rintro e u' w'' ⟨rfl, rfl, rfl⟩
  simp [Leaves, settle, results, Tryd.results82]
  exact ⟨⟨gp, gl, D4⟩, S4⟩

/-- '(*sync.Once).Do' over makeTables: behind it the field has its tables. -/
theorem do_fld {w : World} {b m : Nat} (h : Fld w b m) :
    Calls Tryd.prog 69 #[.pointer (some ⟨b, 1, none⟩), fv b] w fun e w' => e = .returned (.tuple #[]) ∧ (∃ gp gl, Done w' b m gp gl) ∧ Step b w w' := by
  rcases h with h | ⟨gp, gl, h⟩
  · have h0 : w.cell? ⟨b, 1, none⟩ = some (.int .u32 0) := by rw [cell_blk h.at_]; rfl
    have hl := run_call_load (P := Tryd.prog) Tryd.func84 (by kernel_rfl) (by kernel_rfl) (by kernel_rfl) .u32 (by kernel_rfl) h0
    have hnot : ∀ (x : Bool) (w : World), (Op.unary .not (.bool x)).run Tryd.prog w = .ok (.bool (!x)) w := fun _ _ => rfl
    go_enter Tryd.func69, Tryd.ntmps69
    go_wp2_with (first | (go_at_call 82; refine (slow_bare h).mono ?_; rintro e w' ⟨rfl, hd, hs⟩) | (go_at_call 81; go_in))
    go_end0
    exact ⟨rfl, hd, hs⟩
  · have h0 : w.cell? ⟨b, 1, none⟩ = some (.int .u32 1) := by rw [cell_blk h.at_]; rfl
    refine (do_done ⟨b, 1, none⟩ (fv b) w h0).mono ?_
    rintro e w' ⟨rfl, rfl⟩
    exact ⟨rfl, ⟨gp, gl, h⟩, Step.refl _ _⟩
end Gf
end Go.Proofs.YtiojdoehlooibaaDoor
