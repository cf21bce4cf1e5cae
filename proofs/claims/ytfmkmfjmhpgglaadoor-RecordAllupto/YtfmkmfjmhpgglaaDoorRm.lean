/- Layer 8 (record): a range over All's iterator. -/
import Derived.Test.YtfmkmfjmhpgglaaDoorRl
import Derived.Shelf.Abstract
namespace Go.Proofs.YtfmkmfjmhpgglaaDoor
open Go.RowKit Go.Shelf
namespace Rc
open Cr
attribute [local go_sem] Oper.semAt_some
/-- A round leaves what is no cells as it lay. -/
def Kept (n0 : Nat) (W W' : World) : Prop := W.heap.size ≤ W'.heap.size ∧ ∀ l o, n0 ≤ l → W.heap[l]? = some o → o.isCells = false → W'.heap[l]? = some o
/-- How a round is left. -/
def RndPost (I : (Nat → Prop) → Nat → World → Prop) (Ix : Nat → Nat → World → Prop) (n0 : Nat) (P : Nat → Prop) (k : Nat) (W : World) : Exit → Act → World → Prop
  | .normal, _, W' => Kept n0 W W' ∧ I P (k + 1) W' ∧ ∀ g, P g ∨ g = 0 → W'.heap[g]? = W.heap[g]?
  | .exit id, _, W' => Kept n0 W W' ∧ Ix id (k + 1) W'
  | .ret, _, _ => False
  | .goto _, _, _ => False
  | .panic _, _, _ => False
  | .outgrown, _, _ => False
abbrev mark (r : Nat) : Deferred := { target := .collected r, args := #[] }
theorem range_all1 {g : Operand} {ps : Array Tmp} {assign body : Code} {Q : Exit → Act → World → Prop} {a : Act} {w : World} {B0 : Nat} {ao : Option Addr} {cap : Nat} {b : List Nat} {N : Nat}
    (hg : a.eval g = .func (.func 29) #[] #[.pointer (some ⟨B0, 0, none⟩)]) (hps : ps.size = 1)
    (hN1 : ∀ k, k < N → Ok b k) (hN2 : ¬ Ok b N) (hB0 : w.heap[B0]? = some (.cells #[.slice ao b.length cap] 25)) (hx : RdB w ao b) (hc : b.length ≤ cap) (hcap : ao = none → cap = 0) (hl : b.length ≤ 140737488355328) (hG : Glob w)
    (I : (Nat → Prop) → Nat → World → Prop) (Ix : Nat → Nat → World → Prop) (hI : Abid I)
    (hIo : ∀ P k W l o o', I P k W → w.heap.size ≤ l → W.heap[l]? = some o → o.isCells = false → I P k (W.putObj l o')) (hIxo : ∀ id k W l o o', Ix id k W → w.heap.size ≤ l → W.heap[l]? = some o → o.isCells = false → Ix id k (W.putObj l o'))
    (P0 : Nat → Prop) (hP0 : ∀ a, ao = some a → P0 a.block) (hPl : ∀ g, P0 g → g < w.heap.size) (hP00 : ¬ P0 0) (h0 : I P0 0 w) (a1 : Nat → Nat → Act)
    (hassign : ∀ (l k X : Nat) (W : World) (K : Act → World → Prop), X = W.heap.size → K (a1 X k) (W.alloc (recL (recK b k))) →
      assign.wpIn (Fence.wide.inRound l) 1 Tryd.prog (Exit.then K (fun _ _ _ => False)) { tmps := (ps.zip #[recV (recK b k)]).foldl (fun t (p, v) => t.setIfInBounds p v) a.tmps, defers := [] } W)
    (hbody : ∀ (l : Nat) (P : Nat → Prop) (k X : Nat) (W : World), w.heap.size ≤ l → k < N → I P k W → W.heap[X]? = some (recL (recK b k)) → w.heap.size ≤ X → (∀ g, P g → g < W.heap.size) → ¬ P X → Glob W →
      body.wpIn (Fence.wide.inRound l) 1 Tryd.prog (RndPost I Ix w.heap.size P k W) (a1 X k) W)
    (hdone : ∀ P W, I P N W → w.heap.size < W.heap.size → W.heap[w.heap.size]? = some (.deferred (some [])) → Q .normal { a with defers := mark w.heap.size :: a.defers } W)
    (hstop : ∀ id k W, k ≤ N → Ix id k W → w.heap.size < W.heap.size → W.heap[w.heap.size]? = some (.deferred (some [])) → (Code.exit id).wpIn Fence.wide 3 Tryd.prog Q { a with defers := mark w.heap.size :: a.defers } W) :
    (Code.rangeFunc g ps assign body).wpIn Fence.wide 3 Tryd.prog Q a w := by
  refine wpIn_rangeFunc fun fn _ => ?_
  obtain ⟨rec, hrec⟩ : ∃ rec : LoopState → Option Code → Loop, rec = fun st pe => { state := st, pending := pe, fn := fn, tmps := a.tmps, params := ps, assign := assign, body := body, defers := w.heap.size } := ⟨_, rfl⟩
  obtain ⟨W1, hW1⟩ : ∃ W1, W1 = (w.alloc (.deferred (some []))).alloc (.loop (rec .ready none)) := ⟨_, rfl⟩
  have hs1 : W1.heap.size = w.heap.size + 2 := by rw [hW1]; simp
  have hL1 : W1.heap[w.heap.size + 1]? = some (.loop (rec .ready none)) := by
    have := heap_alloc_new (w.alloc (.deferred (some []))) (.loop (rec .ready none))
    rw [hW1]; simpa using this
  have hgW : w.grownBy W1 none := by rw [hW1]; exact grownBy_alloc' (World.grownBy_alloc w _ none) _
  have hD1 : W1.heap[w.heap.size]? = some (.deferred (some [])) := by
    rw [hW1, (World.grownBy_alloc (w.alloc (.deferred (some []))) _ none).block _ (by simp) (by simp)]; exact heap_alloc_new w _
  have hw0 := hG.pos
  refine ⟨w.heap.size + 1, [mark w.heap.size], W1, { target := .fn (.func 29) #[.pointer (some ⟨B0, 0, none⟩)], args := #[.func (.yield (w.heap.size + 1)) #[] #[]] }, W1, 29,
    #[.func (.yield (w.heap.size + 1)) #[] #[], .pointer (some ⟨B0, 0, none⟩)], W1, ?_, ?_, fun _ _ => trivial, ?_, fun _ => by omega, ?_⟩
  · rw [hW1, hrec]; exact run_enterLoop_outer _ _ _ _ _
  · simp only [resolve, hg]
    simp [go_sem]
  · simp [invoke, go_sem, enters_of Tryd.func29 (by kernel_rfl) rfl _ _]
  · refine (all1_in 2 (w.heap.size + 1) B0 hN1 hN2
      (fun P k W => I P k W ∧ (∀ g, P g → g < W.heap.size) ∧ ¬ P (w.heap.size + 1) ∧ ¬ P w.heap.size ∧ W.heap[w.heap.size + 1]? = some (.loop (rec .ready none)) ∧ W.heap[w.heap.size]? = some (.deferred (some [])) ∧ Glob W ∧ ¬ P 0)
      (fun k W => ∃ id, Ix id k W ∧ W.heap[w.heap.size + 1]? = some (.loop (rec .done (some (.exit id)))) ∧ W.heap[w.heap.size]? = some (.deferred (some [])))
      ?hJ ?hY W1 (obj_more hB0 hgW) (hx.more hgW) hc hcap hl (hG.more hgW) P0 hP0 (fun g h => by have := hPl g h; omega)
      ⟨hI P0 P0 0 w W1 h0 (Stp.of_grown hgW) (fun _ h => h) (fun _ h => .inl h) (fun g h => by have := hPl g h; omega), fun g h => by have := hPl g h; omega, fun h => by have := hPl _ h; omega, fun h => by have := hPl _ h; omega, hL1, hD1, hG.more hgW, hP00⟩).mono ?post
    case hJ =>
      rintro P P' k W W' ⟨hi, hlt, hPL, hPD, hL, hD, hGW, hz⟩ hs h1 h2 h3
      have lL := lt_of_heap hL
      have lD := lt_of_heap hD
      exact ⟨hI P P' k W W' hi hs h1 h2 h3, h3, fun h => (h2 _ h).elim hPL (by omega), fun h => (h2 _ h).elim hPD (by omega), hs.obj hPL hL, hs.obj hPD hD, fun i hi => by rw [cell_of_block (hs.same 0 (by omega) hz)]; exact hGW i hi, fun h => (h2 _ h).elim hz (by omega)⟩
    case hY =>
      rintro P k W hk ⟨hi, hlt, hPL, hPD, hL, hD, hGW, hz⟩
      have lL := lt_of_heap hL
      have hy := run_yield (P := Tryd.prog) (args := #[recV (recK b k)]) hL (by rw [hrec]; exact hps.symm)
      rw [hrec] at hy
      refine ⟨fn, _, assign, body, hy, roundIn_of_wpIn trivial (hassign _ k W.heap.size W _ rfl ?_)⟩
      obtain ⟨Wa, hWa⟩ : ∃ Wa, Wa = W.alloc (recL (recK b k)) := ⟨_, rfl⟩
      have hga : W.grownBy Wa none := by rw [hWa]; exact World.grownBy_alloc W _ none
      have hsa : Wa.heap.size = W.heap.size + 1 := by rw [hWa]; simp
      have hXa : Wa.heap[W.heap.size]? = some (recL (recK b k)) := by rw [hWa]; exact heap_alloc_new W _
      rw [← hWa]
      have hLa := obj_more hL hga
      refine ⟨_, run_beginRound hLa (by rw [hrec]), ?_⟩
      have hia : I P k Wa := hI P P k W Wa hi (Stp.of_grown hga) (fun _ h => h) (fun _ h => .inl h) (fun g h => by have := hlt g h; omega)
      have hib := hIo P k Wa (w.heap.size + 1) _ (.loop { rec .ready none with state := .busy }) hia (by omega) hLa rfl
      have hLb : (Wa.putObj (w.heap.size + 1) (.loop { rec .ready none with state := .busy })).heap[w.heap.size + 1]? = some (.loop { rec .ready none with state := .busy }) := World.putObj_heap_same (by omega)
      have hDb : (Wa.putObj (w.heap.size + 1) (.loop { rec .ready none with state := .busy })).heap[w.heap.size]? = some (.deferred (some [])) := (World.putObj_heap_other (by omega)).trans (obj_more hD hga)
      have hsb : (Wa.putObj (w.heap.size + 1) (.loop { rec .ready none with state := .busy })).heap.size = W.heap.size + 1 := by simp [hsa]
      have hXb : (Wa.putObj (w.heap.size + 1) (.loop { rec .ready none with state := .busy })).heap[W.heap.size]? = some (recL (recK b k)) := (World.putObj_heap_other (by omega)).trans hXa
      have hob : ∀ g, g < W.heap.size → g ≠ w.heap.size + 1 → (Wa.putObj (w.heap.size + 1) (.loop { rec .ready none with state := .busy })).heap[g]? = W.heap[g]? := fun g h1 h2 => (World.putObj_heap_other h2).trans (hga.block g h1 (by simp))
      generalize Wa.putObj (w.heap.size + 1) (.loop { rec .ready none with state := .busy }) = Wb at hib hLb hDb hsb hXb hob
      have hGb : Glob Wb := fun i hi => by rw [cell_of_block (hob 0 (by omega) (by omega))]; exact hGW i hi
      refine wpIn_mono (hbody _ P k W.heap.size Wb (by omega) hk hib hXb (by omega) (fun g h => by have := hlt g h; omega) (fun h => by have := hlt _ h; omega) hGb) ?_
      rintro e a3 W3 hp
      cases e with
      | normal =>
        obtain ⟨⟨hz3, hk3⟩, hi3, hp3⟩ := hp
        have hL3 := hk3 _ _ (by omega) hLb rfl
        have hD3 := hk3 _ _ (Nat.le_refl _) hDb rfl
        have hr := run_endRound (P := Tryd.prog) none hL3
        have hL4 : (W3.putObj (w.heap.size + 1) (.loop (rec .ready none))).heap[w.heap.size + 1]? = some (.loop (rec .ready none)) := World.putObj_heap_same (by omega)
        refine ⟨_, W3.putObj (w.heap.size + 1) (.loop (rec .ready none)), by rw [hr, hrec]; rfl, .inl ⟨rfl, ⟨hIo _ _ _ _ _ _ hi3 (by omega) hL3 rfl, fun g h => ?_, hPL, hPD, hL4, (World.putObj_heap_other (by omega)).trans hD3, fun i hi => ?_, hz⟩, by simp; omega, fun g h => ?_⟩⟩
        · have := hlt g h; simp; omega
        · rw [cell_of_block ((World.putObj_heap_other (by omega)).trans (hp3 0 (.inr rfl)))]; exact hGb i hi
        · have hgl : g < W.heap.size := by rcases h with h | h; exact hlt g h; omega
          have hgn : g ≠ w.heap.size + 1 := by rintro rfl; rcases h with h | h; exact hPL h; omega
          rw [World.putObj_heap_other hgn, hp3 g h]; exact hob g hgl hgn
      | exit id =>
        obtain ⟨⟨hz3, hk3⟩, hi3⟩ := hp
        have hL3 := hk3 _ _ (by omega) hLb rfl
        have hD3 := hk3 _ _ (Nat.le_refl _) hDb rfl
        have hr := run_endRound (P := Tryd.prog) (some (.exit id)) hL3
        have hL4 : (W3.putObj (w.heap.size + 1) (.loop (rec .done (some (.exit id))))).heap[w.heap.size + 1]? = some (.loop (rec .done (some (.exit id)))) := World.putObj_heap_same (by omega)
        exact ⟨_, W3.putObj (w.heap.size + 1) (.loop (rec .done (some (.exit id)))), by rw [hr, hrec]; rfl, .inr ⟨rfl, id, hIxo _ _ _ _ _ _ hi3 (by omega) hL3 rfl, hL4, (World.putObj_heap_other (by omega)).trans hD3⟩⟩
      | ret => exact hp.elim
      | goto _ => exact hp.elim
      | panic _ => exact hp.elim
      | outgrown => exact hp.elim
    case post =>
      rintro e W2 ⟨⟨v, rfl⟩, (⟨P, hi, _, _, _, hL, hD, _, _⟩ | ⟨k, hk, id, hi, hL, hD⟩)⟩
      · have lL := lt_of_heap hL
        refine ⟨none, _, by have := run_endLoop (P := Tryd.prog) hL (by rw [hrec]; simp); rw [hrec] at this; exact this, hdone P _ (hIo _ _ _ _ _ _ hi (by omega) hL rfl) (by simp; omega) ((World.putObj_heap_other (by omega)).trans hD)⟩
      · have lL := lt_of_heap hL
        refine ⟨some (.exit id), _, by have := run_endLoop (P := Tryd.prog) hL (by rw [hrec]; simp); rw [hrec] at this; exact this, hstop id k _ hk (hIxo _ _ _ _ _ _ hi (by omega) hL rfl) (by simp; omega) ((World.putObj_heap_other (by omega)).trans hD)⟩
end Rc
end Go.Proofs.YtfmkmfjmhpgglaaDoor
