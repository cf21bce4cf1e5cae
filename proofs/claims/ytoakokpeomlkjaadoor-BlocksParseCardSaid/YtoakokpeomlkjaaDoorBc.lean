/- Layer 7 (blocks): newDie. -/
import Derived.Test.YtoakokpeomlkjaaDoorBb
namespace Go.Proofs.YtoakokpeomlkjaaDoor
open Go.RowKit Go.Maps Go.Shelf
namespace Bk
attribute [local go_sem] Oper.semAt_some
theorem infoB : (Tryd.prog.info? 62).map (fun i => (i.zero, i.size, i.bytes)) = some (some (.agg #[num 0, q32 0]), 2, 16) := by kernel_rfl
theorem madeB_even {n k : Nat} (h : k < n) : (madeCells #[num 0, q32 0] (n * 2))[k * 2]? = some (num 0) := by
  have : k * 2 < n * 2 := by omega
  simp [madeCells, this]
theorem madeB_odd {n k : Nat} (h : k < n) : (madeCells #[num 0, q32 0] (n * 2))[k * 2 + 1]? = some (q32 0) := by
  have : k * 2 + 1 < n * 2 := by omega
  have e : (k * 2 + 1) % 2 = 1 := by omega
  simp [madeCells, this, e]
theorem make_die (n : Nat) (hn : n ≤ 64) (w : World) : (Instr.makeSlice 54 (num (n : Int)) (num (n : Int))).run Tryd.prog w = .ok (sl0 w.heap.size n) (w.alloc (.cells (madeCells #[num 0, q32 0] (n * 2)) 62)) := by
  obtain ⟨i0, hi, hz0, hz1, hz2⟩ := info_parts infoB
  have hr := run_make (P := Tryd.prog) w 54 62 i0 (.agg #[num 0, q32 0]) Tryd.underlying54 hi hz0 .i64 .i64 n n (by omega) (Int.le_refl _) (by rw [hz2]; omega) (by omega)
  simp only [Int.toNat_natCast, hz1] at hr
  exact hr
/-- What a die under way is: its erases 0, the blocks that came are free. -/
structure DieI (g m : Nat) (pre : List (Fin m)) (W : World) : Prop where
  own : OwnR W g (m * 2) 62
  st : ∀ x, x ∈ pre → W.cell? ⟨g, x.1 * 2, none⟩ = some (num 1)
  er : ∀ k, k < m → W.cell? ⟨g, k * 2 + 1, none⟩ = some (q32 0)
theorem stp_of_row {X Y : World} {row : Option Nat} (hg : X.grownBy Y row) : Stp (fun g => row = some g) X Y := ⟨hg.os, hg.tape, hg.output, hg.size, fun g hl hk => hg.block g hl fun e => hk e.symm⟩
theorem not_row {B g : Nat} {X : World} {row : Option Nat} {L : Array Value} {t : TypeId} (h : X.heap[g]? = some (.cells L t)) (hr : ∀ r, row = some r → B ≤ r ∧ ∃ o : Obj, X.heap[r]? = some o ∧ o.isCells = false) : ¬ row = some g := fun e => by
  obtain ⟨_, o, h1, h2⟩ := hr g e
  rw [h] at h1; cases h1; simp [Obj.isCells] at h2
theorem OwnR.not_row {B g n : Nat} {t : TypeId} {X : World} {row : Option Nat} (h : OwnR X g n t) (hr : ∀ r, row = some r → B ≤ r ∧ ∃ o : Obj, X.heap[r]? = some o ∧ o.isCells = false) : ¬ row = some g := by
  obtain ⟨L, h1, _⟩ := h
  exact Bk.not_row h1 hr
theorem DieI.of_block {g m : Nat} {pre : List (Fin m)} {W W' : World} (h : DieI g m pre W) (e : W'.heap[g]? = W.heap[g]?) : DieI g m pre W' :=
  ⟨h.own.of_heap e, fun x hx => (cell_of_block e).trans (h.st x hx), fun k hk => (cell_of_block e).trans (h.er k hk)⟩
theorem dieI_ownFrom (B g m : Nat) : OwnFrom B (DieI g m) := fun _ _ _ _ hs hg hr => hs.of_block ((stp_of_row hg).same g hs.own.lt (hs.own.not_row hr))
theorem DieI.put {W : World} {g m : Nat} {pre : List (Fin m)} (h : DieI g m pre W) (x : Fin m) : DieI g m (pre ++ [x]) (W.setCell ⟨g, x.1 * 2, none⟩ (num 1)) := by
  refine ⟨h.own.set _ _, fun y hy => ?_, fun k hk => cell_off (h.er k hk) (by omega)⟩
  by_cases e : y.1 = x.1
  · rw [e]; exact h.own.same (by have := x.2; omega) _
  · rcases List.mem_append.1 hy with h1 | h1
    · exact cell_off (h.st y h1) (by omega)
    · simp at h1; exact absurd (congrArg Fin.val h1) e
def DiePost (w : World) (m : Nat) (e : Ending) (w' : World) : Prop := e = .returned (sl0 w.heap.size m) ∧ DieI w.heap.size m (List.finRange m) w' ∧ w.grownBy w' none
theorem dieI_new (w : World) (m : Nat) : DieI w.heap.size m [] (w.alloc (.cells (madeCells #[num 0, q32 0] (m * 2)) 62)) := by
  have h := heap_alloc_new w (.cells (madeCells #[num 0, q32 0] (m * 2)) 62)
  exact ⟨⟨(madeCells #[num 0, q32 0] (m * 2)).toList, by rw [Array.toArray_toList]; exact h, by rw [Array.length_toList]; exact size_madeCells _ _⟩, fun _ hx => absurd hx List.not_mem_nil, fun k hk => cell_at h (madeB_odd hk)⟩
set_option maxRecDepth 100000 in
set_option maxHeartbeats 2000000 in
theorem newDie_ok (m : Nat) (hm : m ≤ 64) (w : World) : Calls Tryd.prog 26 #[num m] w (DiePost w m) := by
  refine (callsIn_wide (n := 3)).1 ?_
  have h1 : 1 ≤ 3 := by omega
  have hmk := make_die m hm w
  have hM : (m : Int) ≤ 64 := by omega
  obtain ⟨V, hV⟩ : ∃ V, V = w.alloc (.cells (madeCells #[num 0, q32 0] (m * 2)) 62) := ⟨_, rfl⟩
  rw [← hV] at hmk
  have hD0 : DieI w.heap.size m [] V := by rw [hV]; exact dieI_new w m
  have hsz : V.heap.size = w.heap.size + 1 := by rw [hV]; simp
  have hB0 : Below w.heap.size w V := by rw [hV]; exact (Below.refl _ w).alloc (Nat.le_refl _) _
  clear hV
  refine callsIn_of_wp_marks Tryd.func26 rfl trivial ?_ rfl
  simp only [Tryd.ntmps26, List.size_toArray, List.length_cons, List.length_nil, Nat.reduceAdd, Nat.reduceSub, Array.replicate_succ, Array.replicate_zero, List.push_toArray, List.append_toArray, List.nil_append, List.cons_append]
  gi_wp2_with (refine ⟨trivial, ?_⟩; gi_at_call 28; refine (all_in Fence.wide (3 - 1) trivial rfl _ _ _ _).mono ?_; rintro e w' ⟨rfl, rfl⟩)
  have bN := Boxed.new V 54 (sl0 w.heap.size m)
  rw [hsz] at bN
  have hB1 := hB0.alloc (by omega) (.cells #[sl0 w.heap.size m] 54)
  have hD1 : DieI w.heap.size m [] (V.alloc (.cells #[sl0 w.heap.size m] 54)) := hD0.of_block (Below.heap_alloc _ _ _ (by omega))
  refine wpIn_rangeFunc_ownG rfl h1 (gf := 42) (lb := #[.pointer (some ⟨w.heap.size + 1, 0, none⟩)]) rfl trivial (enters_of Tryd.func42 (by kernel_rfl) rfl)
    (all_stops Fence.wide (3 - 1) trivial rfl (by omega) (w.heap.size + 1) w.heap.size m hm _ (.inl rfl) _ (by simp; omega) bN.cell) keepB_t (keepB_b (by simp; omega)) (Below.refl _ _) (fun _ => rfl)
    (fun pre W => DieI w.heap.size m pre W ∧ Below w.heap.size w W)
    (fun _ _ _ => False)
    (OwnFrom.and (dieI_ownFrom _ _ _) (ownFrom_below (Nat.le_refl _) (by simp; omega)))
    (fun _ _ _ _ _ hs _ _ => hs)
    ⟨hD1, hB1⟩
    ?a1 ?assign ?body ?done ?stop
  case assign =>
    intro l x W K hK
    gi_wp2
    exact hK
  case body =>
    rintro l pre x W ⟨hD, hB⟩ _
    have hx := x.2
    obtain ⟨v0, hc⟩ := (hD.own.at (o := x.1 * 2) (by omega)).1
    have hf := hD.own.free (x.1 * 2)
    gi_wp2
    exact ⟨(KeepsOthers.setCell _ _ _).from _, setCell_else (by omega) _, hD.put x, hB.setCell (p := ⟨w.heap.size, x.1 * 2, none⟩) (Nat.le_refl _) _⟩
  case done =>
    rintro D ys W hD rfl ⟨hI, hB⟩ hK
    gi_wp2
    refine ⟨by simp, .inl ⟨_, _, rfl, run_takeDeferred hK, ?_⟩⟩
    simp at hD
    refine ⟨_, results_tmp rfl _ _ _, rfl, hI.of_block (World.putObj_heap_other (by omega)), ?_⟩
    exact grown_of_below (hB.trans (belowK_b (w := w) (Nat.le_refl _) W D _ _ (by omega) hK rfl rfl))
  case stop =>
    rintro D c pre W _ _ h _
    exact h.elim
end Bk
end Go.Proofs.YtoakokpeomlkjaaDoor
