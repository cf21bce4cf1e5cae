/- Layer 6 (stripe): rowsAt. -/
import Derived.Test.YtjokedggmhiklaaSc
import Derived.Deep.DeepCutAuto
namespace Go.Proofs.Ytjokedggmhiklaa
open Go.RowKit Go.Maps
namespace Sp
theorem info64 : (Try.prog.info? 64).map (fun i => (i.zero, i.size, i.bytes)) = some (some (.slice none 0 0), 1, 24) := by kernel_rfl
theorem info49 : (Try.prog.info? 49).map (fun i => (i.zero, i.size, i.bytes)) = some (some (.slice none 0 0), 1, 24) := by kernel_rfl
def nils (n : Nat) : List Value := List.replicate n (.slice none 0 0)
theorem make_numrows (w : World) (n : Nat) (hn : n ≤ 2932031007402) : (Instr.makeSlice 60 (num (n : Int)) (num (n : Int))).run Try.prog w = .ok (.slice (some ⟨w.heap.size, 0, none⟩) n n) (w.alloc (.cells (nils n).toArray 64)) := by
  obtain ⟨i0, hi, hz0, hz1, hz2⟩ := info_parts info64
  have hr := run_make (P := Try.prog) w 60 64 i0 (.slice none 0 0) Try.underlying60 hi hz0 .i64 .i64 n n (by omega) (Int.le_refl _) (by rw [hz2]; omega) (by omega)
  simp only [Int.toNat_natCast, hz1, Nat.mul_one] at hr
  have e1 : (madeCells (Value.slice none 0 0).cells n) = (nils n).toArray := by
    apply Array.toList_inj.1
    exact (toList_madeCells_one (.slice none 0 0) n)
  rw [e1] at hr
  exact hr
theorem make_secrows (w : World) (n : Nat) (hn : n ≤ 2932031007402) : (Instr.makeSlice 30 (num (n : Int)) (num (n : Int))).run Try.prog w = .ok (.slice (some ⟨w.heap.size, 0, none⟩) n n) (w.alloc (.cells (nils n).toArray 49)) := by
  obtain ⟨i0, hi, hz0, hz1, hz2⟩ := info_parts info49
  have hr := run_make (P := Try.prog) w 30 49 i0 (.slice none 0 0) Try.underlying30 hi hz0 .i64 .i64 n n (by omega) (Int.le_refl _) (by rw [hz2]; omega) (by omega)
  simp only [Int.toNat_natCast, hz1, Nat.mul_one] at hr
  have e1 : (madeCells (Value.slice none 0 0).cells n) = (nils n).toArray := by
    apply Array.toList_inj.1
    exact (toList_madeCells_one (.slice none 0 0) n)
  rw [e1] at hr
  exact hr
/-- A row of one's own, of n cells. -/
def OwnR (w : World) (g n : Nat) (t : TypeId) : Prop := ∃ L : List Value, w.heap[g]? = some (.cells L.toArray t) ∧ L.length = n
theorem OwnR.set {w : World} {g n : Nat} {t : TypeId} (h : OwnR w g n t) (o : Nat) (v : Value) : OwnR (w.setCell ⟨g, o, none⟩ v) g n t := by
  obtain ⟨L, h1, h2⟩ := h
  exact ⟨L.set o v, setCell_row h1 v, by simpa using h2⟩
theorem OwnR.of_heap {w w' : World} {g n : Nat} {t : TypeId} (h : OwnR w g n t) (e : w'.heap[g]? = w.heap[g]?) : OwnR w' g n t := by
  obtain ⟨L, h1, h2⟩ := h
  exact ⟨L, e.trans h1, h2⟩
theorem OwnR.at {w : World} {g n : Nat} {t : TypeId} (h : OwnR w g n t) {o : Nat} (ho : o < n) : (∃ v, w.cell? ⟨g, o, none⟩ = some v) ∧ w.frozen? ⟨g, o, none⟩ = false := by
  obtain ⟨L, h1, h2⟩ := h
  exact ⟨⟨_, cell_at h1 (by rw [List.getElem?_toArray, List.getElem?_eq_getElem (by omega)])⟩, free_at h1⟩
theorem OwnR.lt {w : World} {g n : Nat} {t : TypeId} (h : OwnR w g n t) : g < w.heap.size := by
  obtain ⟨L, h1, _⟩ := h
  exact lt_of_heap h1
theorem OwnR.same {w : World} {g n : Nat} {t : TypeId} (h : OwnR w g n t) {o : Nat} (ho : o < n) (v : Value) : (w.setCell ⟨g, o, none⟩ v).cell? ⟨g, o, none⟩ = some v := by
  obtain ⟨L, h1, h2⟩ := h
  exact cell_at (setCell_row h1 v) (by rw [List.getElem?_toArray, List.getElem?_set_self (by omega)])
theorem cell_off {w : World} {g o o' : Nat} {v u : Value} (h : w.cell? ⟨g, o, none⟩ = some v) (hne : o ≠ o') : (w.setCell ⟨g, o', none⟩ u).cell? ⟨g, o, none⟩ = some v := by
  rw [World.cell?_setCell_other _ _ _ _ (fun e => hne (by first | exact congrArg Addr.off e | exact (congrArg Addr.off e).symm))]; exact h
theorem cell_else {w : World} {g g' o o' : Nat} {v u : Value} (h : w.cell? ⟨g, o, none⟩ = some v) (hne : g ≠ g') : (w.setCell ⟨g', o', none⟩ u).cell? ⟨g, o, none⟩ = some v := by
  rw [cell_of_block (setCell_else hne u)]; exact h
/-! #### What lies low -/
def Lo (K : Nat → Prop) (N : Nat) : Nat → Prop := fun g => K g ∧ g < N
theorem Rows.lo {K : Nat → Prop} {v : Value} {n sz N : Nat} {E E' : Nat → Nat → Nat → Prop} (h : Rows K v n sz E) (hl : ∀ k g o, E k g o → g < N) (he : ∀ k g o, E k g o → E' k g o) : Rows (Lo K N) v n sz E' := by
  obtain ⟨ao, cap, h1, h2, h3, h4⟩ := h
  refine ⟨ao, cap, h1, h2, h3, ?_⟩
  by_cases hn : n = 0
  · exact .inl hn
  · obtain ⟨g, off, a1, a2, a3⟩ := h4.resolve_left hn
    exact .inr ⟨g, off, a1, ⟨a2, hl 0 g _ (a3 0 (by omega))⟩, fun k hk => he k g _ (a3 k hk)⟩
theorem BytesM.lo {w : World} {K : Nat → Prop} {v : Value} {b : List Nat} (h : BytesM w K v b) : BytesM w (Lo K w.heap.size) v b := ⟨h.1, h.2.lo (fun _ _ _ he => lt_of_cell he) fun _ _ _ => id⟩
theorem SecAt.lo {w : World} {K : Nat → Prop} {g o : Nat} {b : List Nat} (h : SecAt w K g o b) : SecAt w (Lo K w.heap.size) g o b := by
  obtain ⟨v, h1, h2⟩ := h
  exact ⟨v, h1, h2.lo⟩
theorem SecAt.lt {w : World} {K : Nat → Prop} {g o : Nat} {b : List Nat} (h : SecAt w K g o b) : g < w.heap.size := by
  obtain ⟨v, h1, _⟩ := h
  exact lt_of_cell h1
theorem LeafM.lo {w : World} {K : Nat → Prop} {sv bv : Value} {x : Leaf} (h : LeafM w K sv bv x) : LeafM w (Lo K w.heap.size) sv bv x :=
  ⟨h.sl.lo (fun _ _ _ he => lt_of_cell he.key) fun _ _ _ => id, h.se.lo (fun _ _ _ he => he.lt) fun _ _ _ he => he.lo, h.si⟩
theorem LeavesM.lo {w : World} {K : Nat → Prop} {v : Value} {n : Nat} {f : Nat → Leaf} (h : LeavesM w K v n f) : LeavesM w (Lo K w.heap.size) v n f := by
  refine Rows.lo h (fun _ _ _ he => ?_) fun _ _ _ he => ?_
  · obtain ⟨_, _, h1, _⟩ := he
    exact lt_of_cell h1
  · obtain ⟨sv, bv, h1, h2, h3⟩ := he
    exact ⟨sv, bv, h1, h2, h3.lo⟩
/-! #### rowsAt -/
/-- What holds while rows are filled. -/
structure RowsRel (w wr : World) (K : Nat → Prop) (gn gs n k i : Nat) (xs : Nat → Leaf) : Prop where
  grown : w.grownBy wr none
  on : OwnR wr gn n 64
  os : OwnR wr gs n 49
  gen : w.heap.size ≤ gn
  ges : w.heap.size ≤ gs
  ne : gn ≠ gs
  nums : ∀ a, a < k → NumAt wr (fun g => g ≠ gn ∧ g ≠ gs) gn a (numsOf ((xs a).slot i))
  secs : ∀ a, a < k → SecAt wr (fun g => (g ≠ gn ∧ g ≠ gs) ∧ K g) gs a ((xs a).sec i)
theorem rows_start1 (w : World) (K : Nat → Prop) (n i : Nat) (xs : Nat → Leaf) : RowsRel w (((w.alloc (.cells (nils n).toArray 64)).alloc (.cells (nils n).toArray 49)).drew) K w.heap.size (w.heap.size + 1) n 0 i xs := by
  have h1 : (w.alloc (.cells (nils n).toArray 64)).heap[w.heap.size]? = some (.cells (nils n).toArray 64) := heap_alloc_new w _
  have h2 : ((w.alloc (.cells (nils n).toArray 64)).alloc (.cells (nils n).toArray 49)).heap[w.heap.size + 1]? = some (.cells (nils n).toArray 49) := by
    have := heap_alloc_new (w.alloc (.cells (nils n).toArray 64)) (.cells (nils n).toArray 49)
    simpa using this
  have g2 := World.grownBy_alloc (w.alloc (.cells (nils n).toArray 64)) (.cells (nils n).toArray 49) none
  exact ⟨grownBy_drew (grownBy_alloc' (World.grownBy_alloc w _ none) _), ⟨_, (g2.block _ (lt_of_heap h1) (by simp)).trans h1, by simp [nils]⟩, ⟨_, h2, by simp [nils]⟩, Nat.le_refl _, by omega, by omega, fun a ha => by omega, fun a ha => by omega⟩
theorem rows_start2 (w : World) (K : Nat → Prop) (n i : Nat) (xs : Nat → Leaf) : RowsRel w (((w.alloc (.cells (nils n).toArray 49)).alloc (.cells (nils n).toArray 64)).drew) K (w.heap.size + 1) w.heap.size n 0 i xs := by
  have h1 : (w.alloc (.cells (nils n).toArray 49)).heap[w.heap.size]? = some (.cells (nils n).toArray 49) := heap_alloc_new w _
  have h2 : ((w.alloc (.cells (nils n).toArray 49)).alloc (.cells (nils n).toArray 64)).heap[w.heap.size + 1]? = some (.cells (nils n).toArray 64) := by
    have := heap_alloc_new (w.alloc (.cells (nils n).toArray 49)) (.cells (nils n).toArray 64)
    simpa using this
  have g2 := World.grownBy_alloc (w.alloc (.cells (nils n).toArray 49)) (.cells (nils n).toArray 64) none
  exact ⟨grownBy_drew (grownBy_alloc' (World.grownBy_alloc w _ none) _), ⟨_, h2, by simp [nils]⟩, ⟨_, (g2.block _ (lt_of_heap h1) (by simp)).trans h1, by simp [nils]⟩, by omega, Nat.le_refl _, by omega, fun a ha => by omega, fun a ha => by omega⟩
theorem nums_nth (s : Slot) (hi : SlotI s) (hm : SlotMay s) : ∀ i, nth (numsOf s) i < 18446744073709551616 := fun i => by
  have h1 := hi.key
  have h2 := hm.hi
  have h3 := hi.seq
  by_cases h : i < 3
  · have : i = 0 ∨ i = 1 ∨ i = 2 := by omega
    rcases this with rfl | rfl | rfl <;> simp [nth, numsOf] <;> omega
  · rw [nth_over _ (by simp [numsOf]; omega)]; decide
theorem nums_m {w : World} {K : Nat → Prop} {g : Nat} {s : Slot} (hi : SlotI s) (hm : SlotMay s) (hb : w.heap[g]? = some (.cells #[q64 s.key, q64 s.state.toNat, q64 s.seq] 51)) (hK : K g) : NumsM w K (.slice (some ⟨g, 0, none⟩) 3 3) (numsOf s) :=
  ⟨nums_nth s hi hm, some ⟨g, 0, none⟩, 3, rfl, by simp [numsOf], by omega, .inr ⟨g, 0, rfl, hK, fun k hk => by
    have : k = 0 ∨ k = 1 ∨ k = 2 := by simp [numsOf] at hk; omega
    rcases this with rfl | rfl | rfl <;> exact cell_at hb rfl⟩⟩
theorem RowsRel.next {w wr w6 : World} {K : Nat → Prop} {gn gs n k i g6 : Nat} {xs : Nat → Leaf} {sv : Value} (h : RowsRel w wr K gn gs n k i xs) (hk : k < n) (hg : wr.grownBy w6 none) (hi : SlotI ((xs k).slot i)) (hm : SlotMay ((xs k).slot i))
    (h6 : wr.heap.size ≤ g6) (hb : w6.heap[g6]? = some (.cells #[q64 ((xs k).slot i).key, q64 ((xs k).slot i).state.toNat, q64 ((xs k).slot i).seq] 51)) (hs : BytesM w6 (Lo K w.heap.size) sv ((xs k).sec i)) :
    RowsRel w ((w6.setCell ⟨gn, k, none⟩ (.slice (some ⟨g6, 0, none⟩) 3 3)).setCell ⟨gs, k, none⟩ sv) K gn gs n (k + 1) i xs := by
  have l1 := h.on.lt
  have l2 := h.os.lt
  have on6 := h.on.of_heap (hg.block gn l1 (by simp))
  have os6 := h.os.of_heap (hg.block gs l2 (by simp))
  have e1 := (setCell_else (w := w6) (g := gn) (i := k) h.ne.symm (.slice (some ⟨g6, 0, none⟩) 3 3))
  have os7 := os6.of_heap e1
  have hkp : Kept (fun g => g ≠ gn ∧ g ≠ gs) w6 ((w6.setCell ⟨gn, k, none⟩ (.slice (some ⟨g6, 0, none⟩) 3 3)).setCell ⟨gs, k, none⟩ sv) := fun g hgg _ => by
    rw [setCell_else hgg.2, setCell_else hgg.1]
  have hkp1 : Kept (fun g => g ≠ gn ∧ g ≠ gs) wr w6 := .of_grown hg
  refine ⟨grownBy_set (grownBy_set (grownBy_trans h.grown hg) h.gen _) h.ges _, (on6.set k _).of_heap (setCell_else h.ne _), os7.set k _, h.gen, h.ges, h.ne, fun a ha => ?_, fun a ha => ?_⟩
  · by_cases e : a = k
    · subst e
      exact ⟨_, cell_else (on6.same hk _) h.ne, (nums_m hi hm hb ⟨by omega, by omega⟩).kept hkp⟩
    · obtain ⟨v, v1, v2⟩ := h.nums a (by omega)
      exact ⟨v, cell_else (cell_off ((cell_of_block (hg.block gn l1 (by simp))).trans v1) e) h.ne, (v2.kept hkp1).kept hkp⟩
  · by_cases e : a = k
    · subst e
      exact ⟨_, os7.same hk _, (hs.sub (K' := fun g => (g ≠ gn ∧ g ≠ gs) ∧ K g) (fun g hgg => ⟨⟨by have := hgg.2; have := h.gen; omega, by have := hgg.2; have := h.ges; omega⟩, hgg.1⟩)).kept (fun g hgg => hkp g hgg.1)⟩
    · obtain ⟨v, v1, v2⟩ := h.secs a (by omega)
      exact ⟨v, cell_off (cell_else ((cell_of_block (hg.block gs l2 (by simp))).trans v1) h.ne.symm) e, (v2.kept (fun g hgg => hkp1 g hgg.1)).kept (fun g hgg => hkp g hgg.1)⟩
theorem RowsRel.done {w wr : World} {K : Nat → Prop} {gn gs n i : Nat} {xs : Nat → Leaf} (h : RowsRel w wr K gn gs n n i xs) (hn : n ≤ 2932031007402) :
    NumRowsM wr All (.slice (some ⟨gn, 0, none⟩) n n) n (fun a => numsOf ((xs a).slot i)) ∧ SecsM wr (fun g => K g ∨ w.heap.size ≤ g) (.slice (some ⟨gs, 0, none⟩) n n) n (fun a => (xs a).sec i) :=
  ⟨⟨_, n, rfl, Nat.le_refl _, by omega, .inr ⟨gn, 0, rfl, trivial, fun k hk => by
    obtain ⟨v, v1, v2⟩ := h.nums k hk
    rw [Nat.zero_add, Nat.mul_one]
    exact ⟨v, v1, v2.1, v2.2.imp (fun _ _ => trivial) fun _ _ _ _ _ => id⟩⟩⟩, ⟨_, n, rfl, Nat.le_refl _, by omega, .inr ⟨gs, 0, rfl, .inr h.ges, fun k hk => by
    have := h.secs k hk
    rw [Nat.zero_add, Nat.mul_one]
    exact this.sub fun _ hh => .inl hh.2⟩⟩⟩
/-- The cells that a round of rowsAt reads. -/
abbrev RdS (w : World) (gx : Nat) (sv bv : Value) (g1 o1 : Nat) (s : Slot) (g2 o2 : Nat) (u : Value) : Prop :=
  (w.cell? ⟨gx, 0, none⟩ = some sv ∧ w.cell? ⟨gx, 1, none⟩ = some bv ∧ w.cell? ⟨g1, o1, none⟩ = some (q32 s.key) ∧ w.cell? ⟨g1, o1 + 1, none⟩ = some (num s.state) ∧ w.cell? ⟨g1, o1 + 2, none⟩ = some (q64 s.seq) ∧ w.cell? ⟨g2, o2, none⟩ = some u)
theorem rd_grown {w w' : World} {gx : Nat} {sv bv : Value} {g1 o1 : Nat} {s : Slot} {g2 o2 : Nat} {u : Value} (h : RdS w gx sv bv g1 o1 s g2 o2 u) (hg : w.grownBy w' none) : RdS w' gx sv bv g1 o1 s g2 o2 u := by
  have k := Kept.of_grown (K := All) hg
  exact ⟨k.cell trivial h.1, k.cell trivial h.2.1, k.cell trivial h.2.2.1, k.cell trivial h.2.2.2.1, k.cell trivial h.2.2.2.2.1, k.cell trivial h.2.2.2.2.2⟩
theorem rd_set {w : World} {gx : Nat} {sv bv : Value} {g1 o1 : Nat} {s : Slot} {g2 o2 : Nat} {u : Value} (h : RdS w gx sv bv g1 o1 s g2 o2 u) {g o : Nat} {v : Value} (n : gx ≠ g ∧ g1 ≠ g ∧ g2 ≠ g) : RdS (w.setCell ⟨g, o, none⟩ v) gx sv bv g1 o1 s g2 o2 u :=
  ⟨cell_else h.1 n.1, cell_else h.2.1 n.1, cell_else h.2.2.1 n.2.1, cell_else h.2.2.2.1 n.2.1, cell_else h.2.2.2.2.1 n.2.1, cell_else h.2.2.2.2.2 n.2.2⟩
end Sp
end Go.Proofs.Ytjokedggmhiklaa
