/- Layer 6 (stripe): what holds while leaves are added. -/
import Derived.Test.YtjokedggmhiklaaSe
namespace Go.Proofs.Ytjokedggmhiklaa
open Go.RowKit Go.Maps
namespace Sp
theorem info53 : ∃ z, (Try.prog.info? 53).map (fun i => (i.zero, i.size, i.bytes)) = some (some z, 3, 24) := ⟨.agg #[.int .u32 0, num 0, .int .u64 0], by kernel_rfl⟩
theorem make_slots (n : Nat) (hn : n ≤ 2932031007402) : ∃ L : List Value, L.length = n * 3 ∧ ∀ w : World, (Instr.makeSlice 29 (num (n : Int)) (num (n : Int))).run Try.prog w = .ok (.slice (some ⟨w.heap.size, 0, none⟩) n n) (w.alloc (.cells L.toArray 53)) := by
  obtain ⟨z, hz⟩ := info53
  obtain ⟨i0, hi, hz0, hz1, hz2⟩ := info_parts hz
  refine ⟨(madeCells z.cells (n * 3)).toList, by rw [Array.length_toList]; exact size_madeCells z.cells (n * 3), fun w => ?_⟩
  have hr := run_make (P := Try.prog) w 29 53 i0 z Try.underlying29 hi hz0 .i64 .i64 n n (by omega) (Int.le_refl _) (by rw [hz2]; omega) (by omega)
  simp only [Int.toNat_natCast, hz1] at hr
  rw [Array.toArray_toList]
  exact hr
abbrev nilS : Value := .slice none 0 0
abbrev sl0 (g n : Nat) : Value := .slice (some ⟨g, 0, none⟩) n n
/-- What holds while leaves are added: so many slots, so many sectors. -/
structure SumRel (w wr : World) (S N n : Nat) (T : Int) (gs gb gx k m : Nat) (gk : Nat → Nat) (xs : Nat → Leaf) : Prop where
  grown : w.grownBy wr none
  lay : wr.heap[w.heap.size]? = some (layL S N T)
  res : wr.heap[w.heap.size + 1]? = some (leafL nilS nilS)
  box : wr.heap[gx]? = some (leafL (sl0 gs N) (sl0 gb N))
  os : OwnR wr gs (N * 3) 53
  ob : OwnR wr gb N 49
  es : w.heap.size + 2 ≤ gs
  eb : w.heap.size + 2 ≤ gb
  ex : w.heap.size + 2 ≤ gx
  n1 : gs ≠ gb
  n2 : gs ≠ gx
  n3 : gb ≠ gx
  sl : ∀ a, a < k → SlotAt wr gs (a * 3) (sumSlot n xs a)
  se : ∀ a, a < m → wr.cell? ⟨gb, a, none⟩ = some (sl0 (gk a) S) ∧ wr.heap[gk a]? = some (.cells (vals8 (sumSec S n xs a)).toArray 5) ∧ w.heap.size + 2 ≤ gk a ∧ gk a ≠ gs ∧ gk a ≠ gb ∧ gk a ≠ gx
theorem SumRel.more {w wr w' : World} {S N n : Nat} {T : Int} {gs gb gx k m : Nat} {gk : Nat → Nat} {xs : Nat → Leaf} (h : SumRel w wr S N n T gs gb gx k m gk xs) (hg : wr.grownBy w' none) : SumRel w w' S N n T gs gb gx k m gk xs := by
  have kp := Kept.of_grown (K := All) hg
  refine ⟨grownBy_trans h.grown hg, ?_, ?_, ?_, h.os.of_heap (hg.block _ h.os.lt (by simp)), h.ob.of_heap (hg.block _ h.ob.lt (by simp)), h.es, h.eb, h.ex, h.n1, h.n2, h.n3, fun a ha => (h.sl a ha).kept kp trivial, fun a ha => ?_⟩
  · rw [hg.block _ (lt_of_heap h.lay) (by simp)]; exact h.lay
  · rw [hg.block _ (lt_of_heap h.res) (by simp)]; exact h.res
  · rw [hg.block _ (lt_of_heap h.box) (by simp)]; exact h.box
  · obtain ⟨a1, a2, a3⟩ := h.se a ha
    exact ⟨kp.cell trivial a1, by rw [hg.block _ (lt_of_heap a2) (by simp)]; exact a2, a3⟩
/-- A slot is laid. -/
theorem SumRel.slot {w wr : World} {S N n : Nat} {T : Int} {gs gb gx k m : Nat} {gk : Nat → Nat} {xs : Nat → Leaf} (h : SumRel w wr S N n T gs gb gx k m gk xs) (hk : k < N) :
    SumRel w (((wr.setCell ⟨gs, k * 3, none⟩ (q32 (sumSlot n xs k).key)).setCell ⟨gs, k * 3 + 1, none⟩ (num (sumSlot n xs k).state)).setCell ⟨gs, k * 3 + 2, none⟩ (q64 (sumSlot n xs k).seq)) S N n T gs gb gx (k + 1) m gk xs := by
  have el : ∀ g, g ≠ gs → ((((wr.setCell ⟨gs, k * 3, none⟩ (q32 (sumSlot n xs k).key)).setCell ⟨gs, k * 3 + 1, none⟩ (num (sumSlot n xs k).state)).setCell ⟨gs, k * 3 + 2, none⟩ (q64 (sumSlot n xs k).seq))).heap[g]? = wr.heap[g]? := fun g hg => by
    rw [setCell_else hg, setCell_else hg, setCell_else hg]
  have o1 := h.os.set (k * 3) (q32 (sumSlot n xs k).key)
  have o2 := o1.set (k * 3 + 1) (num (sumSlot n xs k).state)
  have hs := h.es
  refine ⟨grownBy_set (grownBy_set (grownBy_set h.grown (by omega) _) (by omega) _) (by omega) _, (el _ (by omega)).trans h.lay, (el _ (by omega)).trans h.res, (el _ h.n2.symm).trans h.box, o2.set _ _, h.ob.of_heap (el _ h.n1.symm), h.es, h.eb, h.ex, h.n1, h.n2, h.n3, fun a ha => ?_, fun a ha => ?_⟩
  · by_cases e : a = k
    · subst e
      exact ⟨cell_off (cell_off (h.os.same (by omega) _) (by omega)) (by omega), cell_off (o1.same (by omega) _) (by omega), o2.same (by omega) _⟩
    · have := h.sl a (by omega)
      exact ⟨cell_off (cell_off (cell_off this.key (by omega)) (by omega)) (by omega), cell_off (cell_off (cell_off this.st (by omega)) (by omega)) (by omega), cell_off (cell_off (cell_off this.seq (by omega)) (by omega)) (by omega)⟩
  · obtain ⟨a1, a2, a3, a4, a5⟩ := h.se a ha
    exact ⟨cell_else (cell_else (cell_else a1 h.n1.symm) h.n1.symm) h.n1.symm, (el _ a4).trans a2, a3, a4, a5⟩
/-- A sector is laid. -/
theorem SumRel.sec {w wr : World} {S N n : Nat} {T : Int} {gs gb gx k m g : Nat} {gk : Nat → Nat} {xs : Nat → Leaf} (h : SumRel w wr S N n T gs gb gx k m gk xs) (hm : m < N) (hb : wr.heap[g]? = some (.cells (vals8 (sumSec S n xs m)).toArray 5)) (hg : w.heap.size + 2 ≤ g) (e1 : g ≠ gs) (e2 : g ≠ gb) (e3 : g ≠ gx) :
    SumRel w (wr.setCell ⟨gb, m, none⟩ (sl0 g S)) S N n T gs gb gx k (m + 1) (fun a => if a = m then g else gk a) xs := by
  have el : ∀ g', g' ≠ gb → (wr.setCell ⟨gb, m, none⟩ (sl0 g S)).heap[g']? = wr.heap[g']? := fun g' hg => by rw [setCell_else hg]
  have hs := h.eb
  refine ⟨grownBy_set h.grown (by omega) _, (el _ (by omega)).trans h.lay, (el _ (by omega)).trans h.res, (el _ h.n3.symm).trans h.box, h.os.of_heap (el _ h.n1), h.ob.set _ _, h.es, h.eb, h.ex, h.n1, h.n2, h.n3, fun a ha => ?_, fun a ha => ?_⟩
  · have := h.sl a ha
    exact ⟨cell_else this.key h.n1, cell_else this.st h.n1, cell_else this.seq h.n1⟩
  · by_cases e : a = m
    · subst e
      simp only [if_pos]
      exact ⟨h.ob.same hm _, (el _ e2).trans hb, hg, e1, e2, e3⟩
    · simp only [if_neg e]
      obtain ⟨a1, a2, a3, a4, a5, a6⟩ := h.se a (by omega)
      exact ⟨cell_off a1 e, (el _ a5).trans a2, a3, a4, a5, a6⟩
/-- A leaf of one's own. -/
structure OwnLeaf (B : Nat) (w : World) (S N : Nat) (gs gb : Nat) (gk : Nat → Nat) (x : Leaf) : Prop where
  os : OwnR w gs (N * 3) 53
  ob : OwnR w gb N 49
  es : B ≤ gs
  eb : B ≤ gb
  n1 : gs ≠ gb
  sl : ∀ a, a < N → SlotAt w gs (a * 3) (x.slot a)
  se : ∀ a, a < N → w.cell? ⟨gb, a, none⟩ = some (sl0 (gk a) S) ∧ w.heap[gk a]? = some (.cells (vals8 (x.sec a)).toArray 5) ∧ B ≤ gk a ∧ gk a ≠ gs ∧ gk a ≠ gb
  xn : x.n = N
  xm : x.m = N
  si : ∀ a, a < N → SlotI (x.slot a) ∧ SlotMay (x.slot a)
  xs : ∀ a, a < N → (x.sec a).length = S ∧ ∀ i, nth (x.sec a) i ≤ 255
theorem OwnLeaf.leaf {B : Nat} {w : World} {S N gs gb : Nat} {gk : Nat → Nat} {x : Leaf} (h : OwnLeaf B w S N gs gb gk x) (hS : S ≤ 1000) (hN : N ≤ 1000) : LeafM w (fun g => B ≤ g) (sl0 gs N) (sl0 gb N) x := by
  refine ⟨⟨_, N, by rw [h.xn], by rw [h.xn]; exact Nat.le_refl _, by omega, .inr ⟨gs, 0, rfl, h.es, fun k hk => by rw [Nat.zero_add]; exact h.sl k (by rw [← h.xn]; exact hk)⟩⟩, ⟨_, N, by rw [h.xm], by rw [h.xm]; exact Nat.le_refl _, by omega, .inr ⟨gb, 0, rfl, h.eb, fun k hk => ?_⟩⟩, fun i hi => (h.si i (by rw [← h.xn]; exact hi)).1⟩
  have hk' : k < N := by rw [← h.xm]; exact hk
  obtain ⟨a1, a2, a3, a4, a5⟩ := h.se k hk'
  obtain ⟨b1, b2⟩ := h.xs k hk'
  refine ⟨_, by rw [Nat.zero_add, Nat.mul_one]; exact a1, b2, some ⟨gk k, 0, none⟩, S, by rw [b1], by rw [b1]; exact Nat.le_refl _, by omega, .inr ⟨gk k, 0, rfl, a3, fun j hj => cell_at a2 ?_⟩⟩
  rw [Nat.zero_add, Nat.mul_one, List.getElem?_toArray]
  exact vals8_at hj
theorem xorN_le3 {k : Nat} {f : Nat → Nat} (h : ∀ a, a < k → f a ≤ 3) : xorN k f ≤ 3 := by
  have := xorN_lt (n := 2) k f (fun a ha => by have := h a ha; omega)
  omega
theorem sumSlot_i {n : Nat} {xs : Nat → Leaf} {i : Nat} (hi : ∀ a, a < n → SlotI ((xs a).slot i)) (hm : ∀ a, a < n → SlotMay ((xs a).slot i)) : SlotI (sumSlot n xs i) ∧ SlotMay (sumSlot n xs i) := by
  have h3 : xorN n (fun a => ((xs a).slot i).state.toNat) ≤ 3 := xorN_le3 fun a ha => by have := (hm a ha).hi; omega
  have h1 := xorN_lt (n := 32) n (fun a => ((xs a).slot i).key) (fun a ha => (hi a ha).key)
  have h2 := xorN_lt (n := 48) n (fun a => ((xs a).slot i).seq) (fun a ha => (hm a ha).seq)
  refine ⟨⟨h1, ?_, ?_⟩, ⟨?_, ?_, h2⟩⟩
  · show I64 ((xorN n fun a => ((xs a).slot i).state.toNat : Nat) : Int)
    unfold I64; omega
  · show xorN n _ < _
    omega
  · show 0 ≤ ((xorN n fun a => ((xs a).slot i).state.toNat : Nat) : Int)
    omega
  · show ((xorN n fun a => ((xs a).slot i).state.toNat : Nat) : Int) ≤ 3
    omega
theorem sumSec_le {S n : Nat} {xs : Nat → Leaf} {i : Nat} (h : ∀ a, a < n → ∀ j, nth ((xs a).sec i) j ≤ 255) (j : Nat) : nth (sumSec S n xs i) j ≤ 255 := by
  by_cases hj : j < S
  · rw [nth_sumSec hj]
    have := xorN_lt (n := 8) n (fun a => nth ((xs a).sec i) j) (fun a ha => by have := h a ha j; omega)
    omega
  · rw [nth_over _ (by rw [sumSec_len]; omega)]; omega
theorem xorRow3 (n : Nat) (xs : Nat → Leaf) (i : Nat) : xorRow 3 n (fun a => numsOf ((xs a).slot i)) = [xorN n fun a => ((xs a).slot i).key, xorN n fun a => ((xs a).slot i).state.toNat, xorN n fun a => ((xs a).slot i).seq] := rfl
/-- What leaves together are. -/
theorem SumRel.own {w wr : World} {S N n : Nat} {T : Int} {gs gb gx : Nat} {gk : Nat → Nat} {xs : Nat → Leaf} (h : SumRel w wr S N n T gs gb gx N N gk xs) (hi : ∀ a, a < n → ∀ i, i < N → SlotI ((xs a).slot i) ∧ SlotMay ((xs a).slot i)) (hb : ∀ a, a < n → ∀ i, i < N → ∀ j, nth ((xs a).sec i) j ≤ 255) :
    OwnLeaf w.heap.size wr S N gs gb gk (sumS S N n xs) :=
  ⟨h.os, h.ob, by have := h.es; omega, by have := h.eb; omega, h.n1, h.sl, fun a ha => by
    obtain ⟨a1, a2, a3, a4, a5, _⟩ := h.se a ha
    exact ⟨a1, a2, by omega, a4, a5⟩, rfl, rfl, fun a ha => sumSlot_i (fun b hb => (hi b hb a ha).1) fun b hb => (hi b hb a ha).2, fun a ha => ⟨sumSec_len _ _ _ _, fun j => sumSec_le (fun b hb' => hb b hb' a ha) j⟩⟩
/-- Behind the answer's own cells. -/
theorem SumRel.fin {w wr : World} {S N n : Nat} {T : Int} {gs gb gx : Nat} {gk : Nat → Nat} {xs : Nat → Leaf} (h : SumRel w wr S N n T gs gb gx N N gk xs) (hi : ∀ a, a < n → ∀ i, i < N → SlotI ((xs a).slot i) ∧ SlotMay ((xs a).slot i)) (hb : ∀ a, a < n → ∀ i, i < N → ∀ j, nth ((xs a).sec i) j ≤ 255) (u v : Value) :
    OwnLeaf w.heap.size ((wr.setCell ⟨w.heap.size + 1, 0, none⟩ u).setCell ⟨w.heap.size + 1, 1, none⟩ v) S N gs gb gk (sumS S N n xs) := by
  have el : ∀ g, w.heap.size + 2 ≤ g → ((wr.setCell ⟨w.heap.size + 1, 0, none⟩ u).setCell ⟨w.heap.size + 1, 1, none⟩ v).heap[g]? = wr.heap[g]? := fun g hg => by rw [setCell_else (by omega), setCell_else (by omega)]
  have ho := h.own hi hb
  refine ⟨ho.os.of_heap (el _ h.es), ho.ob.of_heap (el _ h.eb), ho.es, ho.eb, ho.n1, fun a ha => ?_, fun a ha => ?_, ho.xn, ho.xm, ho.si, ho.xs⟩
  · have := ho.sl a ha
    exact ⟨(cell_of_block (el _ h.es)).trans this.key, (cell_of_block (el _ h.es)).trans this.st, (cell_of_block (el _ h.es)).trans this.seq⟩
  · obtain ⟨a1, a2, a3, a4, a5⟩ := ho.se a ha
    have := (h.se a ha).2.2.1
    exact ⟨(cell_of_block (el _ h.eb)).trans a1, (el _ this).trans a2, a3, a4, a5⟩
theorem th_grown (w : World) (a b c : Obj) : w.grownBy (((w.alloc a).alloc b).alloc c).drew none := grownBy_drew (grownBy_alloc' (grownBy_alloc' (World.grownBy_alloc w _ none) _) _)
theorem th2 (w : World) (a b c : Obj) : (((w.alloc a).alloc b).alloc c).drew.heap[w.heap.size + 1 + 1]? = some c := by
  have h := heap_alloc_new ((w.alloc a).alloc b) c
  have e : ((w.alloc a).alloc b).heap.size = w.heap.size + 1 + 1 := by simp
  rw [e] at h
  exact h
theorem th1 (w : World) (a b c : Obj) : (((w.alloc a).alloc b).alloc c).drew.heap[w.heap.size + 1]? = some b := by
  have h := heap_alloc_new (w.alloc a) b
  have e : (w.alloc a).heap.size = w.heap.size + 1 := by simp
  rw [e] at h
  have := (World.grownBy_alloc ((w.alloc a).alloc b) c none).block _ (lt_of_heap h) (by simp)
  exact this.trans h
theorem th0 (w : World) (a b c : Obj) : (((w.alloc a).alloc b).alloc c).drew.heap[w.heap.size]? = some a := by
  have h := heap_alloc_new w a
  have h1 := ((World.grownBy_alloc (w.alloc a) b none).block _ (lt_of_heap h) (by simp)).trans h
  have := (World.grownBy_alloc ((w.alloc a).alloc b) c none).block _ (lt_of_heap h1) (by simp)
  exact this.trans h1
theorem sum_start {w wo V : World} {S N n : Nat} {T : Int} {gs gb gx : Nat} {L : List Value} (xs : Nat → Leaf) (h1 : w.grownBy wo none) (h2 : wo.heap[w.heap.size]? = some (layL S N T)) (h3 : wo.heap[w.heap.size + 1]? = some (leafL nilS nilS)) (hL : L.length = N * 3) (hg : wo.grownBy V none)
    (es : V.heap[gs]? = some (.cells L.toArray 53)) (eb : V.heap[gb]? = some (.cells (nils N).toArray 49)) (ex : V.heap[gx]? = some (leafL (sl0 gs N) (sl0 gb N)))
    (l1 : wo.heap.size ≤ gs) (l2 : wo.heap.size ≤ gb) (l3 : wo.heap.size ≤ gx) (n1 : gs ≠ gb) (n2 : gs ≠ gx) (n3 : gb ≠ gx) : SumRel w V S N n T gs gb gx 0 0 (fun _ => 0) xs := by
  have hw := lt_of_heap h3
  exact ⟨grownBy_trans h1 hg, (hg.block _ (lt_of_heap h2) (by simp)).trans h2, (hg.block _ hw (by simp)).trans h3, ex, ⟨L, es, hL⟩, ⟨_, eb, by simp [nils]⟩, by omega, by omega, by omega, n1, n2, n3, fun a ha => by omega, fun a ha => by omega⟩
end Sp
end Go.Proofs.Ytjokedggmhiklaa
