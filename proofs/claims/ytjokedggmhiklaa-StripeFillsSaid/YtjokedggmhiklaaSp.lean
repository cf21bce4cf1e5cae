/- Layer 6 (stripe): leaves together, in whichever order; leaves of one's own that stand while rows grow. -/
import Derived.Test.YtjokedggmhiklaaSo
namespace Go.Proofs.Ytjokedggmhiklaa
open Go.RowKit Go.Maps
namespace Sp
theorem xorN_add : ∀ (b a : Nat) (f : Nat → Nat), xorN (a + b) f = xorN a f ^^^ xorN b fun i => f (a + i)
  | 0, a, f => by simp [xorN]
  | b + 1, a, f => by rw [← Nat.add_assoc, xorN, xorN_add b a f, xorN, Nat.xor_assoc]
theorem xorN_turn {n t : Nat} (h : t < n) (f : Nat → Nat) : xorN n (fun a => f ((a + t) % n)) = xorN n f := by
  have e1 := xorN_add t (n - t) fun a => f ((a + t) % n)
  have e2 := xorN_add (n - t) t f
  rw [show n - t + t = n by omega] at e1
  rw [show t + (n - t) = n by omega] at e2
  rw [e1, e2, Nat.xor_comm]
  congr 1
  · exact xorN_congr t fun a ha => by rw [show n - t + a + t = a + n by omega, Nat.add_mod_right, Nat.mod_eq_of_lt (by omega)]
  · exact xorN_congr (n - t) fun a ha => by rw [Nat.mod_eq_of_lt (by omega), Nat.add_comm]
theorem xorN_twice (n : Nat) (f : Nat → Nat) (h : f n = f (n + 1)) : xorN (n + 2) f = xorN n f := by
  rw [xorN, xorN, h, Nat.xor_assoc, Nat.xor_self, Nat.xor_zero]
/-- Leaves together are the same if each of their numbers is. -/
theorem sum_eq {S N n n' : Nat} {X X' : Nat → Leaf} (hS : 1 ≤ S) (h : ∀ f : Leaf → Nat, xorN n (fun a => f (X a)) = xorN n' fun a => f (X' a)) : LeafEq (sumS S N n X) (sumS S N n' X') :=
  ⟨rfl, rfl, fun i _ => by
    show sumSlot n X i = sumSlot n' X' i
    unfold sumSlot
    rw [h fun x => (x.slot i).key, h fun x => (x.slot i).state.toNat, h fun x => (x.slot i).seq], fun i _ => by
    refine ⟨?_, by show 1 ≤ (sumSec S n X i).length; rw [sumSec_len]; exact hS⟩
    show sumSec S n X i = sumSec S n' X' i
    unfold sumSec
    refine List.map_congr_left fun j _ => h fun x => nth (x.sec i) j⟩
theorem OwnLeaf.leafT {B : Nat} {w : World} {S N gs gb : Nat} {gk : Nat → Nat} {x : Leaf} (h : OwnLeaf B w S N gs gb gk x) (hS : S ≤ 1000) (hN : N ≤ 1000) : LeafM w (KT w B) (sl0 gs N) (sl0 gb N) x := by
  have k1 : KT w B gs := by
    obtain ⟨L, h1, _⟩ := h.os
    exact ⟨h.es, _, _, h1, by decide⟩
  have k2 : KT w B gb := by
    obtain ⟨L, h1, _⟩ := h.ob
    exact ⟨h.eb, _, _, h1, by decide⟩
  refine ⟨⟨_, N, by rw [h.xn], by rw [h.xn]; exact Nat.le_refl _, by omega, .inr ⟨gs, 0, rfl, k1, fun k hk => by rw [Nat.zero_add]; exact h.sl k (by rw [← h.xn]; exact hk)⟩⟩, ⟨_, N, by rw [h.xm], by rw [h.xm]; exact Nat.le_refl _, by omega, .inr ⟨gb, 0, rfl, k2, fun k hk => ?_⟩⟩, fun i hi => (h.si i (by rw [← h.xn]; exact hi)).1⟩
  have hk' : k < N := by rw [← h.xm]; exact hk
  obtain ⟨a1, a2, a3, a4, a5⟩ := h.se k hk'
  obtain ⟨b1, b2⟩ := h.xs k hk'
  refine ⟨_, by rw [Nat.zero_add, Nat.mul_one]; exact a1, b2, some ⟨gk k, 0, none⟩, S, by rw [b1], by rw [b1]; exact Nat.le_refl _, by omega, .inr ⟨gk k, 0, rfl, ⟨a3, _, _, a2, by decide⟩, fun j hj => cell_at a2 ?_⟩⟩
  rw [Nat.zero_add, Nat.mul_one, List.getElem?_toArray]
  exact vals8_at hj
theorem own_not_small {w : World} {B e sz n : Nat} {v : Value} {cs : List Value} (h : w.ownsRow B e sz v n cs) {g : Nat} {L : Array Value} {t : TypeId} (hk : w.heap[g]? = some (.cells L t (0, 0))) (hs : L.size < n * sz) : v.ownBlock ≠ some g := by
  intro he
  rcases h.2 with ⟨rfl, _⟩ | ⟨g', cap, cur, rfl, _, hh, hle, _, hcs, _⟩
  · simp [Value.ownBlock] at he
  · simp [Value.ownBlock] at he
    subst he
    rw [hh] at hk
    simp only [Option.some.injEq, Obj.cells.injEq] at hk
    have h1 : cur.size = L.size := by rw [hk.1]
    have h2 := Nat.mul_le_mul_right sz hle
    omega
def SumYes (w : World) (S N n : Nat) (xs : Nat → Leaf) (e : Ending) (w' : World) : Prop :=
  ∃ gs gb gk, e = .returned (.tuple #[.agg #[sl0 gs N, sl0 gb N], num 0]) ∧ w.grownBy w' none ∧ OwnLeaf w.heap.size w' S N gs gb gk (sumS S N n xs)
/-- A sum that may be, answered. -/
theorem sum_yes {w : World} {K : Nat → Prop} {v : Value} {n : Nat} {xs : Nat → Leaf} (h : LeavesM w K v n xs) (hn : n ≤ 2932031007402) (S N : Nat) (T : Int) (hg : Good S N n xs) :
    Calls Try.prog 12 #[layV S N T, v] w (SumYes w S N n xs) := by
  refine (sum_ok h hn S N T).mono ?_
  rintro e w' (⟨_, gs, gb, gk, h1, h2, h3⟩ | ⟨h1, _⟩)
  · exact ⟨gs, gb, gk, h1, h2, h3⟩
  · exact absurd hg h1
/-- Five cells that stand. -/
abbrev Five (w : World) (b : Nat) (x0 x1 x2 : Value) (g o : Nat) (y0 y1 : Value) : Prop :=
  w.cell? ⟨b, 0, none⟩ = some x0 ∧ w.cell? ⟨b, 1, none⟩ = some x1 ∧ w.cell? ⟨b, 2, none⟩ = some x2 ∧ w.cell? ⟨g, o, none⟩ = some y0 ∧ w.cell? ⟨g, o + 1, none⟩ = some y1
theorem five_keep {w w' : World} {b : Nat} {x0 x1 x2 : Value} {g o : Nat} {y0 y1 : Value} (h : Five w b x0 x1 x2 g o y0 y1) (hg : w.grownBy w' none) : Five w' b x0 x1 x2 g o y0 y1 := by
  have k := Kept.of_grown (K := All) hg
  exact ⟨k.cell trivial h.1, k.cell trivial h.2.1, k.cell trivial h.2.2.1, k.cell trivial h.2.2.2.1, k.cell trivial h.2.2.2.2⟩
theorem five_set {w : World} {b : Nat} {x0 x1 x2 : Value} {g o : Nat} {y0 y1 : Value} (h : Five w b x0 x1 x2 g o y0 y1) {g' o' : Nat} {v : Value} (hn : b ≠ g' ∧ g ≠ g') : Five (w.setCell ⟨g', o', none⟩ v) b x0 x1 x2 g o y0 y1 :=
  ⟨cell_else h.1 hn.1, cell_else h.2.1 hn.1, cell_else h.2.2.1 hn.1, cell_else h.2.2.2.1 hn.2, cell_else h.2.2.2.2 hn.2⟩
/-- What stands when three sums are made. -/
structure Pre (w0 w : World) (gA gB : Nat) (s1 b1 s2 b2 s3 b3 : Value) (x1 x2 x3 : Leaf) : Prop where
  grown : w0.grownBy w none
  bA : w.heap[gA]? = some (leafL s1 b1)
  bB : w.heap[gB]? = some (leafL s2 b2)
  l1 : ∃ B, LeafM w (KT w B) s1 b1 x1
  l2 : ∃ B, LeafM w (KT w B) s2 b2 x2
  l3 : ∃ B, LeafM w (KT w B) s3 b3 x3
structure Fin3 (w0 w : World) (gA gB gC : Nat) (s1 b1 s2 b2 s3 b3 : Value) (x1 x2 x3 : Leaf) : Prop where
  pre : Pre w0 w gA gB s1 b1 s2 b2 s3 b3 x1 x2 x3
  bC : w.heap[gC]? = some (leafL s3 b3)
theorem Pre.more {w0 w w' : World} {gA gB : Nat} {s1 b1 s2 b2 s3 b3 : Value} {x1 x2 x3 : Leaf} (h : Pre w0 w gA gB s1 b1 s2 b2 s3 b3 x1 x2 x3) (hg : w.grownBy w' none) : Pre w0 w' gA gB s1 b1 s2 b2 s3 b3 x1 x2 x3 := by
  obtain ⟨B1, l1⟩ := h.l1
  obtain ⟨B2, l2⟩ := h.l2
  obtain ⟨B3, l3⟩ := h.l3
  exact ⟨grownBy_trans h.grown hg, (hg.block _ (lt_of_heap h.bA) (by simp)).trans h.bA, (hg.block _ (lt_of_heap h.bB) (by simp)).trans h.bB, ⟨B1, l1.growN hg⟩, ⟨B2, l2.growN hg⟩, ⟨B3, l3.growN hg⟩⟩
theorem LeafM.box {w : World} {B gz o : Nat} {sv bv v a b : Value} {x : Leaf} (h : LeafM w (KT w B) sv bv x) (hz : w.heap[gz]? = some (leafL a b)) : LeafM (w.setCell ⟨gz, o, none⟩ v) (KT (w.setCell ⟨gz, o, none⟩ v) B) sv bv x := by
  have hne : ∀ g, KT w B g → g ≠ gz := fun g hk e => by
    obtain ⟨_, L, t, h2, h3⟩ := hk
    rw [e, hz] at h2
    simp only [Option.some.injEq, Obj.cells.injEq] at h2
    exact h3 h2.2.1.symm
  exact (h.kept fun g hk _ => setCell_else (hne g hk) v).sub fun g hk => by
    obtain ⟨h1, L, t, h2, h3⟩ := id hk
    exact ⟨h1, L, t, (setCell_else (hne g hk) v).trans h2, h3⟩
theorem Pre.set {w0 w : World} {gA gB gz o : Nat} {s1 b1 s2 b2 s3 b3 v a b : Value} {x1 x2 x3 : Leaf} (h : Pre w0 w gA gB s1 b1 s2 b2 s3 b3 x1 x2 x3) (hz : w.heap[gz]? = some (leafL a b)) (n0 : w0.heap.size ≤ gz) (n1 : gA ≠ gz) (n2 : gB ≠ gz) : Pre w0 (w.setCell ⟨gz, o, none⟩ v) gA gB s1 b1 s2 b2 s3 b3 x1 x2 x3 := by
  obtain ⟨B1, l1⟩ := h.l1
  obtain ⟨B2, l2⟩ := h.l2
  obtain ⟨B3, l3⟩ := h.l3
  exact ⟨grownBy_set h.grown n0 _, (setCell_else n1 _).trans h.bA, (setCell_else n2 _).trans h.bB, ⟨B1, l1.box hz⟩, ⟨B2, l2.box hz⟩, ⟨B3, l3.box hz⟩⟩
theorem Pre.fin_set {w0 w : World} {gA gB gz : Nat} {s1 b1 s2 b2 s3 b3 : Value} {x1 x2 x3 : Leaf} (h : Pre w0 w gA gB s1 b1 s2 b2 s3 b3 x1 x2 x3) (hz : w.heap[gz]? = some (leafL nilS nilS)) (n0 : w0.heap.size ≤ gz) (n1 : gA ≠ gz) (n2 : gB ≠ gz) : Fin3 w0 ((w.setCell ⟨gz, 0, none⟩ s3).setCell ⟨gz, 1, none⟩ b3) gA gB gz s1 b1 s2 b2 s3 b3 x1 x2 x3 := by
  have z1 := box_put (o := 0) (v := s3) hz (.inl rfl)
  have z2 := box_put (o := 1) (v := b3) z1 (.inr rfl)
  exact ⟨(h.set hz n0 n1 n2).set z1 n0 n1 n2, z2⟩
theorem Pre.fin_alloc {w0 w : World} {gA gB : Nat} {s1 b1 s2 b2 s3 b3 : Value} {x1 x2 x3 : Leaf} (h : Pre w0 w gA gB s1 b1 s2 b2 s3 b3 x1 x2 x3) : Fin3 w0 (w.alloc (leafL s3 b3)) gA gB w.heap.size s1 b1 s2 b2 s3 b3 x1 x2 x3 :=
  ⟨h.more (World.grownBy_alloc w _ none), heap_alloc_new w _⟩
theorem Fin3.drew {w0 w : World} {gA gB gC : Nat} {s1 b1 s2 b2 s3 b3 : Value} {x1 x2 x3 : Leaf} (h : Fin3 w0 w gA gB gC s1 b1 s2 b2 s3 b3 x1 x2 x3) : Fin3 w0 w.drew gA gB gC s1 b1 s2 b2 s3 b3 x1 x2 x3 :=
  ⟨h.pre.more (grownBy_drew (grownBy_refl w none)), h.bC⟩
/-- What stands when a sum is made. -/
structure Fin1 (w0 w : World) (gC : Nat) (s3 b3 : Value) (x3 : Leaf) : Prop where
  grown : w0.grownBy w none
  bC : w.heap[gC]? = some (leafL s3 b3)
  l3 : ∃ B, LeafM w (KT w B) s3 b3 x3
theorem fin1_set {w0 w : World} {gz : Nat} {s3 b3 : Value} {x3 : Leaf} {B : Nat} (h : w0.grownBy w none) (hz : w.heap[gz]? = some (leafL nilS nilS)) (n0 : w0.heap.size ≤ gz) (hl : LeafM w (KT w B) s3 b3 x3) : Fin1 w0 ((w.setCell ⟨gz, 0, none⟩ s3).setCell ⟨gz, 1, none⟩ b3) gz s3 b3 x3 := by
  have z1 := box_put (o := 0) (v := s3) hz (.inl rfl)
  have z2 := box_put (o := 1) (v := b3) z1 (.inr rfl)
  exact ⟨grownBy_set (grownBy_set h n0 _) n0 _, z2, B, (hl.box hz).box z1⟩
theorem fin1_alloc {w0 w : World} {s3 b3 : Value} {x3 : Leaf} {B : Nat} (h : w0.grownBy w none) (hl : LeafM w (KT w B) s3 b3 x3) : Fin1 w0 (w.alloc (leafL s3 b3)) w.heap.size s3 b3 x3 :=
  ⟨grownBy_alloc' h _, heap_alloc_new w _, B, hl.growN (World.grownBy_alloc w _ none)⟩
/-- A sum, with its leaf. -/
def SumLeaf (w : World) (S N n : Nat) (xs : Nat → Leaf) (e : Ending) (w' : World) : Prop :=
  ∃ gs gb, e = .returned (.tuple #[.agg #[sl0 gs N, sl0 gb N], num 0]) ∧ w.grownBy w' none ∧ LeafM w' (KT w' w.heap.size) (sl0 gs N) (sl0 gb N) (sumS S N n xs)
theorem sum_leaf {w : World} {K : Nat → Prop} {v : Value} {n : Nat} {xs : Nat → Leaf} (h : LeavesM w K v n xs) (hn : n ≤ 2932031007402) (S N : Nat) (hS : S ≤ 1000) (hN : N ≤ 1000) (T : Int) (hg : Good S N n xs) :
    Calls Try.prog 12 #[layV S N T, v] w (SumLeaf w S N n xs) := by
  refine (sum_yes h hn S N T hg).mono ?_
  rintro e w' ⟨gs, gb, gk, h1, h2, h3⟩
  exact ⟨gs, gb, h1, h2, h3.leafT hS hN⟩
/-- A leaf alone is itself. -/
theorem sum_one {S N : Nat} {X : Nat → Leaf} (hS : 1 ≤ S) (h : May S N (X 0)) (hw : ∀ i, i < (X 0).m → (X 0).sec i ≠ []) : LeafEq (sumS S N 1 X) (X 0) :=
  ⟨by have := h.n; show N = (X 0).n; omega, by have := h.m; show N = (X 0).m; omega, fun i hi => by
    have hi' : i < (X 0).n := by have := h.n; have e : (sumS S N 1 X).n = N := rfl; omega
    have hm := h.slot i hi'
    have h1 : xorN 1 (fun a => ((X a).slot i).key) = ((X 0).slot i).key := by simp [xorN]
    have h2 : xorN 1 (fun a => ((X a).slot i).state.toNat) = ((X 0).slot i).state.toNat := by simp [xorN]
    have h3 : xorN 1 (fun a => ((X a).slot i).seq) = ((X 0).slot i).seq := by simp [xorN]
    have h4 : ((((X 0).slot i).state.toNat : Nat) : Int) = ((X 0).slot i).state := by have := hm.lo; omega
    show sumSlot 1 X i = (X 0).slot i
    unfold sumSlot
    rw [h1, h2, h3, h4], fun i hi => by
    have hi' : i < (X 0).m := by have := h.m; have e : (sumS S N 1 X).m = N := rfl; omega
    have hl : ((X 0).sec i).length = S := by
      rcases h.sec i hi' with e | e
      · exact absurd e (hw i hi')
      · omega
    refine ⟨?_, by show 1 ≤ (sumSec S 1 X i).length; rw [sumSec_len]; exact hS⟩
    show sumSec S 1 X i = (X 0).sec i
    apply List.ext_getElem (by rw [sumSec_len, hl])
    intro j j1 j2
    simp only [sumSec, List.getElem_map, List.getElem_range]
    simp [xorN, nth, j2]⟩
/-- What holds behind small and right: the layout's box, the leaves. -/
structure Start (w w6 : World) (S N n : Nat) (lv : Value) (X : Nat → Leaf) : Prop where
  grown : w.grownBy w6 none
  box : w6.heap[w.heap.size]? = some (layL S N 1)
  leaves : LeavesM w6 (Lo All w6.heap.size) lv n X
theorem right_good {S N : Int} {n : Nat} {raw : Nat → Leaf} (hi : ∀ a, a < n → ∀ k, k < (raw a).n → SlotI ((raw a).slot k)) : Good (smallSec S) (smallSl N) (min n 12) (rightS (smallSec S) (smallSl N) raw) :=
  ⟨small_lay S N, fun a ha => right_may (by omega) (hi a (by omega))⟩
theorem leaves_si {w : World} {K : Nat → Prop} {v : Value} {n : Nat} {xs : Nat → Leaf} (h : LeavesM w K v n xs) : ∀ a, a < n → ∀ k, k < (xs a).n → SlotI ((xs a).slot k) := fun a ha k hk => by
  obtain ⟨ao, cap, rfl, _⟩ := id h
  obtain ⟨_, _, _, _, _, _, hat⟩ := h.at ha
  obtain ⟨_, _, _, _, hl⟩ := hat a ha
  exact hl.si k hk
end Sp
end Go.Proofs.Ytjokedggmhiklaa
