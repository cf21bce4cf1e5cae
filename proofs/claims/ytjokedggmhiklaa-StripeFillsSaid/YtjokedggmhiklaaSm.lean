/- Layer 6 (stripe): right. -/
import Derived.Test.YtjokedggmhiklaaSl
namespace Go.Proofs.Ytjokedggmhiklaa
open Go.RowKit Go.Maps
namespace Sp
/-- What holds while a leaf is made. -/
structure LeafRel (W0 wr : World) (gx k : Nat) (x : Leaf) (xs xb : Value) (u : Nat → Value) : Prop where
  grown : W0.grownBy wr none
  box : wr.heap[gx]? = some (leafL xs xb)
  ge : W0.heap.size ≤ gx
  os : wr.ownsRow W0.heap.size 53 3 xs k (flat k (slotsE x.slot))
  ob : wr.ownsRow W0.heap.size 49 1 xb k (flat k (oneE u))
  se : ∀ a, a < k → BytesM wr (K5 wr W0.heap.size) (u a) (x.sec a)
theorem LeafRel.more {W0 wr w' : World} {gx k : Nat} {x : Leaf} {xs xb : Value} {u : Nat → Value} (h : LeafRel W0 wr gx k x xs xb u) (hg : wr.grownBy w' none) : LeafRel W0 w' gx k x xs xb u :=
  ⟨grownBy_trans h.grown hg, (hg.block _ (lt_of_heap h.box) (by simp)).trans h.box, h.ge, h.os.kept hg (by cases e : xs.ownBlock <;> simp), h.ob.kept hg (by cases e : xb.ownBlock <;> simp), fun a ha => ((h.se a ha).more hg).sub fun _ hk => hk.more hg (by simp)⟩
theorem box_put {w : World} {gx o : Nat} {a b v : Value} (h : w.heap[gx]? = some (leafL a b)) (ho : o = 0 ∨ o = 1) : (w.setCell ⟨gx, o, none⟩ v).heap[gx]? = some (leafL (if o = 0 then v else a) (if o = 0 then b else v)) := by
  have := setCell_row (L := [a, b]) (i := o) h v
  rw [this]
  rcases ho with rfl | rfl <;> rfl
/-- The slots' row has grown, and lies in the box. -/
theorem LeafRel.slot {W0 wr w1 : World} {gx k : Nat} {x : Leaf} {xs xb v' : Value} {u : Nat → Value} (h : LeafRel W0 wr gx k x xs xb u) (hg : wr.grownBy w1 xs.ownBlock) (ho : w1.ownsRow W0.heap.size 53 3 v' (k + 1) (flat k (slotsE x.slot) ++ slotsE x.slot k)) :
    let w2 := w1.setCell ⟨gx, 0, none⟩ v'
    W0.grownBy w2 none ∧ w2.heap[gx]? = some (leafL v' xb) ∧ w2.ownsRow W0.heap.size 53 3 v' (k + 1) (flat (k + 1) (slotsE x.slot)) ∧ w2.ownsRow W0.heap.size 49 1 xb k (flat k (oneE u)) ∧ ∀ a, a < k → BytesM w2 (K5 w2 W0.heap.size) (u a) (x.sec a) := by
  intro w2
  have hbx1 : w1.heap[gx]? = some (leafL xs xb) := (hg.block gx (lt_of_heap h.box) (fun e => own_not_type h.os h.box (by decide) e.symm)).trans h.box
  have hbx2 := box_put (o := 0) (v := v') hbx1 (.inl rfl)
  have hn1 := own_not_type ho hbx1 (by decide)
  have hob1 : w1.ownsRow W0.heap.size 49 1 xb k (flat k (oneE u)) := h.ob.kept hg (by
    by_cases e : xb.ownBlock = none
    · exact .inl e
    · right
      intro e2
      obtain ⟨g, hgb⟩ := Option.ne_none_iff_exists'.1 e
      rcases h.ob.2 with ⟨rfl, _⟩ | ⟨g', cap, cur, rfl, _, hh, _⟩
      · simp [Value.ownBlock] at hgb
      · exact own_not_type h.os hh (by decide) (by rw [← e2]; rfl))
  have hn2 := own_not_type hob1 hbx1 (by decide)
  have g01 : W0.grownBy w1 none := own_grown h.os h.grown (Nat.le_refl _) hg
  have hset : w1.grownBy w2 (some gx) := ⟨rfl, rfl, rfl, by simp [w2, World.setCell], fun j _ hj => setCell_else (fun e => hj (by rw [e])) _⟩
  refine ⟨grownBy_set g01 h.ge _, hbx2, ?_, hob1.kept hset (.inr hn2), fun a ha => ?_⟩
  · rw [flat_succ]; exact ho.kept hset (.inr hn1)
  · have e1 : ∀ g, K5 wr W0.heap.size g → w2.heap[g]? = wr.heap[g]? := fun g hk => by
      obtain ⟨h1, L, h2⟩ := hk
      have hne : g ≠ gx := fun e => by
        rw [e, h.box] at h2
        simp only [Option.some.injEq, Obj.cells.injEq] at h2
        exact absurd h2.2.1 (by decide)
      rw [hset.block g (Nat.lt_of_lt_of_le (lt_of_heap h2) hg.size) (fun e => hne (Option.some.inj e)), hg.block g (lt_of_heap h2) (fun e => own_not_type h.os h2 (by decide) e.symm)]
    refine ((h.se a ha).kept fun g hk _ => e1 g hk).sub fun g hk => ?_
    obtain ⟨h1, L, h2⟩ := id hk
    exact ⟨h1, L, (e1 g hk).trans h2⟩
/-- The sectors' row has grown, and lies in the box. -/
theorem LeafRel.sec {W0 wr w1 : World} {gx k : Nat} {x : Leaf} {xs xb v' b : Value} {u : Nat → Value} (h1 : W0.grownBy wr none) (h2 : wr.heap[gx]? = some (leafL xs xb)) (h3 : W0.heap.size ≤ gx) (h4 : wr.ownsRow W0.heap.size 53 3 xs (k + 1) (flat (k + 1) (slotsE x.slot))) (h5 : wr.ownsRow W0.heap.size 49 1 xb k (flat k (oneE u)))
    (h6 : ∀ a, a < k → BytesM wr (K5 wr W0.heap.size) (u a) (x.sec a)) (h7 : BytesM wr (K5 wr W0.heap.size) b (x.sec k)) (hg : wr.grownBy w1 xb.ownBlock) (ho : w1.ownsRow W0.heap.size 49 1 v' (k + 1) (flat k (oneE u) ++ [b])) :
    LeafRel W0 (w1.setCell ⟨gx, 1, none⟩ v') gx (k + 1) x xs v' (fun a => if a = k then b else u a) := by
  have hbx1 : w1.heap[gx]? = some (leafL xs xb) := (hg.block gx (lt_of_heap h2) (fun e => own_not_type h5 h2 (by decide) e.symm)).trans h2
  have hbx2 := box_put (o := 1) (v := v') hbx1 (.inr rfl)
  have hn1 := own_not_type ho hbx1 (by decide)
  have hos1 : w1.ownsRow W0.heap.size 53 3 xs (k + 1) (flat (k + 1) (slotsE x.slot)) := h4.kept hg (by
    right
    intro e2
    rcases h4.2 with ⟨_, h0⟩ | ⟨g', cap, cur, rfl, _, hh, _⟩
    · omega
    · exact own_not_type h5 hh (by decide) (by rw [← e2]; rfl))
  have hn2 := own_not_type hos1 hbx1 (by decide)
  have g01 : W0.grownBy w1 none := own_grown h5 h1 (Nat.le_refl _) hg
  have hset : w1.grownBy (w1.setCell ⟨gx, 1, none⟩ v') (some gx) := ⟨rfl, rfl, rfl, by simp [World.setCell], fun j _ hj => setCell_else (fun e => hj (by rw [e])) _⟩
  have e1 : ∀ g, K5 wr W0.heap.size g → (w1.setCell ⟨gx, 1, none⟩ v').heap[g]? = wr.heap[g]? := fun g hk => by
    obtain ⟨a1, L, a2⟩ := hk
    have hne : g ≠ gx := fun e => by
      rw [e, h2] at a2
      simp only [Option.some.injEq, Obj.cells.injEq] at a2
      exact absurd a2.2.1 (by decide)
    rw [hset.block g (Nat.lt_of_lt_of_le (lt_of_heap a2) hg.size) (fun e => hne (Option.some.inj e)), hg.block g (lt_of_heap a2) (fun e => own_not_type h5 a2 (by decide) e.symm)]
  have tr : ∀ {v : Value} {c : List Nat}, BytesM wr (K5 wr W0.heap.size) v c → BytesM (w1.setCell ⟨gx, 1, none⟩ v') (K5 (w1.setCell ⟨gx, 1, none⟩ v') W0.heap.size) v c := fun hb =>
    (hb.kept fun g hk _ => e1 g hk).sub fun g hk => by
      obtain ⟨a1, L, a2⟩ := id hk
      exact ⟨a1, L, (e1 g hk).trans a2⟩
  refine ⟨grownBy_set g01 h3 _, hbx2, h3, hos1.kept hset (.inr hn2), ?_, fun a ha => ?_⟩
  · have e : flat (k + 1) (oneE fun a => if a = k then b else u a) = flat k (oneE u) ++ [b] := by
      rw [flat_succ, flat_congr k (E' := oneE u) fun a ha => by simp [oneE, show a ≠ k by omega]]
      simp [oneE]
    rw [e]
    exact ho.kept hset (.inr hn1)
  · by_cases e : a = k
    · subst e
      simp only [if_pos]
      exact tr h7
    · simp only [if_neg e]
      exact tr (h6 a (by omega))
theorem LeafRel.slot' {W0 wr w1 : World} {gx k : Nat} {x : Leaf} {xs xb v' : Value} {u : Nat → Value} (h : LeafRel W0 wr gx k x xs xb u) (hg : wr.grownBy w1 xs.ownBlock) (ho : w1.ownsRow W0.heap.size 53 3 v' (k + 1) (flat k (slotsE x.slot) ++ slotsE x.slot k)) :
    ∃ ga ca, v' = .slice (some ⟨ga, 0, none⟩) (k + 1) ca ∧ w1.cell? ⟨gx, 0, none⟩ = some xs ∧ w1.frozen? ⟨gx, 0, none⟩ = false ∧ Hid (W0.grownBy (w1.setCell ⟨gx, 0, none⟩ v') none ∧ (w1.setCell ⟨gx, 0, none⟩ v').heap[gx]? = some (leafL v' xb) ∧ (w1.setCell ⟨gx, 0, none⟩ v').ownsRow W0.heap.size 53 3 v' (k + 1) (flat (k + 1) (slotsE x.slot)) ∧ (w1.setCell ⟨gx, 0, none⟩ v').ownsRow W0.heap.size 49 1 xb k (flat k (oneE u)) ∧ (∀ a, a < k → BytesM (w1.setCell ⟨gx, 0, none⟩ v') (K5 (w1.setCell ⟨gx, 0, none⟩ v') W0.heap.size) (u a) (x.sec a)) ∧ (∀ g, g ≠ gx → xs.ownBlock ≠ some g → g < wr.heap.size → (w1.setCell ⟨gx, 0, none⟩ v').heap[g]? = wr.heap[g]?)) := by
  have hbx1 : w1.heap[gx]? = some (leafL xs xb) := (hg.block gx (lt_of_heap h.box) (fun e => own_not_type h.os h.box (by decide) e.symm)).trans h.box
  obtain ⟨ga, ca, cu, rfl, _, _, _, _, _⟩ := own_parts ho (by omega)
  have := h.slot hg ho
  exact ⟨ga, ca, rfl, cell_at hbx1 rfl, free_at hbx1, this.1, this.2.1, this.2.2.1, this.2.2.2.1, this.2.2.2.2, fun g h1 h2 h3 => by rw [setCell_else h1]; exact hg.block g h3 (fun e => h2 e.symm)⟩
theorem LeafRel.sec' {W0 wr w1 : World} {gx k : Nat} {x : Leaf} {xs xb v' b : Value} {u : Nat → Value} (h1 : W0.grownBy wr none) (h2 : wr.heap[gx]? = some (leafL xs xb)) (h3 : W0.heap.size ≤ gx) (h4 : wr.ownsRow W0.heap.size 53 3 xs (k + 1) (flat (k + 1) (slotsE x.slot))) (h5 : wr.ownsRow W0.heap.size 49 1 xb k (flat k (oneE u)))
    (h6 : ∀ a, a < k → BytesM wr (K5 wr W0.heap.size) (u a) (x.sec a)) (h7 : BytesM wr (K5 wr W0.heap.size) b (x.sec k)) (hg : wr.grownBy w1 xb.ownBlock) (ho : w1.ownsRow W0.heap.size 49 1 v' (k + 1) (flat k (oneE u) ++ [b])) :
    ∃ ga ca, v' = .slice (some ⟨ga, 0, none⟩) (k + 1) ca ∧ w1.cell? ⟨gx, 1, none⟩ = some xb ∧ w1.frozen? ⟨gx, 1, none⟩ = false ∧ Hid (LeafRel W0 (w1.setCell ⟨gx, 1, none⟩ v') gx (k + 1) x xs v' (fun a => if a = k then b else u a)) := by
  have hbx1 : w1.heap[gx]? = some (leafL xs xb) := (hg.block gx (lt_of_heap h2) (fun e => own_not_type h5 h2 (by decide) e.symm)).trans h2
  obtain ⟨ga, ca, cu, rfl, _, _, _, _, _⟩ := own_parts ho (by omega)
  exact ⟨ga, ca, rfl, cell_at hbx1 rfl, free_at hbx1, LeafRel.sec h1 h2 h3 h4 h5 h6 h7 hg ho⟩
theorem own_more {w w' : World} {B e sz n : Nat} {v : Value} {cs : List Value} (h : w.ownsRow B e sz v n cs) (hg : w.grownBy w' none) : w'.ownsRow B e sz v n cs := h.kept hg (by cases e : v.ownBlock <;> simp)
theorem K5_bytes {w w' : World} {B : Nat} {v : Value} {c : List Nat} (h : BytesM w (K5 w B) v c) (e : ∀ g, K5 w B g → w'.heap[g]? = w.heap[g]?) : BytesM w' (K5 w' B) v c :=
  (h.kept fun g hk _ => e g hk).sub fun g hk => by
    obtain ⟨a1, L, a2⟩ := id hk
    exact ⟨a1, L, (e g hk).trans a2⟩
theorem BytesM.k5more {w w' : World} {B : Nat} {v : Value} {c : List Nat} (h : BytesM w (K5 w B) v c) (hg : w.grownBy w' none) : BytesM w' (K5 w' B) v c :=
  K5_bytes h fun g hk => by
    obtain ⟨_, L, a2⟩ := hk
    exact hg.block g (lt_of_heap a2) (by simp)
/-- A leaf that is made. -/
theorem LeafRel.done {W0 wr : World} {gx k B : Nat} {x : Leaf} {xs xb : Value} {u : Nat → Value} (h : LeafRel W0 wr gx k x xs xb u) (hn : x.n = k) (hm : x.m = k) (hi : ∀ i, i < k → SlotI (x.slot i)) (hB : B ≤ W0.heap.size) : LeafM wr (KT wr B) xs xb x := by
  refine ⟨?_, ?_, fun i hi' => hi i (by omega)⟩
  · rw [hn]
    exact slots_of_own h.os fun g cur h1 h2 => ⟨by omega, cur, _, h2, by decide⟩
  · rw [hm]
    exact secs_of_own h.ob (fun g cur h1 h2 => ⟨by omega, cur, _, h2, by decide⟩) fun a ha => (h.se a ha).sub fun g ⟨h1, L, h2⟩ => ⟨by omega, L, _, h2, by decide⟩
theorem cell_three (w : World) (a b c : Value) (t : TypeId) : ∀ j u, [a, b, c][j]? = some u → (w.alloc (.cells #[a, b, c] t)).cell? ((⟨w.heap.size, 0, none⟩ : Addr).add j) = some u := fun j u hj => by
  rw [addr_add', Nat.zero_add]
  exact cell_at (heap_alloc_new w _) (by simpa using hj)
theorem cell_one' (w : World) (a : Value) (t : TypeId) : ∀ j u, [a][j]? = some u → (w.alloc (.cells #[a] t)).cell? ((⟨w.heap.size, 0, none⟩ : Addr).add j) = some u := fun j u hj => by
  rw [addr_add', Nat.zero_add]
  exact cell_at (heap_alloc_new w _) (by simpa using hj)
theorem cell_two' (w : World) (a b : Value) (t : TypeId) : ∀ j u, [a, b][j]? = some u → (w.alloc (.cells #[a, b] t)).cell? ((⟨w.heap.size, 0, none⟩ : Addr).add j) = some u := fun j u hj => by
  rw [addr_add', Nat.zero_add]
  exact cell_at (heap_alloc_new w _) (by simpa using hj)
end Sp
end Go.Proofs.Ytjokedggmhiklaa
