/- Layer 10 (lru): a region in the text's order, in a round: shown as outside one; an append and a store of an entry. -/
import Derived.Test.YtlgomaohfhgkpaaLu
import Derived.OwnWalkIn
namespace Go.Proofs.Ytlgomaohfhgkpaa
open Go.RowKit Go.Maps Go.Shelf
namespace Lr
attribute [local go_sem] Oper.semAt_some
theorem wpListIn_of_plain {P : Program} {ops : Array Oper} {Q : Exit → Act → World → Prop} {n l : Nat} (hlo : ¬ LetsOut Q) : ∀ (xs : List Oper), xs.all noDefer = true → ∀ (a : Act) (w : World), wpList P ops Q xs a w → wpListIn (Fence.wide.inRound l) n P ops Q xs a w
  | [], _, _, _, h => h
  | o :: xs, hnd, a, w, h => by
    rw [List.all_cons, Bool.and_eq_true] at hnd
    have hK := wpListIn_of_plain (P := P) (ops := ops) (n := n) (l := l) hlo xs hnd.2
    unfold wpList at h
    unfold wpListIn
    by_cases hw : Region.wanted o (yielded ops a.tmps) = true
    · simp only [hw, if_true] at h ⊢
      unfold Oper.wp at h
      unfold Oper.wpIn
      refine ⟨fun _ _ => trivial, ?_⟩
      replace h := h.resolve_right fun x => hlo x.2
      rw [Oper.semAt_eq _ _ _ (noDefer_ne hnd.1)]
      generalize (execOp a.eval o).run P w = r at *
      have hd : ((Fence.wide.inRound l).depth.isSome = true → 1 ≤ n) := fun h => by simp [Fence.wide] at h
      cases r with
      | ok x w' =>
        cases x <;> simp only [Oper.upon] at h <;> simp only [Oper.uponIn] <;>
          first
            | exact hK _ _ h
            | exact ⟨hd, CallsIn.inRound l (callsIn_wide.2 (Calls.mono h (fun e w'' he => by cases e <;> first | exact hK _ _ he | exact he)))⟩
            | exact ⟨hd, rowsIn_of_rows (Rows.mono h (fun _ _ he => hK _ _ he))⟩
      | halt x w' => cases x <;> simp only [Oper.upon] at h <;> simp only [Oper.uponIn] <;> exact h
    · simp only [hw, if_false, Bool.false_eq_true] at h ⊢
      exact ⟨fun _ _ => trivial, hK _ _ h⟩
theorem wpIn_region_straight_round {P : Program} {Q : Exit → Act → World → Prop} {k m id : Nat} {a : Act} {w : World} {l : List Oper} (hlo : ¬ LetsOut Q) (hnd : l.all noDefer = true) (h : wpList P l.toArray Q l a w) : (Code.region id l.toArray false).wpIn (Fence.wide.inRound k) m P Q a w :=
  wpIn_region_lit (wpListIn_of_plain hlo l hnd a w h)
theorem setRow_alloc (w : World) (cs old : Array Value) (t : TypeId) : (w.alloc (.cells old t)).setRow w.heap.size cs = w.alloc (.cells cs t) := by
  unfold World.setRow World.alloc
  congr 1
  apply Array.ext_getElem?
  intro i
  simp only [Array.getElem?_modify, Array.getElem?_push]
  by_cases h : i = w.heap.size
  · subst h; simp
  · have : w.heap.size ≠ i := fun e => h e.symm
    simp [h, this]
theorem wpList_store_new {W : World} {ops : Array Oper} {rest : List Oper} {o : Oper} {a : Act} {Q : Exit → Act → World → Prop} (hgd : o.guard = none) (x y : Operand) (ho : o.op = .store 37 x y)
    (r0 r : Ent) (hx : a.eval x = .pointer (some ⟨W.heap.size, 0, none⟩)) (hy : a.eval y = entV r)
    (h : wpList Try.prog ops Q rest (a.put o.dst undef) (W.alloc (entO r))) : wpList Try.prog ops Q (o :: rest) a (W.alloc (entO r0)) := by
  refine wpList_store_row hgd _ x y ho W.heap.size _ hx hy 37 _ (heap_alloc_new W _) info37 rfl (by simp [Value.oneCell']) ?_
  unfold entO
  rw [setRow_alloc]
  exact h
theorem wpList_append_ent {W V : World} {x0 : Ent} (hV : V = W.alloc (entO x0)) {ops : Array Oper} {rest : List Oper} {o : Oper} {a : Act} {Q : Exit → Act → World → Prop} (hgd : o.guard = none) (s y : Operand)
    (ho : o.op = .call { callee := .builtin .append, args := #[s, y], argTypes := #[47, 47] })
    {base B : Nat} {S : List Ent} {v : Value} (hb : Boxed W B 47 v) (hown : W.ownsRow base 37 3 v S.length (entC S)) (hbase : base ≤ W.heap.size) (hB : base ≤ B) (hS : S.length ≤ 1000000)
    (hs : a.eval s = v) (hy : a.eval y = .slice (some ⟨W.heap.size, 0, none⟩) 1 1)
    (h : ∀ p n c W2 W4, W2.cell? ⟨B, 0, none⟩ = some v → W2.frozen? ⟨B, 0, none⟩ = false → W4 = W2.setCell ⟨B, 0, none⟩ (.slice p n c) → ApPost W base B S x0 W4 → wpList Try.prog ops Q rest (a.put o.dst (.slice p n c)) W2) : wpList Try.prog ops Q (o :: rest) a V := by
  refine wpList_plain hgd fun K hK => ?_
  obtain ⟨v', W2, hrun, hv1, hpost, ⟨p, n, c, rfl⟩, _⟩ := append_ent (x := x0) hb hown hbase hB hS o.type
  subst hV
  unfold Oper.wp
  rw [exec_append ho hs hy hrun]
  exact hK _ _ (h p n c W2 _ hv1.cell hv1.frozen rfl hpost)
theorem wpListIn_store_new {F : Fence} {n : Nat} {W : World} {ops : Array Oper} {rest : List Oper} {o : Oper} {a : Act} {Q : Exit → Act → World → Prop} (hgd : o.guard = none) (x y : Operand) (ho : o.op = .store 37 x y)
    (r0 r : Ent) (hx : a.eval x = .pointer (some ⟨W.heap.size, 0, none⟩)) (hy : a.eval y = entV r)
    (h : wpListIn F n Try.prog ops Q rest (a.put o.dst undef) (W.alloc (entO r))) : wpListIn F n Try.prog ops Q (o :: rest) a (W.alloc (entO r0)) := by
  refine wpListIn_plain hgd fun K hK => ?_
  have hrun := run_storeVar_row (P := Try.prog) (W.alloc (entO r0)) W.heap.size 37 37 _ #[num r.key, u64v r.val, .bool r.dirty] (heap_alloc_new W _) info37 rfl (by simp [Value.oneCell'])
  rw [show entO r0 = .cells #[num r0.key, u64v r0.val, .bool r0.dirty] 37 from rfl, setRow_alloc] at hrun
  unfold Oper.wpIn
  refine ⟨by simp [Oper.about, ho], ?_⟩
  rw [Oper.semAt_plain F _ _ (by rw [ho]; intro c hc'; cases hc')]
  unfold execOp
  simp only [ho, hx, hy, entV, entO, Instr.storeAt, Instr.sureAddr, Sem.run_bind, Sem.run_pure, Result.andThen_ok, hrun]
  exact hK _ _ h
theorem wpListIn_append_ent {F : Fence} {n : Nat} {W V : World} {x0 : Ent} (hV : V = W.alloc (entO x0)) {ops : Array Oper} {rest : List Oper} {o : Oper} {a : Act} {Q : Exit → Act → World → Prop} (hgd : o.guard = none) (s y : Operand)
    (ho : o.op = .call { callee := .builtin .append, args := #[s, y], argTypes := #[47, 47] })
    {base B : Nat} {S : List Ent} {v : Value} (hb : Boxed W B 47 v) (hown : W.ownsRow base 37 3 v S.length (entC S)) (hbase : base ≤ W.heap.size) (hB : base ≤ B) (hS : S.length ≤ 1000000)
    (hs : a.eval s = v) (hy : a.eval y = .slice (some ⟨W.heap.size, 0, none⟩) 1 1)
    (h : ∀ p k c W2 W4, W2.cell? ⟨B, 0, none⟩ = some v → W2.frozen? ⟨B, 0, none⟩ = false → W4 = W2.setCell ⟨B, 0, none⟩ (.slice p k c) → ApPost W base B S x0 W4 → wpListIn F n Try.prog ops Q rest (a.put o.dst (.slice p k c)) W2) : wpListIn F n Try.prog ops Q (o :: rest) a V := by
  refine wpListIn_plain hgd fun K hK => ?_
  obtain ⟨v', W2, hrun, hv1, hpost, ⟨p, k, c, rfl⟩, _⟩ := append_ent (x := x0) hb hown hbase hB hS o.type
  subst hV
  unfold Oper.wpIn
  refine ⟨by simp [Oper.about, ho, resolve, Target.leads, Sem.run_pure], ?_⟩
  rw [Oper.semAt_plain F _ _ (by rw [ho]; intro c hc'; cases hc')]
  rw [exec_append ho hs hy hrun]
  exact hK _ _ (h p k c W2 _ hv1.cell hv1.frozen rfl hpost)
end Lr
end Go.Proofs.Ytlgomaohfhgkpaa
