/- Rows that grow by rows; what a bound on all that is read says of one argument. -/
import Derived.Test.YtfmkmfjmhpgglaaDoorXf
import Derived.Test.YtfmkmfjmhpgglaaDoorXg
import Derived.Deep.DeepHandedRow
namespace Go.Proofs.YtfmkmfjmhpgglaaDoor
open Go.ChangeShapes Go.WideShapes Go.ChangeAt Go.RowKit
namespace Cr
/-- 'append(s, b...)' onto a row of one's own. -/
theorem wpList_append_more {w : World} {base : Nat} {ops : Array Oper} {rest : List Oper} {o : Oper} {a : Act} {Q : Exit → Act → World → Prop} (hgd : o.guard = none) (s x : Operand)
    (ho : o.op = .call { callee := .builtin .append, args := #[s, x], argTypes := #[25, 25] }) (v : Value) (S : List Nat) (hs : a.eval s = v) (hown : w.ownsRow base 5 1 v S.length (valsB S)) (hbase : base ≤ w.heap.size)
    (ao : Option Addr) (bs : List Nat) (cap : Nat) (hx : a.eval x = .slice ao bs.length cap) (hb : RdB w ao bs) (hl : S.length + bs.length ≤ 140737488355328)
    (hcap : ao = none → cap = 0)
    (h : ∀ v' w', w'.ownsRow base 5 1 v' (S ++ bs).length (valsB (S ++ bs)) → w.grownBy w' v.ownBlock → wpList Tryd.prog ops Q rest (a.put o.dst v') w') : wpList Tryd.prog ops Q (o :: rest) a w := by
  obtain ⟨i0, hi, hz0, hz1, hz2⟩ := info_parts Tryd.info5
  cases ao with
  | none =>
    obtain rfl : bs = [] := by
      rcases hb.2 with e | ⟨g, off, e, _⟩
      · exact e
      · cases e
    rw [hcap rfl] at hx
    exact wpList_append_own_none hgd s x 25 ho base 5 i0 1 Tryd.underlying25 hi v S.length (valsB S) hs hown hx (h _ _ (by rw [List.append_nil]; exact hown) (World.grownBy.refl _ _))
  | some ad =>
    refine wpList_append_own w hgd s x 25 ho base 5 i0 (.int .u8 0) 1 1 Tryd.underlying25 hi hz0 hz1 hz2 rfl (by decide) _ _ _ hs hown ad bs.length cap (valsB bs) hx (by rw [valsB_len]; omega) ?_ (valsB_one bs) (by unfold maxLen; omega) (by omega) hbase ?_
    · intro j u hj
      have hjl : j < (valsB bs).length := (List.getElem?_eq_some_iff.1 hj).1
      obtain ⟨ad', e, hc⟩ := hb.src (by omega)
      cases e
      exact hc j u hj
    · intro v' w' h1 h2 _
      rw [← valsB_app] at h1
      rw [← List.length_append] at h1
      exact h v' w' h1 h2
/-- Writing to a row of one's own leaves all else. -/
theorem grown_own {w0 w w' : World} {v : Value} {S : List Nat} {n : Nat} (hg : w0.grownBy w none) (hown : w.ownsRow w0.heap.size 5 1 v n (valsB S)) (h : w.grownBy w' v.ownBlock) : w0.grownBy w' none := by
  have hob := hown.lt
  exact ⟨h.os.trans hg.os, h.tape.trans hg.tape, h.output.trans hg.output, Nat.le_trans hg.size h.size, fun k hk _ => by
    rw [h.block k (Nat.lt_of_lt_of_le hk hg.size) (fun e => by have := (hob k e.symm).1; omega)]; exact hg.block k hk (by simp)⟩
theorem bulk_len {H : Type} (l : List (DataW H)) : l.length ≤ Rows.uptoBulkAll l := by
  have h1 : ∀ d : DataW H, 1 ≤ Rows.uptoBulk d := fun d => by
    cases d with
    | lit l => cases l <;> simp [Rows.uptoBulk]
    | nil => simp [Rows.uptoBulk]
    | ptr d => simp [Rows.uptoBulk]
    | slice elems spare => simp [Rows.uptoBulk]
    | agg parts => simp [Rows.uptoBulk]
    | iface t d => simp [Rows.uptoBulk]
    | map entries => simp [Rows.uptoBulk]
    | held h => simp [Rows.uptoBulk]
  induction l with
  | nil => simp [Rows.uptoBulkAll]
  | cons x r ih => have := h1 x; simp only [Rows.uptoBulkAll, List.length_cons]; omega
theorem argB_bulk {W : World} {a0 : Option Addr} {len0 cap0 : Nat} {H : Type} {enc : TypeId × Value → H} {base : Nat} {d : DataW H} {ps : List MemPlace}
    (h0 : DataW.Trod enc Tryd.prog W base (fun _ => true) true 25 (.slice a0 len0 cap0) d ps) :
    ∃ bs, ArgB W a0 len0 bs ∧ len0 ≤ Rows.uptoBulk d ∧ len0 ≤ cap0 ∧ (a0 = none → cap0 = 0) := by
  obtain ⟨xs, hxs⟩ := argB_of h0
  refine ⟨xs, hxs, ?_⟩
  obtain ⟨fuel, hf⟩ := h0
  rcases open_ints Tryd.underlying25 Tryd.underlying5 (by kernel_rfl) hf with ⟨hcs, _⟩ | ⟨x, l, c, zs, hcs, _, hl, hm, hz, hx, hcell, hwz⟩
  · simp [Value.cells] at hcs
    obtain ⟨rfl, rfl, rfl⟩ := hcs
    exact ⟨by omega, by omega, fun _ => rfl⟩
  · simp [Value.cells] at hcs
    obtain ⟨rfl, rfl, rfl⟩ := hcs
    simp only [Prod.mk.injEq] at hx
    obtain ⟨rfl, _⟩ := hx
    have hz' : zs.length = cap0 := by simpa using hz
    have h1 := bulk_len (H := H) (lits .u8 (zs.take len0))
    simp only [lits, List.length_map, List.length_take] at h1
    refine ⟨?_, by omega, fun e => by cases e⟩
    simp only [Rows.uptoBulk]
    simp only [lits] at h1 ⊢
    omega
end Cr
end Go.Proofs.YtfmkmfjmhpgglaaDoor
