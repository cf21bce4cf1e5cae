/- Layer 10 (lru): a region that draws its order in a round of a range over a function: one walk of the text's order serves. -/
import Derived.Test.YtlgomaohfhgkpaaLk
import Derived.Sort.QuietIn
import Derived.Sort.BigQuietIn
import Derived.StillTailTactics
import Derived.OrdersHeld
namespace Go.Proofs.Ytlgomaohfhgkpaa
open Go.RowKit Go.Maps Go.Shelf
namespace Lr
variable {F : Fence} {n : Nat} {P : Program} {ops : Array Oper} {Q : Exit → Act → World → Prop} {md : Region.Mode}
def noDefer (o : Oper) : Bool := match o.op with | .defer _ => false | _ => true
theorem noDefer_ne {o : Oper} (h : noDefer o = true) : ∀ c, o.op ≠ .defer c := fun c e => by simp [noDefer, e] at h
theorem wpOpIn_inRound {l : Nat} (hnd : ∀ (i : Nat) o, ops[i]? = some o → noDefer o = true) {i : Nat} {K K' : Act → World → Prop} (hK : ∀ a w, K a w → K' a w) {a : Act} {w : World}
    (h : wpOpIn F n P ops Q i K a w) : wpOpIn (F.inRound l) n P ops Q i K' a w := by
  unfold wpOpIn at *
  cases ho : ops[i]? with
  | none => simp only [ho] at h ⊢; exact hK _ _ h
  | some o =>
    simp only [ho] at h ⊢
    by_cases hw : Region.wanted o (yielded ops a.tmps) = true
    · simp only [hw, if_true] at h ⊢
      unfold Oper.wpIn at *
      refine ⟨h.1, ?_⟩
      have h2 := h.2
      rw [Oper.semAt_eq _ _ _ (noDefer_ne (hnd i o ho))] at h2 ⊢
      generalize (execOp a.eval o).run P w = r at *
      cases r with
      | ok x w' =>
        cases x <;> simp only [Oper.uponIn] at h2 ⊢ <;>
          first
            | exact hK _ _ h2
            | exact ⟨h2.1, CallsIn.mono h2.2 (fun e w'' he => by cases e <;> first | exact hK _ _ he | exact he)⟩
            | exact ⟨h2.1, RowsIn.mono h2.2 (fun _ _ he => hK _ _ he)⟩
            | exact ⟨h2.1, RoundIn.mono h2.2 (fun e w'' he => by cases e <;> first | exact hK _ _ he | exact he)⟩
      | halt x w' => cases x <;> simp only [Oper.uponIn] at h2 ⊢ <;> exact h2
    · simp only [hw, if_false, Bool.false_eq_true] at h ⊢
      exact ⟨h.1, hK _ _ h.2⟩
theorem wpAnyIn_inRound {l : Nat} (hnd : ∀ (i : Nat) o, ops[i]? = some o → noDefer o = true) : ∀ (fuel : Nat) (listed : Array Bool) (a : Act) (w : World),
    wpAnyIn F n P md ops Q fuel listed a w → wpAnyIn (F.inRound l) n P md ops Q fuel listed a w
  | 0, _, _, _, h => h
  | fuel + 1, _, _, _, h => ⟨h.1, fun i hi => wpOpIn_inRound hnd (fun a w => wpAnyIn_inRound hnd fuel _ a w) (h.2 i hi)⟩
theorem noDefer_all {l : List Oper} (h : l.all noDefer = true) : ∀ (i : Nat) o, l.toArray[i]? = some o → noDefer o = true := fun i o ho => by
  rw [List.getElem?_toArray] at ho
  exact List.all_eq_true.1 h o (List.mem_of_getElem? ho)
theorem wpIn_region_quiet_round {id k : Nat} {a : Act} {w : World} {l : List Oper} (hro : F.round = none) (hnd : l.all noDefer = true) (hm : P.follows .mixedOrders = true) (hB : Region.lexB .any l.toArray = true)
    (h : wpQuietIn F n P l.toArray (fun w' => ∃ n, w' = w.drewN n) (fun a' => ∀ w', (∃ n, w' = w.drewN n) → Q .normal a' w') l a) : (Code.region id l.toArray true).wpIn (F.inRound k) n P Q a w := by
  have hB2 := hB
  simp only [Region.lexB, Bool.and_eq_true] at hB2
  refine wpIn_region_any hm (wpAnyIn_inRound (noDefer_all hnd) _ _ _ _ (wpAnyIn_of_quiet (C := fun w' => ∃ n, w' = w.drewN n) (Q := fun a' => ∀ w', (∃ n, w' = w.drewN n) → Q .normal a' w') hro (fun _ w' hw' h => h w' hw') _ _ _ _ ⟨1, rfl⟩ ?_))
  have := wpAnyQIn_lex (F := F) (n := n) (C := fun w' => ∃ n, w' = w.drewN n) (md := .any) hB2.1 l 0 (Array.replicate l.toArray.size false) a (by simp) (by simpa using hB2.2) h
  simpa using this
theorem rowsIn_of_rows {n : Nat} {row : String} {args : Array Value} {w : World} {R : Value → World → Prop} (h : Rows P row args w R) : RowsIn Fence.wide n P row args w R := fun c cs _ => let ⟨v, w', r, s⟩ := h c cs; ⟨v, w', r, stepsIn_wide.2 s⟩
/-- What is shown of a region outside a fence serves in a round. -/
theorem wpOpIn_of_plain {n l i : Nat} (hlo : ¬ LetsOut Q) (hnd : ∀ (i : Nat) o, ops[i]? = some o → noDefer o = true) {K K' : Act → World → Prop} (hK : ∀ a w, K a w → K' a w) {a : Act} {w : World} (h : wpOp P ops Q i K a w) : wpOpIn (Fence.wide.inRound l) n P ops Q i K' a w := by
  unfold wpOp at h
  unfold wpOpIn
  cases ho : ops[i]? with
  | none => simp only [ho] at h ⊢; exact hK _ _ h
  | some o =>
    simp only [ho] at h ⊢
    by_cases hw : Region.wanted o (yielded ops a.tmps) = true
    · simp only [hw, if_true] at h ⊢
      unfold Oper.wp at h
      unfold Oper.wpIn
      refine ⟨fun _ _ => trivial, ?_⟩
      replace h := h.resolve_right fun x => hlo x.2
      rw [Oper.semAt_eq _ _ _ (noDefer_ne (hnd i o ho))]
      generalize (execOp a.eval o).run P w = r at *
      have hd : ((Fence.wide.inRound l).depth.isSome = true → 1 ≤ n) := fun h => by simp [Fence.wide] at h
      cases r with
      | ok x w' =>
        cases x <;> simp only [Oper.upon] at h <;> simp only [Oper.uponIn] <;>
          first
            | exact hK _ _ h
            | exact ⟨hd, CallsIn.inRound l (callsIn_wide.2 (Calls.mono h (fun e w'' he => by cases e <;> first | exact hK _ _ he | exact he)))⟩
            | exact ⟨hd, rowsIn_of_rows (Rows.mono h (fun _ _ he => hK _ _ he))⟩
      | halt x w' => cases x <;> simp only [Oper.upon] at h <;> simp only [Oper.uponIn] <;> exact h
    · simp only [hw, if_false, Bool.false_eq_true] at h ⊢
      exact ⟨fun _ _ => trivial, hK _ _ h⟩
theorem wpAnyIn_of_plain {n l : Nat} (hlo : ¬ LetsOut Q) (hnd : ∀ (i : Nat) o, ops[i]? = some o → noDefer o = true) : ∀ (fuel : Nat) (listed : Array Bool) (a : Act) (w : World), wpAny P md ops Q fuel listed a w → wpAnyIn (Fence.wide.inRound l) n P md ops Q fuel listed a w
  | 0, _, _, _, h => h
  | fuel + 1, _, _, _, h => ⟨h.1, fun i hi => wpOpIn_of_plain hlo hnd (fun a w => wpAnyIn_of_plain hlo hnd fuel _ a w) (h.2 i hi)⟩
theorem wpIn_region_plain {n k id : Nat} {a : Act} {w : World} {l : List Oper} (hlo : ¬ LetsOut Q) (hnd : l.all noDefer = true) (hm : P.follows .mixedOrders = true)
    (h : wpAny P .any l.toArray Q l.toArray.size (Array.replicate l.toArray.size false) a { w with drawn := w.drawn + 1 }) : (Code.region id l.toArray true).wpIn (Fence.wide.inRound k) n P Q a w :=
  wpIn_region_any hm (wpAnyIn_of_plain hlo (noDefer_all hnd) _ _ _ _ h)
/-- Operations that leave the world, and a tail that is done in the text's order: in a round. -/
theorem wpIn_region_tail_round {k m id : Nat} {a : Act} {w : World} {l : List Oper} (n : Nat) (hlo : ¬ LetsOut Q) (hnd : l.all noDefer = true) (hm : P.follows .mixedOrders = true) (hB : Region.lexTailB .any l.toArray n = true)
    (h : wpStill P l.toArray { w with drawn := w.drawn + 1 } (fun a' => wpList P l.toArray Q (l.drop n) a' { w with drawn := w.drawn + 1 }) (l.take n) a) : (Code.region id l.toArray true).wpIn (Fence.wide.inRound k) m P Q a w := by
  refine wpIn_region_plain hlo hnd hm ?_
  simp only [Region.lexTailB, Bool.and_eq_true, decide_eq_true_eq] at hB
  obtain ⟨⟨⟨⟨hsel, hn⟩, hs⟩, hc⟩, hlex⟩ := hB
  have hsz : n < l.length := by simpa using hn
  have ht : (l.take n).length = n := by rw [List.length_take]; omega
  have hd : (l.drop n).length = l.toArray.size - n := by rw [List.length_drop, List.size_toArray]
  have hI : HeadInv .any l.toArray n (Array.replicate l.toArray.size false) :=
    ⟨by simp, fun j _ _ hl => (by rw [getD_replicate_false] at hl; cases hl), fun t _ htt => getD_in (by simpa using htt) (getD_replicate_false _ _)⟩
  have hH := wpAnyL_lex (md := .any) (g := l.toArray.size - n) hsel hs hc hn (l.take n) 0 _ a (fun j hj => by rw [ht] at hj; simp [hj]) (by simpa using ht) hI (by rw [ht]; exact hlex) h
  have hA := wpAny_of_head (Q' := Q) (g := l.toArray.size - n) (fun listed a' hL => by
    have hq := wpAny_of_seq (md := .any) (Q' := Q) (l.drop n) n listed a' { w with drawn := w.drawn + 1 } (fun j => by simp [List.getElem?_drop]) (by rw [hd]; exact hL.1) hL.2
    rwa [hd] at hq) _ _ _ hH
  rw [ht, show n + (l.toArray.size - n) = l.toArray.size by omega] at hA
  exact hA
/-- An operation that runs to its end. -/
theorem wpOp_runs {i : Nat} {o : Oper} {v : Value} {K : Act → World → Prop} {a : Act} {w w2 : World} (hi : ops[i]? = some o) (hw : Region.wanted o (yielded ops a.tmps) = true) (hr : (execOp a.eval o).run P w = .ok (.value v) w2) (h : K (a.put o.dst v) w2) : wpOp P ops Q i K a w := by
  unfold wpOp
  simp only [hi, hw, if_true, Oper.wp, hr, Oper.upon]
  exact .inl h
/-- A store. -/
theorem wpOp_skips {i : Nat} {o : Oper} {K : Act → World → Prop} {a : Act} {w w2 : World} (hi : ops[i]? = some o) (hw : Region.wanted o (yielded ops a.tmps) = true) (hr : (execOp a.eval o).run P w = .ok .skip w2) (h : K (a.put o.dst undef) w2) : wpOp P ops Q i K a w := by
  unfold wpOp
  simp only [hi, hw, if_true, Oper.wp, hr, Oper.upon]
  exact .inl h
theorem wpIn_region_held_round {k m id : Nat} {a : Act} {w : World} {l : List Oper} (S : World → Prop) (hlo : ¬ LetsOut Q) (hnd : l.all noDefer = true) (hm : P.follows .mixedOrders = true)
    (h : wpAnyH P .any l.toArray Q S l.toArray.size (Array.replicate l.toArray.size false) a w.drew) : (Code.region id l.toArray true).wpIn (Fence.wide.inRound k) m P Q a w :=
  wpIn_region_plain hlo hnd hm (wpAny_of_held _ _ _ _ h)
/-! ### Frames that leave through marks -/
def mk (r : Nat) : Deferred := { target := .collected r, args := #[] }
structure Marked (rs : List Nat) (w : World) : Prop where
  one : rs.Nodup
  at_ : ∀ r, r ∈ rs → w.heap[r]? = some (.deferred (some []))
theorem Marked.kept {rs : List Nat} {w w' : World} (h : Marked rs w) (e : ∀ g, g ∈ rs → w'.heap[g]? = w.heap[g]?) : Marked rs w' := ⟨h.one, fun r hr => (e r hr).trans (h.at_ r hr)⟩
theorem Marked.nil (w : World) : Marked [] w := ⟨List.nodup_nil, fun _ h => absurd h List.not_mem_nil⟩
theorem leaves_marks {F : Fence} {n : Nat} {P : Program} {fn : Func} {tmps : Array Value} {R : Ending → World → Prop} : ∀ (rs : List Nat) (w : World), Marked rs w →
    (∀ w', Stp (fun g => g ∈ rs) w w' → LeavesInM F n P fn tmps R [] .returning w') → LeavesInM F n P fn tmps R (rs.map mk) .returning w
  | [], w, _, h => h w (Stp.refl _ _)
  | r :: rs, w, hm, h => by
    obtain ⟨hr, hn⟩ := List.nodup_cons.1 hm.one
    refine ⟨by simp, .inl ⟨r, _, rfl, run_takeDeferred (hm.at_ r List.mem_cons_self), ?_⟩⟩
    have hg := grownBy_putObj' w r (.deferred none)
    have hs : Stp (fun g => g ∈ r :: rs) w (w.putObj r (.deferred none)) := ⟨hg.os, hg.tape, hg.output, hg.size, fun g hl hk => World.putObj_heap_other (fun e => hk (by rw [e]; exact List.mem_cons_self))⟩
    refine leaves_marks rs _ ⟨hn, fun q hq => (World.putObj_heap_other (by rintro rfl; exact hr hq)).trans (hm.at_ q (List.mem_cons_of_mem _ hq))⟩ fun w' s' => h w' (hs.trans (s'.more fun g hg => List.mem_cons_of_mem _ hg))
theorem stp_of_row {X Y : World} {row : Option Nat} (hg : X.grownBy Y row) : Stp (fun g => row = some g) X Y := ⟨hg.os, hg.tape, hg.output, hg.size, fun g hl hk => hg.block g hl fun e => hk e.symm⟩
theorem not_row {B g : Nat} {X : World} {row : Option Nat} {L : Array Value} {t : TypeId} (h : X.heap[g]? = some (.cells L t)) (hr : ∀ r, row = some r → B ≤ r ∧ ∃ o : Obj, X.heap[r]? = some o ∧ o.isCells = false) : ¬ row = some g := fun e => by
  obtain ⟨_, o, h1, h2⟩ := hr g e
  rw [h] at h1; cases h1; simp [Obj.isCells] at h2
theorem exec_append {P : Program} {o : Oper} {a : Act} {w w' : World} {s x : Operand} {t : TypeId} {sv xv v' : Value} (ho : o.op = .call { callee := .builtin .append, args := #[s, x], argTypes := #[t, t] }) (hs : a.eval s = sv) (hx : a.eval x = xv) (hr : (Builtin.append_ #[t, t] o.type #[sv, xv]).run P w = .ok v' w') :
    (execOp a.eval o).run P w = .ok (.value v') w' := by
  unfold execOp
  simp only [ho, resolve, invoke, builtin, Sem.run_bind, Sem.run_pure, Result.andThen_ok, List.map_toArray, List.map_cons, List.map_nil, hs, hx, hr]
end Lr
end Go.Proofs.Ytlgomaohfhgkpaa
