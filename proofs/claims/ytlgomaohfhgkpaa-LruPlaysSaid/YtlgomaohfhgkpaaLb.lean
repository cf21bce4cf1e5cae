/- Layer 10 (lru): a map of links. -/
import Derived.Test.YtlgomaohfhgkpaaLa
namespace Go.Proofs.Ytlgomaohfhgkpaa
open Go.RowKit Go.Maps Go.WideElems
namespace Lr
/-- How a link's place reads. -/
def ptrElem : Value → Option (DataW Unit × List MemPlace)
  | .pointer none => some (.nil, [])
  | .pointer (some ⟨b, 0, none⟩) => some (.lit (.int .i64 (b : Int)), [])
  | _ => none
theorem ptrElem_nil : ptrElem (.pointer none) = some (.nil, []) := rfl
theorem ptrElem_ptr (b : Nat) : ptrElem (ptr b) = some (.lit (.int .i64 (b : Int)), []) := rfl
theorem ptrElem_inv_nil {v : Value} {ps : List MemPlace} (h : ptrElem v = some (.nil, ps)) : v = .pointer none := by
  unfold ptrElem at h
  split at h
  · rfl
  · simp at h
  · simp at h
theorem ptrElem_inv_ptr {v : Value} {b : Nat} {ps : List MemPlace} (h : ptrElem v = some (.lit (.int .i64 (b : Int)), ps)) : v = ptr b := by
  unfold ptrElem at h
  split at h
  · simp at h
  · simp at h; obtain ⟨h1, _⟩ := h; have h2 := Int.ofNat.inj h1; subst h2; rfl
  · simp at h
theorem keyed3 : Keyed Try.prog 3 := int_keyed Try.underlying3
theorem wf_i64 {x : Int} (h : I64 x) : (Lit.int .i64 x).wf = true := WalkArith.wf_i64 h
/-- Block m is a map that has just the keys of K, n of them. -/
def MapM (w : World) (m : Nat) (K : Int → Option Nat) (n : Nat) : Prop :=
  ∃ DM, w.ownsMap Try.prog 3 ptrElem m n DM ∧ Maps.size DM = n ∧ (∀ k, Maps.has DM (.int .i64 k) = (K k).isSome) ∧ (∀ k b, K k = some b → ∀ z, DM.atKey (.int .i64 k) z = .lit (.int .i64 (b : Int))) ∧ (∀ k, K k = none → ∀ z, DM.atKey (.int .i64 k) z = z)
theorem MapM.of_heap {w w' : World} {m : Nat} {K : Int → Option Nat} {n : Nat} (h : MapM w m K n) (e : w'.heap[m]? = w.heap[m]?) : MapM w' m K n := by
  obtain ⟨DM, ⟨es, clock, h1, h2, h3, h4⟩, h5⟩ := h
  exact ⟨DM, ⟨es, clock, e.trans h1, h2, h3, h4⟩, h5⟩
theorem MapM.lt {w : World} {m : Nat} {K : Int → Option Nat} {n : Nat} (h : MapM w m K n) : m < w.heap.size := h.choose_spec.1.lt
theorem map_made (w : World) : MapM (w.alloc (.map #[] 0)) w.heap.size (fun _ => none) 0 :=
  ⟨.map [], World.ownsMap_made w Try.prog 3 _, rfl, fun k => by simp [Maps.has], fun k v hv => by simp at hv, fun k _ z => by simp [DataW.atKey]⟩
def ptrV (o : Option Nat) : Value := match o with | some b => ptr b | none => .pointer none
theorem zeroLink (w : World) : (zeroValue 62).run Try.prog w = .ok (.pointer none) w := by kernel_rfl
theorem MapM.look {w : World} {m : Nat} {K : Int → Option Nat} {n : Nat} (h : MapM w m K n) {k : Int} (hk : I64 k) :
    (Instr.lookup 61 (.map (some m)) (num k) false).run Try.prog w = .ok (ptrV (K k)) w := by
  obtain ⟨DM, hown, _, h1, h2, h3⟩ := h
  obtain ⟨v, ps, hrun, hv⟩ := hown.lookup (t := 61) keyed3 Try.underlying61 (zeroLink w) ptrElem_nil (keyOf_int_mk Try.underlying3 (wf_i64 hk))
  rw [hrun]
  cases hK : K k with
  | none =>
    rw [h3 k hK] at hv
    rw [ptrElem_inv_nil hv]; rfl
  | some b =>
    rw [h2 k b hK] at hv
    rw [ptrElem_inv_ptr hv]; rfl
theorem MapM.put {w : World} {m : Nat} {K : Int → Option Nat} {n : Nat} (h : MapM w m K n) {k : Int} {b : Nat} (hk : I64 k) (hn : n ≤ 1000000) (hK : K k = none) :
    ∃ w', (Instr.mapUpdate 61 (.map (some m)) (num k) (ptr b)).run Try.prog w = .ok () w' ∧ MapM w' m (fun i => if i = k then some b else K i) (n + 1) ∧ w.grownBy w' (some m) := by
  obtain ⟨DM, hown, h0, h1, h2, h3⟩ := h
  obtain ⟨w', hrun, hown', ht⟩ := hown.store (t := 61) keyed3 Try.underlying61 (by unfold maxLen; omega) (keyOf_int_mk Try.underlying3 (wf_i64 hk)) (ptrElem_ptr b)
  refine ⟨w', hrun, ⟨_, hown', ?_, fun i => ?_, fun i x hx z => ?_, fun i hx z => ?_⟩, ht.grown⟩
  · rw [Maps.size_put (hown.tidy keyed3), h1, hK, h0]; rfl
  · by_cases e : i = k
    · subst e
      rw [has_put_same (k := .int .i64 i) hown.isMap trivial]
      simp
    · rw [has_put_other (fun e2 => e (by simpa using e2)), h1]
      simp [e]
  · by_cases e : i = k
    · subst e
      simp at hx
      subst hx
      exact atKey_put_same (k := .int .i64 i) hown.isMap trivial _ z
    · simp [e] at hx
      rw [atKey_put_other (fun e2 => e (by simpa using e2))]
      exact h2 i x hx z
  · by_cases e : i = k
    · simp [e] at hx
    · simp [e] at hx
      rw [atKey_put_other (fun e2 => e (by simpa using e2))]
      exact h3 i hx z
theorem MapM.tight {w : World} {m : Nat} {n : Nat} {DM : DataW Unit} (h : w.ownsMap Try.prog 3 ptrElem m n DM) : w.ownsMap Try.prog 3 ptrElem m (Maps.size DM) DM := by
  obtain ⟨es, clock, hb, F, hs, rfl⟩ := h
  refine ⟨es, clock, hb, F, ?_, rfl⟩
  rw [size_eq, length_sorted]; simp
theorem MapM.del {w : World} {m : Nat} {K : Int → Option Nat} {n : Nat} (h : MapM w m K (n + 1)) {k : Int} {b : Nat} (hk : I64 k) (hK : K k = some b) (ty : TypeId) :
    ∃ w', (Builtin.delete_ #[61, 3] ty #[.map (some m), num k]).run Try.prog w = .ok (.tuple #[]) w' ∧ MapM w' m (fun i => if i = k then none else K i) n ∧ w.grownBy w' (some m) := by
  obtain ⟨DM, hown, h0, h1, h2, h3⟩ := h
  obtain ⟨w', hrun, hown', ht⟩ := hown.drop (t := 61) keyed3 Try.underlying61 (keyOf_int_mk Try.underlying3 (wf_i64 hk)) ty
  have hsz : Maps.size (DM.del (.int .i64 k)) = n := by
    have hd := Maps.size_del (k := .int .i64 k) (hown.tidy keyed3)
    rw [h1, hK] at hd
    simp at hd
    omega
  refine ⟨w', hrun, ⟨_, by have := MapM.tight hown'; rw [hsz] at this; exact this, hsz, fun i => ?_, fun i x hx z => ?_, fun i hx z => ?_⟩, ht.grown⟩
  · by_cases e : i = k
    · subst e
      simp [has_del_same]
    · rw [has_del_other (fun e2 => e (by simpa using e2)), h1]
      simp [e]
  · by_cases e : i = k
    · simp [e] at hx
    · simp [e] at hx
      rw [atKey_del_other (fun e2 => e (by simpa using e2))]
      exact h2 i x hx z
  · by_cases e : i = k
    · subst e
      simp [atKey_del_same]
    · simp [e] at hx
      rw [atKey_del_other (fun e2 => e (by simpa using e2))]
      exact h3 i hx z
theorem MapM.len {w : World} {m : Nat} {K : Int → Option Nat} {n : Nat} (h : MapM w m K n) (ty : TypeId) : (Builtin.len_ #[61] ty #[.map (some m)]).run Try.prog w = .ok (num n) w := by
  obtain ⟨DM, hown, h0, _⟩ := h
  rw [hown.len Try.underlying61 ty, h0]
end Lr
end Go.Proofs.Ytlgomaohfhgkpaa
