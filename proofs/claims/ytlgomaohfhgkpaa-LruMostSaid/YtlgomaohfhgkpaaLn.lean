/- Layer 10 (lru): a set of numbers in memory; what LruStays keeps. -/
import Derived.Test.YtlgomaohfhgkpaaLl
import Derived.Test.YtlgomaohfhgkpaaLm
namespace Go.Proofs.Ytlgomaohfhgkpaa
open Go.RowKit Go.Maps Go.WideElems
namespace Lr
theorem zero3 (w : World) : (zeroValue 3).run Try.prog w = .ok (num 0) w := by kernel_rfl
/-- A set's keys, one more. -/
def addK (Ks : List Int) (k : Int) : List Int := if k ∈ Ks then Ks else k :: Ks
theorem addK_mem (Ks : List Int) (k : Int) : ∀ x, x ∈ addK Ks k ↔ x = k ∨ x ∈ Ks := fun x => by
  unfold addK
  split
  · next h => constructor
              · exact .inr
              · rintro (rfl | h2)
                · exact h
                · exact h2
  · simp
theorem addK_nodup {Ks : List Int} (h : Ks.Nodup) (k : Int) : (addK Ks k).Nodup := by
  unfold addK
  split
  · exact h
  · next hn => exact List.nodup_cons.2 ⟨hn, h⟩
theorem addK_len (Ks : List Int) (k : Int) : (addK Ks k).length ≤ Ks.length + 1 := by
  unfold addK
  split
  · omega
  · simp
/-- A map whose keys are just Ks. -/
def SetI (w : World) (b : Nat) (Ks : List Int) : Prop :=
  ∃ DM, w.ownsMap Try.prog 3 (plainElem (H := Unit) Try.prog 3) b Ks.length DM ∧ Maps.size DM = Ks.length ∧ ∀ k, Maps.has DM (.int .i64 k) = decide (k ∈ Ks)
theorem SetI.of_heap {w w' : World} {b : Nat} {Ks : List Int} (h : SetI w b Ks) (e : w'.heap[b]? = w.heap[b]?) : SetI w' b Ks := by
  obtain ⟨DM, ⟨es, clock, h1, h2, h3, h4⟩, h5⟩ := h
  exact ⟨DM, ⟨es, clock, e.trans h1, h2, h3, h4⟩, h5⟩
theorem SetI.lt {w : World} {b : Nat} {Ks : List Int} (h : SetI w b Ks) : b < w.heap.size := h.choose_spec.1.lt
theorem set_made (w : World) : SetI (w.alloc (.map #[] 0)) w.heap.size [] := ⟨.map [], World.ownsMap_made w Try.prog 3 _, rfl, fun k => by simp [Maps.has]⟩
theorem SetI.len {w : World} {b : Nat} {Ks : List Int} (h : SetI w b Ks) (ty : TypeId) : (Builtin.len_ #[57] ty #[.map (some b)]).run Try.prog w = .ok (num Ks.length) w := by
  obtain ⟨DM, hown, h0, _⟩ := h
  rw [hown.len Try.underlying57 ty, h0]
theorem owns_tight {w : World} {b n : Nat} {DM : DataW Unit} (h : w.ownsMap Try.prog 3 (plainElem (H := Unit) Try.prog 3) b n DM) : w.ownsMap Try.prog 3 (plainElem (H := Unit) Try.prog 3) b (Maps.size DM) DM := by
  obtain ⟨es, clock, hb, F, hs, rfl⟩ := h
  refine ⟨es, clock, hb, F, ?_, rfl⟩
  rw [size_eq, length_sorted]; simp
theorem SetI.put {w : World} {b : Nat} {Ks : List Int} (h : SetI w b Ks) {k : Int} (hk : I64 k) (hn : Ks.length ≤ 1000000) :
    ∃ w', (Instr.mapUpdate 57 (.map (some b)) (num k) (num 1)).run Try.prog w = .ok () w' ∧ SetI w' b (addK Ks k) ∧ w.grownBy w' (some b) := by
  obtain ⟨DM, hown, h0, h1⟩ := h
  obtain ⟨w', hrun, hown', ht⟩ := hown.store (t := 57) keyed3 Try.underlying57 (by unfold maxLen; omega) (keyOf_int_mk Try.underlying3 (wf_i64 hk)) (plainElem_int Try.underlying3 (a := 1) (by decide))
  have hsz : Maps.size (DM.put (.int .i64 k) (.lit (.int .i64 1))) = (addK Ks k).length := by
    rw [Maps.size_put (hown.tidy keyed3), h1, h0]
    unfold addK
    by_cases e : k ∈ Ks
    · simp [e]
    · simp [e]
  refine ⟨w', hrun, ⟨_, by have := owns_tight hown'; rw [hsz] at this; exact this, hsz, fun i => ?_⟩, ht.grown⟩
  by_cases e : i = k
  · subst e
    rw [has_put_same (k := .int .i64 i) hown.isMap trivial]
    have : i ∈ addK Ks i := (addK_mem Ks i i).2 (.inl rfl)
    simp [this]
  · rw [has_put_other (fun e2 => e (by simpa using e2)), h1]
    have := addK_mem Ks k i
    simp [this, e]
theorem sub_len : ∀ {X Y : List Int}, X.Nodup → (∀ x ∈ X, x ∈ Y) → X.length ≤ Y.length
  | [], _, _, _ => Nat.zero_le _
  | x :: X, Y, h, hs => by
    have hx := hs x (by simp)
    have h2 := sub_len (X := X) (Y := Y.erase x) (List.nodup_cons.1 h).2 fun y hy => (List.mem_erase_of_ne (by rintro rfl; exact (List.nodup_cons.1 h).1 hy)).2 (hs y (List.mem_cons_of_mem _ hy))
    rw [List.length_erase_of_mem hx] at h2
    have := List.length_pos_of_mem hx
    rw [List.length_cons]
    omega
/-- What LruStays keeps. -/
def StI (M key : Int) (L : List Ent) (Ks : List Int) : Prop :=
  (L.length : Int) ≤ M ∧ (M ≤ (Ks.length : Int) ∨ ∃ (X : List Ent) (d : Bool) (Y : List Ent), L = X ++ ⟨key, 77, d⟩ :: Y ∧ ∀ x ∈ X, x.key ∈ Ks)
theorem rest_app (X Y : List Ent) (k : Int) : rest (X ++ Y) k = rest X k ++ rest Y k := List.filter_append ..
theorem rest_skip {x : Ent} {Y : List Ent} {k : Int} (h : x.key ≠ k) : rest (x :: Y) k = x :: rest Y k := by simp [rest, h]
theorem look_key {L : List Ent} {k : Int} {x : Ent} (h : look L k = some x) : x.key = k := by
  have := List.find?_some h
  simpa using this
theorem StI.front {M key k : Int} {L : List Ent} {Ks : List Int} (h : StI M key L Ks) (hk : k ≠ key) {y : Ent} (hy : y.key = k) (hl : (look L k).isSome = true) : StI M key (y :: rest L k) (addK Ks k) := by
  refine ⟨?_, ?_⟩
  · have := rest_lt hl
    have := h.1
    rw [List.length_cons]
    omega
  · rcases h.2 with h2 | ⟨X, d, Y, rfl, hX⟩
    · left
      have : Ks.length ≤ (addK Ks k).length := by unfold addK; split <;> simp
      omega
    · right
      refine ⟨y :: rest X k, d, rest Y k, ?_, fun x hx => ?_⟩
      · rw [rest_app, rest_skip (Ne.symm hk)]; rfl
      · rw [addK_mem]
        rcases List.mem_cons.1 hx with rfl | h3
        · exact .inl hy
        · exact .inr (hX x (List.mem_filter.1 h3).1)
theorem StI.get {M key k : Int} {L : List Ent} {Ks : List Int} (h : StI M key L Ks) (hk : k ≠ key) : StI M key (getL L k) (if (look L k).isSome then addK Ks k else Ks) := by
  cases hl : look L k with
  | none => rw [getL_none hl]; exact h
  | some x =>
    rw [getL_some hl]
    exact h.front hk (look_key hl) (by rw [hl]; rfl)
theorem StI.put {M key : Int} {L : List Ent} {Ks : List Int} (h : StI M key L Ks) (h1 : 1 ≤ M) (hon : (L.map Ent.key).Nodup) {x : Ent} (hk : x.key ≠ key) : StI M key (putL M x L) (addK Ks x.key) := by
  cases hl : look L x.key with
  | some y =>
    unfold putL
    rw [hl]
    exact h.front hk rfl (by rw [hl]; rfl)
  | none =>
    refine ⟨(putL_len h1 h.1).1, ?_⟩
    unfold putL
    rw [hl]
    have hge : Ks.length ≤ (addK Ks x.key).length := by unfold addK; split <;> simp
    rcases h.2 with h2 | ⟨X, d, Y, rfl, hX⟩
    · left; omega
    · have hmem : ∀ y ∈ x :: X, y.key ∈ addK Ks x.key := fun y hy => by
        rw [addK_mem]
        rcases List.mem_cons.1 hy with rfl | h3
        · exact .inl rfl
        · exact .inr (hX y h3)
      simp only [roomL]
      by_cases hlt : ((X ++ (⟨key, 77, d⟩ : Ent) :: Y).length : Int) < M
      · rw [if_pos hlt]
        exact .inr ⟨x :: X, d, Y, rfl, hmem⟩
      · rw [if_neg hlt]
        rcases List.eq_nil_or_concat Y with rfl | ⟨Y', z, rfl⟩
        · left
          have hnd : ((x :: X).map Ent.key).Nodup := by
            rw [List.map_cons, List.nodup_cons]
            refine ⟨fun hc => ?_, ?_⟩
            · obtain ⟨y, hy, he⟩ := List.mem_map.1 hc
              exact look_mem hl y (List.mem_append_left _ hy) he
            · rw [List.map_append, List.nodup_append] at hon
              exact hon.1
          have hsl := sub_len (Y := addK Ks x.key) hnd fun z hz => by
            obtain ⟨y, hy, rfl⟩ := List.mem_map.1 hz
            exact hmem y hy
          simp only [List.length_map, List.length_cons, List.length_append, List.length_nil] at hsl hlt
          omega
        · right
          refine ⟨x :: X, d, Y', ?_, hmem⟩
          rw [List.dropLast_append_of_ne_nil (by simp)]
          congr 1
          congr 1
          simp [List.dropLast]
end Lr
end Go.Proofs.Ytlgomaohfhgkpaa
