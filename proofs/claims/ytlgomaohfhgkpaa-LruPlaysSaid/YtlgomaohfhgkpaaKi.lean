/- Layer 10 (lru): the program's call and the document's behind it. -/
import Derived.Test.YtlgomaohfhgkpaaKh
namespace Go.Proofs.Ytlgomaohfhgkpaa
open Go.RowKit Go.Maps Go.Shelf
namespace Lr
theorem PlI.grown {w wr w' : World} {c r : Nat} {M : Int} {v : Value} {L : List Ent} (h : PlI w wr c r M v L) (hg : wr.grownBy w' none) : PlI w w' c r M v L :=
  ⟨h.cl.grown hg, h.ref.grown hg, h.len, grownBy_trans h.gr hg⟩
/-- What a round leaves. -/
def PlN (w wr : World) (c r : Nat) (M : Int) (n : Nat) : Prop := ∃ v L, PlI w wr c r M v L ∧ L.length ≤ n
theorem PlN.grown {w wr w' : World} {c r n : Nat} {M : Int} (h : PlN w wr c r M n) (hg : wr.grownBy w' none) : PlN w w' c r M n := by
  obtain ⟨v, L, h1, h2⟩ := h
  exact ⟨v, L, h1.grown hg, h2⟩
/-- How many there are, on both sides. -/
theorem PlN.lens {w wr : World} {c r n : Nat} {M : Int} (h : PlN w wr c r M n) : ∃ p k pc, wr.cell? ⟨r, 1, none⟩ = some (.slice p k pc) ∧ ∀ w', wr.grownBy w' none → Calls Try.prog 21 #[ptr c] w' fun q w2 => q = .returned (num k) ∧ w2 = w' := by
  obtain ⟨v, L, h1, h2⟩ := h
  obtain ⟨p, pc, hv⟩ := h1.ref.len
  exact ⟨p, L.length, pc, by rw [← hv]; exact cell_at h1.ref.box rfl, fun w' hg => Len_ok (h1.cl.grown hg)⟩
theorem PlN.all {w wr : World} {c r n : Nat} {M : Int} (h : PlN w wr c r M n) (hn : n ≤ 1000) : ∃ p k pc, wr.cell? ⟨r, 1, none⟩ = some (.slice p k pc) ∧ ∀ w', wr.grownBy w' none → Calls Try.prog 22 #[ptr c] w' fun q w2 => ∃ va, q = .returned va ∧ w2.cell? ⟨r, 1, none⟩ = some (.slice p k pc) ∧ ∀ w3, w2.grownBy w3 none → Calls Try.prog 16 #[va, .slice p k pc] w3 fun q w4 => q = .returned (.bool true) ∧ w.grownBy w4 none ∧ w4.cell? ⟨r, 1, none⟩ = some (.slice p k pc) := by
  obtain ⟨v, L, h1, h2⟩ := h
  obtain ⟨p, pc, hv⟩ := h1.ref.len
  refine ⟨p, L.length, pc, by rw [← hv]; exact cell_at h1.ref.box rfl, fun w' hg => ?_⟩
  have h1' := h1.grown hg
  refine (All_ok h1'.cl (by omega)).mono ?_
  rintro q w2 ⟨va, rfl, ho, hg2⟩
  have h2' := h1'.grown hg2
  refine ⟨va, rfl, by rw [← hv]; exact cell_at h2'.ref.box rfl, fun w3 hg3 => ?_⟩
  have h3' := h2'.grown hg3
  have ho3 : w3.ownsRow w'.heap.size 37 3 va L.length (entC L) := ho.kept hg3 (by cases va.ownBlock with | none => exact .inl rfl | some y => exact .inr (by simp))
  have hr3 := h3'.ref.row
  rw [hv] at hr3
  refine (rows_ok ho3 hr3 (by omega)).mono ?_
  rintro q w4 ⟨rfl, hg4⟩
  exact ⟨rfl, grownBy_trans h3'.gr hg4, by rw [← hv]; exact cell_at (h3'.grown hg4).ref.box rfl⟩
theorem PlI.puts {w wr wo : World} {c r n : Nat} {M : Int} {v : Value} {L : List Ent} (h : PlI w wr c r M v L) (hn : L.length ≤ n) (hn2 : n ≤ 900) (h1 : 1 ≤ M) (o : OpE) (hk : I64 o.key) (hwo : wo = wr.alloc (opB o)) :
    Calls Try.prog 11 #[ptr c, .agg #[num o.key, u64v o.val, .bool o.dirty]] wo fun q w5 => ∃ (E : Ent) (B : Bool), q = .returned (.tuple #[.agg #[num E.key, u64v E.val, .bool E.dirty], .bool B]) ∧ ∀ w6, w6 = w5.alloc (entO E) → w6.cell? ⟨wr.heap.size, 1, none⟩ = some (num o.key) ∧ w6.cell? ⟨wr.heap.size, 3, none⟩ = some (u64v o.val) ∧ w6.cell? ⟨wr.heap.size, 4, none⟩ = some (.bool o.dirty) ∧
      Calls Try.prog 12 #[ptr r, .agg #[num o.key, u64v o.val, .bool o.dirty]] w6 fun q w7 => q = .returned (.tuple #[.agg #[num E.key, u64v E.val, .bool E.dirty], .bool B]) ∧ ∀ w8, w8 = w7.alloc (entR E) → w8.heap[w5.heap.size]? = some (entO E) ∧ w8.heap[w7.heap.size]? = some (entR E) ∧ PlN w w8 c r M (n + 1) := by
  have hd := h.cl.once
  have hO := h.start o hwo
  have hL := putL_len (x := ⟨o.key, o.val, o.dirty⟩) h1 h.len
  refine (hO.put h1 (by omega) hk).mono ?_
  rintro q w5 ⟨rfl, hO5⟩
  refine ⟨_, _, rfl, fun w6 hw6 => ?_⟩
  have g6 : w5.grownBy w6 none := by rw [hw6]; exact World.grownBy_alloc w5 _ none
  have hO6 := hO5.grown g6
  have x6 : w6.heap[w5.heap.size]? = some (entO (putE M ⟨o.key, o.val, o.dirty⟩ L)) := by rw [hw6]; exact heap_alloc_new w5 _
  obtain ⟨z0, z1, z2, z3, z4⟩ := hO6.cells
  refine ⟨z1, z3, z4, (hO6.kput h1 (by omega) h.len hd).mono ?_⟩
  rintro q w7 ⟨rfl, ⟨v', hO7⟩, hs7⟩
  refine ⟨rfl, fun w8 hw8 => ?_⟩
  have g8 : w7.grownBy w8 none := by rw [hw8]; exact World.grownBy_alloc w7 _ none
  have hr := lt_of_heap hO5.ref.box
  have x7 := hs7.obj (by omega) x6
  exact ⟨(g8.block _ (lt_of_heap x7) (by simp)).trans x7, by rw [hw8]; exact heap_alloc_new w7 _, v', _, (hO7.grown g8).back hL.1, by have := hL.2; omega⟩
theorem PlI.drops {w wr wo : World} {c r n : Nat} {M : Int} {v : Value} {L : List Ent} (h : PlI w wr c r M v L) (hn : L.length ≤ n) (hn2 : n ≤ 900) (o : OpE) (hk : I64 o.key) (hwo : wo = wr.alloc (opB o)) :
    Calls Try.prog 19 #[ptr c, num o.key] wo fun q w5 => ∃ (E : Ent) (B : Bool), q = .returned (.tuple #[.agg #[num E.key, u64v E.val, .bool E.dirty], .bool B]) ∧ ∀ w6, w6 = w5.alloc (entO E) → w6.cell? ⟨wr.heap.size, 1, none⟩ = some (num o.key) ∧
      Calls Try.prog 20 #[ptr r, num o.key] w6 fun q w7 => q = .returned (.tuple #[.agg #[num E.key, u64v E.val, .bool E.dirty], .bool B]) ∧ ∀ w8, w8 = w7.alloc (entR E) → w8.heap[w5.heap.size]? = some (entO E) ∧ w8.heap[w7.heap.size]? = some (entR E) ∧ PlN w w8 c r M (n + 1) := by
  have hd := h.cl.once
  have hO := h.start o hwo
  have hL := rest_len L o.key
  have hM := h.len
  refine (hO.drop hk).mono ?_
  rintro q w5 ⟨rfl, hO5⟩
  refine ⟨_, _, rfl, fun w6 hw6 => ?_⟩
  have g6 : w5.grownBy w6 none := by rw [hw6]; exact World.grownBy_alloc w5 _ none
  have hO6 := hO5.grown g6
  have x6 : w6.heap[w5.heap.size]? = some (entO (dropE L o.key)) := by rw [hw6]; exact heap_alloc_new w5 _
  obtain ⟨z0, z1, z2, z3, z4⟩ := hO6.cells
  refine ⟨z1, (hO6.kdrop (by omega) hd).mono ?_⟩
  rintro q w7 ⟨rfl, ⟨v', hO7⟩, hs7⟩
  refine ⟨rfl, fun w8 hw8 => ?_⟩
  have g8 : w7.grownBy w8 none := by rw [hw8]; exact World.grownBy_alloc w7 _ none
  have hr := lt_of_heap hO5.ref.box
  have x7 := hs7.obj (by omega) x6
  exact ⟨(g8.block _ (lt_of_heap x7) (by simp)).trans x7, by rw [hw8]; exact heap_alloc_new w7 _, v', _, (hO7.grown g8).back (by omega), by omega⟩
theorem PlI.gets {w wr wo : World} {c r n : Nat} {M : Int} {v : Value} {L : List Ent} (h : PlI w wr c r M v L) (hn : L.length ≤ n) (hn2 : n ≤ 900) (o : OpE) (hk : I64 o.key) (hwo : wo = wr.alloc (opB o)) :
    Calls Try.prog 14 #[ptr c, num o.key] wo fun q w5 => ∃ (V : Int) (B : Bool), q = .returned (.tuple #[u64v V, .bool B]) ∧ w5.cell? ⟨wr.heap.size, 1, none⟩ = some (num o.key) ∧
      Calls Try.prog 15 #[ptr r, num o.key] w5 fun q w7 => q = .returned (.tuple #[u64v V, .bool B]) ∧ PlN w w7 c r M (n + 1) := by
  have hd := h.cl.once
  have hO := h.start o hwo
  have hL := getL_len L o.key
  have hM := h.len
  refine (hO.get hk).mono ?_
  rintro q w5 ⟨rfl, hO5⟩
  obtain ⟨z0, z1, z2, z3, z4⟩ := hO5.cells
  refine ⟨_, _, rfl, z1, (hO5.kget (by omega) hd).mono ?_⟩
  rintro q w7 ⟨rfl, ⟨v', hO7⟩, _⟩
  exact ⟨rfl, v', _, hO7.back (by omega), by omega⟩
theorem PlI.cleans {w wr wo : World} {c r n : Nat} {M : Int} {v : Value} {L : List Ent} (h : PlI w wr c r M v L) (hn : L.length ≤ n) (hn2 : n ≤ 900) (o : OpE) (hwo : wo = wr.alloc (opB o)) {w' : World} (hg : wo.grownBy w' none) :
    Calls Try.prog 17 #[ptr c, num o.key, num o.to] w' fun q w5 => ∃ va, q = .returned va ∧ (w5.cell? ⟨wr.heap.size, 1, none⟩ = some (num o.key) ∧ w5.cell? ⟨wr.heap.size, 2, none⟩ = some (num o.to)) ∧ ∀ w1, w5.grownBy w1 none → Calls Try.prog 18 #[ptr r, num o.key, num o.to] w1 fun q w6 => ∃ vb, q = .returned vb ∧ (w6.cell? ⟨wr.heap.size, 1, none⟩ = some (num o.key) ∧ w6.cell? ⟨wr.heap.size, 2, none⟩ = some (num o.to)) ∧
      ∀ w3, w6.grownBy w3 none → Calls Try.prog 16 #[va, vb] w3 fun e w4 => e = .returned (.bool true) ∧ PlN w w4 c r M (n + 1) ∧ (w4.cell? ⟨wr.heap.size, 1, none⟩ = some (num o.key) ∧ w4.cell? ⟨wr.heap.size, 2, none⟩ = some (num o.to)) := by
  have hO := (h.start o hwo).grown hg
  have hM := h.len
  refine (hO.clean (by omega) o.key o.to).mono ?_
  rintro q w5 ⟨va, rfl, hO5, hF⟩
  obtain ⟨z0, z1, z2, z3, z4⟩ := hO5.cells
  refine ⟨va, rfl, ⟨z1, z2⟩, fun w1 hg1 => (hF w1 hg1).mono ?_⟩
  rintro q w6 ⟨vb, rfl, hO6, hF6⟩
  obtain ⟨u0, u1, u2, u3, u4⟩ := hO6.cells
  refine ⟨vb, rfl, ⟨u1, u2⟩, fun w3 hg3 => (hF6 w3 hg3).mono ?_⟩
  rintro q w4 ⟨rfl, hg4⟩
  have hO4 := (hO6.grown hg3).grown hg4
  obtain ⟨b0, b1, b2, b3, b4⟩ := hO4.cells
  exact ⟨rfl, ⟨v, _, hO4.back (by simpa using hM), by simp; omega⟩, b1, b2⟩
end Lr
end Go.Proofs.Ytlgomaohfhgkpaa
