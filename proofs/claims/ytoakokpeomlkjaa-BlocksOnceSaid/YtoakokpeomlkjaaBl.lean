/- Layer 7 (blocks): maps of blocks; how many blocks are in a state, when one is turned; an argument that is a row of numbers. -/
import Derived.Test.YtoakokpeomlkjaaBj
namespace Go.Proofs.Ytoakokpeomlkjaa
open Go.ChangeShapes Go.WideShapes Go.ChangeAt Go.RowKit Go.Maps
namespace Bk
theorem cntL_upd {m : Nat} {r r' : Nat → Blk} {s : Int} {x : Fin m} (ho : ∀ k, k ≠ x.1 → r' k = r k) : ∀ l : List (Fin m), l.Nodup →
    cntL r' s l + (if x ∈ l ∧ (r x.1).st = s then 1 else 0) = cntL r s l + (if x ∈ l ∧ (r' x.1).st = s then 1 else 0) := by
  intro l
  induction l with
  | nil => intro _; simp [cntL]
  | cons z l ih =>
    intro hn
    obtain ⟨hz, hl⟩ := List.nodup_cons.1 hn
    have ih := ih hl
    have e : ∀ q : Nat → Blk, cntL q s (z :: l) = (if (q z.1).st = s then 1 else 0) + cntL q s l := fun q => by
      unfold cntL
      by_cases h : (q z.1).st = s <;> simp [h] <;> omega
    rw [e, e]
    by_cases hzx : z = x
    · subst hzx
      simp only [hz, false_and, if_false, Nat.add_zero] at ih
      simp only [List.mem_cons, true_or, true_and]
      omega
    · have hzv : z.1 ≠ x.1 := fun h => hzx (Fin.ext h)
      rw [ho z.1 hzv]
      have hm : (x ∈ z :: l) ↔ x ∈ l := by
        rw [List.mem_cons]
        exact ⟨fun h => h.resolve_left fun h => hzx h.symm, .inr⟩
      simp only [hm]
      omega
theorem cnt_upd {m : Nat} {r r' : Nat → Blk} {s : Int} {x : Nat} (hx : x < m) (ho : ∀ k, k ≠ x → r' k = r k) : cnt r' m s + (if (r x).st = s then 1 else 0) = cnt r m s + (if (r' x).st = s then 1 else 0) := by
  have := cntL_upd (s := s) (x := ⟨x, hx⟩) ho (List.finRange m) (List.nodup_finRange m)
  simpa [cnt] using this
theorem cnt_three {m : Nat} {r : Nat → Blk} (h : ∀ k, k < m → (r k).st = 1 ∨ (r k).st = 2 ∨ (r k).st = 4) : cnt r m 1 + cnt r m 2 + cnt r m 4 = m := by
  have H : ∀ l : List (Fin m), cntL r 1 l + cntL r 2 l + cntL r 4 l = l.length := by
    intro l
    induction l with
    | nil => simp [cntL]
    | cons z l ih =>
      have e : ∀ s : Int, cntL r s (z :: l) = (if (r z.1).st = s then 1 else 0) + cntL r s l := fun s => by
        unfold cntL
        by_cases h : (r z.1).st = s <;> simp [h] <;> omega
      rw [e, e, e, List.length_cons]
      rcases h z.1 z.2 with h | h | h <;> rw [h] <;> simp <;> omega
  have := H (List.finRange m)
  simpa [cnt] using this
theorem cnt_le {m : Nat} {r : Nat → Blk} {s : Int} : cnt r m s ≤ m := by have := cntL_le r s (List.finRange m); simpa [cnt] using this
/-! ### Maps of blocks -/
theorem keyed3 : Keyed Try.prog 3 := int_keyed Try.underlying3
theorem zero3 (w : World) : (zeroValue 3).run Try.prog w = .ok (num 0) w := by kernel_rfl
/-- A map that holds the blocks in a state. -/
def SetM (w : World) (mp : Nat) (r : Nat → Blk) (m : Nat) (s : Int) (i : Nat) : Prop :=
  ∃ n DM, w.ownsMap Try.prog 3 (plainElem (H := Unit) Try.prog 3) mp n DM ∧ n ≤ i ∧ Maps.size DM = cnt r m s ∧ ∀ z, Maps.has DM (.int .i64 z) = true ↔ ∃ k : Nat, z = k ∧ k < m ∧ (r k).st = s
theorem SetM.kept {w w' : World} {mp : Nat} {r : Nat → Blk} {m : Nat} {s : Int} {i : Nat} (h : SetM w mp r m s i) (e : w'.heap[mp]? = w.heap[mp]?) : SetM w' mp r m s i := by
  obtain ⟨n, DM, ⟨es, clock, h1, h2, h3, h4⟩, h5⟩ := h
  exact ⟨n, DM, ⟨es, clock, e.trans h1, h2, h3, h4⟩, h5⟩
theorem SetM.lt {w : World} {mp : Nat} {r : Nat → Blk} {m : Nat} {s : Int} {i : Nat} (h : SetM w mp r m s i) : mp < w.heap.size := by
  obtain ⟨n, DM, ⟨es, clock, h1, _⟩, _⟩ := h
  exact lt_of_heap h1
theorem SetM.mono {w : World} {mp : Nat} {r : Nat → Blk} {m : Nat} {s : Int} {i j : Nat} (h : SetM w mp r m s i) (hij : i ≤ j) : SetM w mp r m s j := by
  obtain ⟨n, DM, h1, h2, h3⟩ := h
  exact ⟨n, DM, h1, by omega, h3⟩
/-- Another pool's, of which the same blocks are in that state. -/
theorem SetM.same {w : World} {mp : Nat} {r r' : Nat → Blk} {m : Nat} {s : Int} {i x : Nat} (h : SetM w mp r m s i) (hx : x < m) (ho : ∀ k, k ≠ x → r' k = r k) (hs : (r' x).st = s ↔ (r x).st = s) : SetM w mp r' m s i := by
  obtain ⟨n, DM, h1, h2, h3, h4⟩ := h
  refine ⟨n, DM, h1, h2, ?_, fun z => (h4 z).trans ⟨?_, ?_⟩⟩
  · have := cnt_upd (s := s) hx ho
    simp only [hs] at this
    omega
  · rintro ⟨k, e, hk, hks⟩
    refine ⟨k, e, hk, ?_⟩
    by_cases ek : k = x
    · subst ek; exact hs.2 hks
    · rw [ho k ek]; exact hks
  · rintro ⟨k, e, hk, hks⟩
    refine ⟨k, e, hk, ?_⟩
    by_cases ek : k = x
    · subst ek; exact hs.1 hks
    · rw [ho k ek] at hks; exact hks
theorem SetM.made (w : World) {r : Nat → Blk} {m : Nat} {s : Int} (h : ∀ k, k < m → (r k).st ≠ s) : SetM (w.alloc (.map #[] 0)) w.heap.size r m s 0 := by
  have h0 : (w.alloc (.map #[] 0)).ownsMap Try.prog 3 (plainElem (H := Unit) Try.prog 3) w.heap.size 0 (.map []) := World.ownsMap_made w Try.prog 3 _
  refine ⟨0, _, h0, Nat.le_refl _, ?_, fun z => ?_⟩
  · have : cnt r m s = 0 := by
      unfold cnt cntL
      rw [List.filter_eq_nil_iff.2 (fun x _ => by simpa using h x.1 x.2)]
      rfl
    rw [this]; rfl
  · constructor
    · intro hz; simp [Maps.has] at hz
    · rintro ⟨k, _, hk, hks⟩; exact absurd hks (h k hk)
theorem SetM.look {w : World} {mp : Nat} {r : Nat → Blk} {m : Nat} {s : Int} {i : Nat} (h : SetM w mp r m s i) {k : Nat} (hk : k < m) (hm : m ≤ 64) :
    ∃ v : Int, (Instr.lookup 34 (.map (some mp)) (num k) true).run Try.prog w = .ok (.tuple #[num v, .bool (decide ((r k).st = s))]) w := by
  obtain ⟨n, DM, hown, _, _, h2⟩ := h
  obtain ⟨v, ps, hrun, hv⟩ := hown.look_ok (t := 34) keyed3 Try.underlying34 (zero3 w) (plainElem_int Try.underlying3 (a := 0) (by decide)) (keyOf_int_mk Try.underlying3 (wf_i64 (x := (k : Int)) ⟨by omega, by omega⟩))
  obtain ⟨a, rfl, _, _⟩ := plainElem_int_inv Try.underlying3 hv
  refine ⟨a, ?_⟩
  rw [hrun]
  have e : Maps.has DM (.int .i64 (k : Int)) = decide ((r k).st = s) := by
    rw [Bool.eq_iff_iff, h2, decide_eq_true_iff]
    constructor
    · rintro ⟨j, e, hj, hjs⟩
      obtain rfl : k = j := by omega
      exact hjs
    · intro hs; exact ⟨k, rfl, hk, hs⟩
  rw [e]
theorem SetM.len {w : World} {mp : Nat} {r : Nat → Blk} {m : Nat} {s : Int} {i : Nat} (h : SetM w mp r m s i) (ty : TypeId) : (Builtin.len_ #[34] ty #[.map (some mp)]).run Try.prog w = .ok (num (cnt r m s)) w := by
  obtain ⟨n, DM, hown, _, h1, _⟩ := h
  rw [hown.len Try.underlying34 ty, h1]
theorem SetM.put {w : World} {mp : Nat} {r r' : Nat → Blk} {m : Nat} {s : Int} {i k : Nat} (h : SetM w mp r m s i) (hi : i ≤ 100000) (hk : k < m) (hm : m ≤ 64) (ho : ∀ j, j ≠ k → r' j = r j) (hs : (r' k).st = s) :
    ∃ w', (Instr.mapUpdate 34 (.map (some mp)) (num k) (num 1)).run Try.prog w = .ok () w' ∧ SetM w' mp r' m s (i + 1) ∧ w.grownBy w' (some mp) := by
  obtain ⟨n, DM, hown, hn, h1, h2⟩ := h
  obtain ⟨w', hrun, hown', ht⟩ := hown.store (t := 34) keyed3 Try.underlying34 (by unfold maxLen; omega) (keyOf_int_mk Try.underlying3 (wf_i64 (x := (k : Int)) ⟨by omega, by omega⟩)) (plainElem_int Try.underlying3 (a := 1) (by decide))
  refine ⟨w', hrun, ⟨n + 1, _, hown', by omega, ?_, fun z => ?_⟩, ht.grown⟩
  · rw [Maps.size_put (hown.tidy keyed3), h1]
    have hc := cnt_upd (s := s) hk ho
    rw [if_pos hs] at hc
    by_cases e : (r k).st = s
    · rw [if_pos e] at hc
      have : Maps.has DM (.int .i64 (k : Int)) = true := (h2 _).2 ⟨k, rfl, hk, e⟩
      rw [this]; simp; omega
    · rw [if_neg e] at hc
      have : Maps.has DM (.int .i64 (k : Int)) = false := by
        cases e3 : Maps.has DM (.int .i64 (k : Int)) with
        | false => rfl
        | true =>
          obtain ⟨j, ej, _, hjs⟩ := (h2 _).1 e3
          obtain rfl : k = j := by omega
          exact absurd hjs e
      rw [this]; simp; omega
  · by_cases e : z = k
    · subst e
      rw [has_put_same (k := .int .i64 (k : Int)) hown.isMap trivial]
      exact ⟨fun _ => ⟨k, rfl, hk, hs⟩, fun _ => rfl⟩
    · rw [has_put_other (fun e2 => e (by simpa using e2)), h2]
      constructor
      · rintro ⟨j, ej, hj, hjs⟩
        exact ⟨j, ej, hj, by rw [ho j (fun e' => e (by rw [ej, e']))]; exact hjs⟩
      · rintro ⟨j, ej, hj, hjs⟩
        exact ⟨j, ej, hj, by rw [ho j (fun e' => e (by rw [ej, e']))] at hjs; exact hjs⟩
theorem SetM.del {w : World} {mp : Nat} {r r' : Nat → Blk} {m : Nat} {s : Int} {i k : Nat} (h : SetM w mp r m s i) (hk : k < m) (hm : m ≤ 64) (ho : ∀ j, j ≠ k → r' j = r j) (hs : (r' k).st ≠ s) (ty : TypeId) :
    ∃ w', (Builtin.delete_ #[34, 3] ty #[.map (some mp), num k]).run Try.prog w = .ok (.tuple #[]) w' ∧ SetM w' mp r' m s i ∧ w.grownBy w' (some mp) := by
  obtain ⟨n, DM, hown, hn, h1, h2⟩ := h
  obtain ⟨w', hrun, hown', ht⟩ := hown.drop (t := 34) keyed3 Try.underlying34 (keyOf_int_mk Try.underlying3 (wf_i64 (x := (k : Int)) ⟨by omega, by omega⟩)) ty
  refine ⟨w', hrun, ⟨n, _, hown', hn, ?_, fun z => ?_⟩, ht.grown⟩
  · have hd := Maps.size_del (k := .int .i64 (k : Int)) (hown.tidy keyed3)
    have hc := cnt_upd (s := s) hk ho
    rw [if_neg hs] at hc
    by_cases e : (r k).st = s
    · rw [if_pos e] at hc
      have : Maps.has DM (.int .i64 (k : Int)) = true := (h2 _).2 ⟨k, rfl, hk, e⟩
      rw [this] at hd; simp at hd; omega
    · rw [if_neg e] at hc
      have : Maps.has DM (.int .i64 (k : Int)) = false := by
        cases e3 : Maps.has DM (.int .i64 (k : Int)) with
        | false => rfl
        | true =>
          obtain ⟨j, ej, _, hjs⟩ := (h2 _).1 e3
          obtain rfl : k = j := by omega
          exact absurd hjs e
      rw [this] at hd; simp at hd; omega
  · by_cases e : z = k
    · subst e
      rw [has_del_same]
      constructor
      · intro h; cases h
      · rintro ⟨j, ej, _, hjs⟩
        obtain rfl : k = j := by omega
        exact absurd hjs hs
    · rw [has_del_other (fun e2 => e (by simpa using e2)), h2]
      constructor
      · rintro ⟨j, ej, hj, hjs⟩
        exact ⟨j, ej, hj, by rw [ho j (fun e' => e (by rw [ej, e']))]; exact hjs⟩
      · rintro ⟨j, ej, hj, hjs⟩
        exact ⟨j, ej, hj, by rw [ho j (fun e' => e (by rw [ej, e']))] at hjs; exact hjs⟩
end Bk
end Go.Proofs.Ytoakokpeomlkjaa
