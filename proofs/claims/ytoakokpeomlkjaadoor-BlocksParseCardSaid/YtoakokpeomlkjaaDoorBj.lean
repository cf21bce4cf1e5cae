/- Layer 7 (blocks): what pick, spread and cnt are worth. -/
import Derived.Test.YtoakokpeomlkjaaDoorBi
namespace Go.Proofs.YtoakokpeomlkjaaDoor
open Go.RowKit Go.Maps
namespace Bk
theorem pick_fold {m : Nat} (r : Nat → Blk) : ∀ (l : List (Fin m)) (acc : Option (Fin m)),
    (l.foldl (takeStep r) acc = none → acc = none ∧ ∀ y ∈ l, (r y.1).st ≠ 1) ∧
    (∀ x, l.foldl (takeStep r) acc = some x → (acc = some x ∨ x ∈ l ∧ (r x.1).st = 1) ∧ (∀ y ∈ l, (r y.1).st = 1 → (r x.1).er ≤ (r y.1).er) ∧ ∀ y, acc = some y → (r x.1).er ≤ (r y.1).er)
  | [], acc => ⟨fun h => ⟨h, fun _ h => absurd h List.not_mem_nil⟩, fun x h => ⟨.inl h, fun _ h => absurd h List.not_mem_nil, fun y hy => by
      rw [List.foldl_nil] at h; rw [h] at hy; cases hy; exact Nat.le_refl _⟩⟩
  | z :: l, acc => by
    rw [List.foldl_cons]
    obtain ⟨h1, h2⟩ := pick_fold r l (takeStep r acc z)
    by_cases hz : (r z.1).st = 1
    · cases acc with
      | none =>
        have e : takeStep r none z = some z := by unfold takeStep; rw [if_pos hz]
        rw [e] at h1 h2 ⊢
        refine ⟨fun h => absurd (h1 h).1 (by simp), fun x h => ?_⟩
        obtain ⟨a, b, c⟩ := h2 x h
        refine ⟨.inr ?_, fun y hy hs => ?_, fun y hy => by cases hy⟩
        · rcases a with a | a
          · cases a; exact ⟨List.mem_cons_self, hz⟩
          · exact ⟨List.mem_cons_of_mem _ a.1, a.2⟩
        · rcases List.mem_cons.1 hy with rfl | hy
          · exact c _ rfl
          · exact b y hy hs
      | some u =>
        by_cases hlt : (r z.1).er < (r u.1).er
        · have e : takeStep r (some u) z = some z := by unfold takeStep; rw [if_pos hz]; simp [hlt]
          rw [e] at h1 h2 ⊢
          refine ⟨fun h => absurd (h1 h).1 (by simp), fun x h => ?_⟩
          obtain ⟨a, b, c⟩ := h2 x h
          refine ⟨.inr ?_, fun y hy hs => ?_, fun y hy => ?_⟩
          · rcases a with a | a
            · cases a; exact ⟨List.mem_cons_self, hz⟩
            · exact ⟨List.mem_cons_of_mem _ a.1, a.2⟩
          · rcases List.mem_cons.1 hy with rfl | hy
            · exact c _ rfl
            · exact b y hy hs
          · cases hy
            have := c z rfl
            omega
        · have e : takeStep r (some u) z = some u := by unfold takeStep; rw [if_pos hz]; simp [hlt]
          rw [e] at h1 h2 ⊢
          refine ⟨fun h => absurd (h1 h).1 (by simp), fun x h => ?_⟩
          obtain ⟨a, b, c⟩ := h2 x h
          refine ⟨?_, fun y hy hs => ?_, c⟩
          · rcases a with a | a
            · exact .inl a
            · exact .inr ⟨List.mem_cons_of_mem _ a.1, a.2⟩
          · rcases List.mem_cons.1 hy with rfl | hy
            · have := c u rfl
              omega
            · exact b y hy hs
    · have e : takeStep r acc z = acc := by unfold takeStep; rw [if_neg hz]
      rw [e] at h1 h2 ⊢
      refine ⟨fun h => ⟨(h1 h).1, fun y hy => ?_⟩, fun x h => ?_⟩
      · rcases List.mem_cons.1 hy with rfl | hy
        · exact hz
        · exact (h1 h).2 y hy
      · obtain ⟨a, b, c⟩ := h2 x h
        refine ⟨?_, fun y hy hs => ?_, c⟩
        · rcases a with a | a
          · exact .inl a
          · exact .inr ⟨List.mem_cons_of_mem _ a.1, a.2⟩
        · rcases List.mem_cons.1 hy with rfl | hy
          · exact absurd hs hz
          · exact b y hy hs
theorem pick_none {r : Nat → Blk} {m : Nat} (h : pick r m = none) : ∀ k, k < m → (r k).st ≠ 1 := fun k hk => ((pick_fold r (List.finRange m) none).1 h).2 ⟨k, hk⟩ (List.mem_finRange _)
theorem pick_some {r : Nat → Blk} {m : Nat} {x : Fin m} (h : pick r m = some x) : (r x.1).st = 1 ∧ ∀ k, k < m → (r k).st = 1 → (r x.1).er ≤ (r k).er := by
  obtain ⟨a, b, _⟩ := (pick_fold r (List.finRange m) none).2 x h
  refine ⟨?_, fun k hk hs => b ⟨k, hk⟩ (List.mem_finRange _) hs⟩
  rcases a with a | a
  · cases a
  · exact a.2
theorem spL_between {m : Nat} {r : Nat → Blk} {c : Nat} (hc : c ≤ 4294967295) (h : ∀ k, k < m → (r k).st ≠ 4 → c ≤ (r k).er ∧ (r k).er ≤ c + 1) : ∀ pre : List (Fin m), c ≤ (spL r pre).1 ∧ (spL r pre).2 ≤ c + 1 := by
  intro pre
  unfold spL
  have H : ∀ (l : List (Fin m)) (a : Nat × Nat), c ≤ a.1 ∧ a.2 ≤ c + 1 → c ≤ (l.foldl (spStep r) a).1 ∧ (l.foldl (spStep r) a).2 ≤ c + 1 := by
    intro l
    induction l with
    | nil => intro a ha; exact ha
    | cons z l ih =>
      intro a ha
      rw [List.foldl_cons]
      apply ih
      unfold spStep
      split
      · rename_i hz
        obtain ⟨h1, h2⟩ := h z.1 z.2 hz
        simp only
        omega
      · exact ha
  exact H pre _ ⟨hc, Nat.zero_le _⟩
theorem spread_le {m : Nat} {r : Nat → Blk} {c : Nat} (hc : c ≤ 4294967295) (h : ∀ k, k < m → (r k).st ≠ 4 → c ≤ (r k).er ∧ (r k).er ≤ c + 1) : spread r m ≤ 1 := by
  obtain ⟨h1, h2⟩ := spL_between hc h (List.finRange m)
  unfold spread
  split <;> omega
theorem cnt_all {m : Nat} {r : Nat → Blk} {s : Int} (h : ∀ k, k < m → (r k).st = s) : cnt r m s = m := by
  unfold cnt cntL
  rw [List.filter_eq_self.2 (fun x _ => by simp [h x.1 x.2])]
  simp
/-- Erases that differ by one at most, all blocks free. -/
def Even (r : Nat → Blk) (m c : Nat) : Prop := ∀ k, k < m → (r k).st = 1 ∧ c ≤ (r k).er ∧ (r k).er ≤ c + 1
theorem Even.spread {r : Nat → Blk} {m c : Nat} (h : Even r m c) (hc : c ≤ 4294967295) : spread r m ≤ 1 := spread_le hc fun k hk _ => (h k hk).2
theorem Even.cnt {r : Nat → Blk} {m c : Nat} (h : Even r m c) : cnt r m 1 = m := cnt_all fun k hk => (h k hk).1
theorem Even.pick {r : Nat → Blk} {m c : Nat} (h : Even r m c) (hm : 1 ≤ m) : ∃ x, pick r m = some x := by
  cases e : Bk.pick r m with
  | some x => exact ⟨x, rfl⟩
  | none => exact absurd (h 0 (by omega)).1 (pick_none e 0 (by omega))
/-- One round: the block that was taken has an erase more. -/
theorem Even.round {r r' : Nat → Blk} {m c : Nat} (h : Even r m c) {x : Fin m} (hx : Bk.pick r m = some x) (hs : (r' x.1).st = 1) (he : (r' x.1).er = (r x.1).er + 1) (ho : ∀ k, k ≠ x.1 → r' k = r k) : ∃ c', c' ≤ c + 1 ∧ Even r' m c' := by
  obtain ⟨h1, h2⟩ := pick_some hx
  have hxx := h x.1 x.2
  by_cases e : (r x.1).er = c
  · refine ⟨c, by omega, fun k hk => ?_⟩
    by_cases ek : k = x.1
    · subst ek; exact ⟨hs, by omega, by omega⟩
    · rw [ho k ek]; exact h k hk
  · refine ⟨c + 1, Nat.le_refl _, fun k hk => ?_⟩
    by_cases ek : k = x.1
    · subst ek; exact ⟨hs, by omega, by omega⟩
    · rw [ho k ek]
      obtain ⟨a, b, d⟩ := h k hk
      have := h2 k hk a
      exact ⟨a, by omega, by omega⟩
end Bk
end Go.Proofs.YtoakokpeomlkjaaDoor
