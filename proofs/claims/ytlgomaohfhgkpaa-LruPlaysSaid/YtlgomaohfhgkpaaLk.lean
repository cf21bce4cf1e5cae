/- Layer 10 (lru): New; the statements' own words. -/
import Derived.Test.YtlgomaohfhgkpaaLj
import Derived.Carry
namespace Go.Proofs.Ytlgomaohfhgkpaa
open Go.RowKit Go.Maps
namespace Lr
theorem New_no (most : Int) (h : most < 1) (w : World) : Calls Try.prog 9 #[num most] w fun r w' => r = .returned (.tuple #[nil0, num 1]) ∧ w' = w := by
  go_enter Try.func9, Try.ntmps9
  go_wp2_with fail
  go_ret2
  exact ⟨rfl, rfl⟩
def NewPost (w : World) (most : Int) (r : Ending) (w' : World) : Prop :=
  ∃ c, w.heap.size ≤ c ∧ r = .returned (.tuple #[ptr c, num 0]) ∧ w.grownBy w' none ∧ ∀ S : Nat → Prop, (∀ g, w.heap.size ≤ g → S g) → CL w' c most S []
set_option maxRecDepth 8000 in
theorem New_ok (most : Int) (h : 1 ≤ most) (w : World) : Calls Try.prog 9 #[num most] w (NewPost w most) := by
  obtain ⟨w1, hw1⟩ : ∃ w1, w1 = w.alloc (.map #[] 0) := ⟨_, rfl⟩
  have hs1 : w1.heap.size = w.heap.size + 1 := by rw [hw1]; simp
  have H1 := hide (newRing_ok w1)
  have HP : Hid (∀ w2, w2 = w1.alloc (.cells #[num 0, u64v 0, .bool false, ptr w1.heap.size, ptr w1.heap.size] 68) → ∀ w3, w3 = w2.alloc (.cells #[num most, .map (some w.heap.size), ptr w1.heap.size] 65) → NewPost w most (.returned (.tuple #[ptr w2.heap.size, num 0])) w3) := fun w2 hw2 w3 hw3 => by
    have g1 : w.grownBy w1 none := by rw [hw1]; exact World.grownBy_alloc w _ none
    have g2 : w1.grownBy w2 none := by rw [hw2]; exact World.grownBy_alloc w1 _ none
    have g3 : w2.grownBy w3 none := by rw [hw3]; exact World.grownBy_alloc w2 _ none
    have hs2 : w2.heap.size = w1.heap.size + 1 := by rw [hw2]; simp
    have m1 : MapM w1 w.heap.size (fun _ => none) 0 := by rw [hw1]; exact map_made w
    have l2 : LinkM w2 w1.heap.size zeroE w1.heap.size w1.heap.size := by rw [hw2]; exact heap_alloc_new w1 _
    have b3 : w3.heap[w2.heap.size]? = some (.cells #[num most, .map (some w.heap.size), ptr w1.heap.size] 65) := by rw [hw3]; exact heap_alloc_new w2 _
    have g23 := grownBy_trans g2 g3
    refine ⟨w2.heap.size, by omega, rfl, grownBy_trans g1 g23, fun S hU => ⟨w.heap.size, w1.heap.size, [], fun _ => zeroE, fun _ => w1.heap.size, fun _ => w1.heap.size, fun _ => none,
      ⟨b3, m1.of_heap (g23.block _ m1.lt (by simp)), fun b hb => ?_, ⟨rfl, rfl⟩, (by simp), (fun k b => by simp), (fun b hb => by cases hb), (by simp; omega), (by simp; omega), (by omega)⟩, rfl, hU _ (by omega), fun b hb => ?_⟩⟩
    · obtain rfl := List.mem_singleton.1 hb
      exact l2.of_heap (g3.block _ l2.lt (by simp))
    · simp only [List.mem_cons, List.not_mem_nil, or_false] at hb
      rcases hb with rfl | rfl
      · exact hU _ (by omega)
      · exact hU _ (by omega)
  have hw := hide hw1
  have hmm := @run_makeMap Try.prog
  clear hw1 hs1
  go_enter Try.func9, Try.ntmps9
  go_wp2_with (first | rw [← hw.out])
  refine H1.out.mono ?_
  rintro r w2 ⟨rfl, hw2⟩
  have HP2 := hide (HP.out w2 hw2)
  clear H1 HP hw2
  go_wp2_with fail
  go_ret2
  exact HP2.out _ rfl
def aggE (x : Ent) : Value := .agg #[num x.key, u64v x.val, .bool x.dirty]
/-- Put, as a walk wants it. -/
theorem Put_at {w : World} {c : Nat} {most : Int} {S : Nat → Prop} {L L' : List Ent} (h : CL w c most S L) (h1 : 1 ≤ most) (hU : ∀ g, w.heap.size ≤ g → S g) {x g : Ent} {b : Bool} (hx : I64 x.key) (hl : L.length ≤ 1000000) (hE : putE most x L = g) (hB : putB most x L = b) (hL : putL most x L = L') :
    Calls Try.prog 11 #[ptr c, .agg #[num x.key, u64v x.val, .bool x.dirty]] w fun r w' => r = .returned (.tuple #[.agg #[num g.key, u64v g.val, .bool g.dirty], .bool b]) ∧ CL w' c most S L' ∧ Stp S w w' := by
  subst hE hB hL
  exact Put_ok h h1 hU hx hl
theorem Get_at {w : World} {c : Nat} {most : Int} {S : Nat → Prop} {L L' : List Ent} (h : CL w c most S L) {k v : Int} {b : Bool} (hk : I64 k) (hV : getV L k = v) (hB : (look L k).isSome = b) (hL : getL L k = L') :
    Calls Try.prog 14 #[ptr c, num k] w fun r w' => r = .returned (.tuple #[u64v v, .bool b]) ∧ CL w' c most S L' ∧ Stp S w w' := by
  subst hV hB hL
  exact Get_ok h hk
theorem Stp.within {S : Nat → Prop} {a b : World} (h : Stp S a b) {B : Nat} (hB : B ≤ a.heap.size) (hS : ∀ g, S g → B ≤ g) : Below B a b := h.below hB hS
theorem Stp.back {S : Nat → Prop} {w a b : World} (h : w.grownBy a none) (s : Stp S a b) (hS : ∀ g, S g → w.heap.size ≤ g) : w.grownBy b none :=
  ⟨s.os.trans h.os, s.tape.trans h.tape, s.output.trans h.output, Nat.le_trans h.size s.size, fun g hg _ => (s.same g (Nat.lt_of_lt_of_le hg h.size) (fun k => by have := hS g k; omega)).trans (h.block g hg (by simp))⟩
abbrev From (w : World) : Nat → Prop := fun g => w.heap.size ≤ g
theorem from_new {w a : World} (h : w.grownBy a none) : ∀ g, a.heap.size ≤ g → From w g := fun _ hg => Nat.le_trans h.size hg
set_option maxRecDepth 8000 in
set_option maxHeartbeats 3200000 in
theorem awake_ok (w : World) : Calls Try.prog 8 #[] w fun r w' => r = .returned (.bool true) ∧ w.grownBy w' none := by
  go_enter Try.func8, Try.ntmps8
  go_wp2_with fail
  refine (New_ok 2 (by decide) w).mono ?_
  rintro r w1 ⟨c, _, rfl, hg1, hN⟩
  have hC1 := hN (From w) (fun _ h => h)
  have H1 := hide (Put_at hC1 (by decide) (from_new hg1) (x := ⟨1, 5, false⟩) ⟨by decide, by decide⟩ (by decide) rfl rfl rfl)
  have Hg1 := hide hg1
  clear hN hC1 hg1
  go_wp2_with fail
  refine H1.out.mono ?_
  rintro r w2 ⟨rfl, hC2, hs2⟩
  have hg2 := hs2.back Hg1.out (fun _ h => h)
  have H2 := hide (Put_at hC2 (by decide) (from_new hg2) (x := ⟨2, 0, false⟩) ⟨by decide, by decide⟩ (by decide) rfl rfl rfl)
  have Hg2 := hide hg2
  clear hC2 hs2 hg2 H1 Hg1
  go_wp2_with fail
  refine H2.out.mono ?_
  rintro r w3 ⟨rfl, hC3, hs3⟩
  have hg3 := hs3.back Hg2.out (fun _ h => h)
  have H3 := hide (Get_at hC3 (k := 1) (v := 5) (b := true) ⟨by decide, by decide⟩ rfl rfl rfl)
  have Hg3 := hide hg3
  clear hC3 hs3 hg3 H2 Hg2
  go_wp2_with fail
  refine H3.out.mono ?_
  rintro r w4 ⟨rfl, hC4, hs4⟩
  have hg4 := hs4.back Hg3.out (fun _ h => h)
  have H4 := hide (Put_at hC4 (by decide) (from_new hg4) (x := ⟨3, 0, false⟩) (g := ⟨2, 0, false⟩) (b := true) (L' := [⟨3, 0, false⟩, ⟨1, 5, false⟩]) ⟨by decide, by decide⟩ (by decide) rfl rfl rfl)
  have Hg4 := hide hg4
  clear hC4 hs4 hg4 H3 Hg3
  go_wp2_with fail
  refine H4.out.mono ?_
  rintro r w5 ⟨rfl, hC5, hs5⟩
  have hg5 := hs5.back Hg4.out (fun _ h => h)
  have H5 : Hid (∀ w6, w5.grownBy w6 none → Calls Try.prog 21 #[ptr c] w6 fun r w' => r = .returned (num 2) ∧ w' = w6) := fun w6 h6 => Len_ok (hC5.grown h6)
  have Hg5 := hide hg5
  clear hC5 hs5 hg5 H4 Hg4
  go_wp2_with fail
  refine (H5.out _ (World.grownBy_alloc _ _ none)).mono ?_
  rintro r w6 ⟨rfl, rfl⟩
  have Hg6 := hide (grownBy_alloc' Hg5.out (.cells #[num 2, u64v 0, .bool false] 37))
  go_wp2_with fail
  go_ret
  exact ⟨rfl, Hg6.out⟩
def absI (n : Int) : Int := if n < 0 then -(n + 1) else n
theorem absI_ge (n : Int) : 0 ≤ absI n := by unfold absI; split <;> omega
theorem absI_le {n : Int} (h : I64 n) : absI n ≤ 9223372036854775807 := by have h1 := h.1; have h2 := h.2; unfold absI; split <;> omega
theorem abs_ok {n : Int} (h : I64 n) (w : World) : Calls Try.prog 10 #[num n] w fun r w' => r = .returned (num (absI n)) ∧ w' = w := by
  have h1 := h.1
  have h2 := h.2
  by_cases hn : n < 0
  · have e : IntKind.i64.wrap (n + 1) = n + 1 := by rw [IntKind.wrap_i64]; omega
    have e2 : IntKind.i64.wrap (-(n + 1)) = -(n + 1) := by rw [IntKind.wrap_i64]; omega
    rw [absI, if_pos hn]
    go_enter Try.func10, Try.ntmps10
    go_wp2_with fail
    go_ret
    exact ⟨ret_int (by omega), rfl⟩
  · rw [absI, if_neg hn]
    go_enter Try.func10, Try.ntmps10
    go_wp2_with fail
    go_ret
    exact ⟨rfl, rfl⟩
end Lr
end Go.Proofs.Ytlgomaohfhgkpaa
