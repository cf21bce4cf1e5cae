/- Layer 10 (lru): the statement's same, rows. -/
import Derived.Test.YtlgomaohfhgkpaaKd
import Derived.Test.YtlgomaohfhgkpaaLq
import Derived.BigQuiet
namespace Go.Proofs.Ytlgomaohfhgkpaa
open Go.RowKit Go.Maps Go.Shelf
namespace Lr
theorem same_ok (x : Ent) (w : World) : Calls Try.prog 13 #[.agg #[num x.key, u64v x.val, .bool x.dirty], .agg #[num x.key, u64v x.val, .bool x.dirty]] w fun e w' => e = .returned (.bool true) ∧ w.grownBy w' none := by
  obtain ⟨wA, hwA⟩ : ∃ wA, wA = w.alloc (entO x) := ⟨_, rfl⟩
  have gA : w.grownBy wA none := by rw [hwA]; exact World.grownBy_alloc w _ none
  have hA : wA.heap[w.heap.size]? = some (entO x) := by rw [hwA]; exact heap_alloc_new w _
  obtain ⟨wB, hwB⟩ : ∃ wB, wB = wA.alloc (entR x) := ⟨_, rfl⟩
  have gB : wA.grownBy wB none := by rw [hwB]; exact World.grownBy_alloc wA _ none
  have hB : wB.heap[wA.heap.size]? = some (entR x) := by rw [hwB]; exact heap_alloc_new wA _
  have hA2 := (gB.block _ (lt_of_heap hA) (by simp)).trans hA
  obtain ⟨x0, x1, x2⟩ := cells3 hA2
  obtain ⟨y0, y1, y2⟩ := cells3R hB
  have HG := hide (grownBy_trans gA gB)
  have HwA : Hid (wA = w.alloc (.cells #[num x.key, u64v x.val, .bool x.dirty] 37)) := hwA
  have HwB : Hid (wB = wA.alloc (.cells #[num x.key, u64v x.val, .bool x.dirty] 40)) := hwB
  clear hA hB hA2 gA gB hwA hwB
  generalize x.key = k at *
  generalize x.val = u at *
  generalize x.dirty = d at *
  go_enter Try.func13, Try.ntmps13
  go_wp2_with (first | rw [← HwA.out] | rw [← HwB.out])
  go_ret
  exact ⟨ret_bool (by simp), HG.out⟩
theorem rows_ok {w : World} {base base' : Nat} {va vb : Value} {X : List Ent} (ha : w.ownsRow base 37 3 va X.length (entC X)) (hb : w.ownsRow base' 40 3 vb X.length (entC X)) (hl : X.length ≤ 1000000) :
    Calls Try.prog 16 #[va, vb] w fun e w' => e = .returned (.bool true) ∧ w.grownBy w' none := by
  have hn := hnot
  obtain ⟨q, cq, rfl, hlq, hfq⟩ := rowR_form hb
  have hA : ∃ p cp, va = .slice p X.length cp ∧ X.length ≤ cp ∧ ∀ k (hk : k < X.length), ∃ g, p = some ⟨g, 0, none⟩ ∧ w.cell? ⟨g, k * 3, none⟩ = some (num X[k].key) ∧ w.cell? ⟨g, k * 3 + 1, none⟩ = some (u64v X[k].val) ∧ w.cell? ⟨g, k * 3 + 2, none⟩ = some (.bool X[k].dirty) := by
    rcases ha.2 with ⟨e, h0⟩ | ⟨g, cap, cur, e, _, hg, hle, _⟩
    · exact ⟨none, 0, by rw [e, h0], by omega, fun k hk => by omega⟩
    · refine ⟨_, cap, e, hle, fun k hk => ⟨g, rfl, ?_⟩⟩
      obtain ⟨x0, x1, x2⟩ := entC_cells hk
      have hc := fun j u hu => ha.cells (g := g) (by rw [e]; rfl) j u hu
      refine ⟨?_, ?_, ?_⟩
      · have := hc _ _ x0; rwa [addr_add', Nat.zero_add] at this
      · have := hc _ _ x1; rwa [addr_add', Nat.zero_add] at this
      · have := hc _ _ x2; rwa [addr_add', Nat.zero_add] at this
  obtain ⟨p, cp, rfl, hlp, hfp⟩ := hA
  have HQ : Hid (∀ k (hk : k < X.length), ∃ g, q = some ⟨g, 0, none⟩ ∧ w.cell? ⟨g, k * 3, none⟩ = some (num X[k].key) ∧ w.cell? ⟨g, k * 3 + 1, none⟩ = some (u64v X[k].val) ∧ w.cell? ⟨g, k * 3 + 2, none⟩ = some (.bool X[k].dirty)) := hide fun k hk => by
    rcases hfq with ⟨_, e⟩ | ⟨g, e, _, _, hc⟩
    · rw [e] at hk; simp at hk
    · obtain ⟨x0, x1, x2⟩ := entC_cells hk
      exact ⟨g, e, hc _ _ x0, hc _ _ x1, hc _ _ x2⟩
  have HP := hide hfp
  obtain ⟨n, hnX⟩ : ∃ n, n = X.length := ⟨_, rfl⟩
  rw [← hnX] at hlq hlp hl ⊢
  have HN := hide hnX
  have nn : ((n : Int) != (n : Int)) = false := by simp
  clear ha hb hfq hfp hnX
  go_enter Try.func16, Try.ntmps16
  go_wp2_with fail
  go_loopw [5] (fun iv wr => w.grownBy wr none ∧ ∃ i : Nat, i ≤ n ∧ iv = num i) (fun iv _ => n - (intOf iv).toNat)
  case atStart => exact ⟨grownBy_refl _ _, 0, by omega, rfl⟩
  case round =>
    obtain ⟨hg, i, hi, rfl⟩ := hrel
    by_cases hin : i < n
    · have p1 : (i : Int) < (n : Int) := by omega
      have hiX : i < X.length := by rw [← HN.out]; exact hin
      obtain ⟨ga, rfl, a0, a1, a2⟩ := HP.out i hiX
      obtain ⟨gb, rfl, b0, b1, b2⟩ := HQ.out i hiX
      obtain ⟨e, he⟩ : ∃ e, e = X[i] := ⟨_, rfl⟩
      rw [← he] at a0 a1 a2 b0 b1 b2
      have HK : Hid (∀ w', w.grownBy w' none → w'.cell? ⟨ga, i * 3, none⟩ = some (num e.key) ∧ w'.cell? ⟨ga, i * 3 + 1, none⟩ = some (u64v e.val) ∧ w'.cell? ⟨ga, i * 3 + 2, none⟩ = some (.bool e.dirty) ∧ w'.cell? ⟨gb, i * 3, none⟩ = some (num e.key) ∧ w'.cell? ⟨gb, i * 3 + 1, none⟩ = some (u64v e.val) ∧ w'.cell? ⟨gb, i * 3 + 2, none⟩ = some (.bool e.dirty)) := hide fun w' h => by
        have hga := h.block ga (lt_of_cell a0) (by simp)
        have hgb := h.block gb (lt_of_cell b0) (by simp)
        exact ⟨(cell_of_block hga).trans a0, (cell_of_block hga).trans a1, (cell_of_block hga).trans a2, (cell_of_block hgb).trans b0, (cell_of_block hgb).trans b1, (cell_of_block hgb).trans b2⟩
      have HS0 := hide (HK.out _ hg)
      have HS := hide (same_ok e)
      have HG := hide hg
      clear a0 a1 a2 b0 b1 b2 he hg hiX
      go_wp2_with fail
      go_region_held3 (fun w' => w'.cell? ⟨ga, i * 3, none⟩ = some (num e.key) ∧ w'.cell? ⟨ga, i * 3 + 1, none⟩ = some (u64v e.val) ∧ w'.cell? ⟨ga, i * 3 + 2, none⟩ = some (.bool e.dirty) ∧ w'.cell? ⟨gb, i * 3, none⟩ = some (num e.key) ∧ w'.cell? ⟨gb, i * 3 + 1, none⟩ = some (u64v e.val) ∧ w'.cell? ⟨gb, i * 3 + 2, none⟩ = some (.bool e.dirty)) (first | exact HS0.out | exact HK.out _ H5.out) (first | (go_at_call 13; refine (HS.out _).mono ?_; rintro r w5 ⟨rfl, h5⟩; have H5 : Hid (w.grownBy w5 none) := (by first | exact grownBy_trans HG.out h5 | exact grownBy_trans (grownBy_drew HG.out) h5); clear h5))
      all_goals
        go_wp2_with fail
        go_roundw
        case rel => exact ⟨H5.out, i + 1, by omega, by go_num⟩
        case measure => simp [intOf]; omega
    · obtain rfl : i = n := by omega
      have p1 : ¬ (i : Int) < (i : Int) := by omega
      go_wp2_with fail
      go_ret
      exact ⟨rfl, hg⟩
end Lr
end Go.Proofs.Ytlgomaohfhgkpaa
