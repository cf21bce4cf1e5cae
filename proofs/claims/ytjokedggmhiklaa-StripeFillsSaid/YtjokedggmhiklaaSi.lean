/- Layer 6 (stripe): awake. -/
import Derived.Test.YtjokedggmhiklaaSh
namespace Go.Proofs.Ytjokedggmhiklaa
open Go.RowKit Go.Maps
namespace Sp
/-- Blocks laid one behind the other. -/
def allocs (w : World) : List Obj → World
  | [] => w
  | o :: r => allocs (w.alloc o) r
theorem allocs_grown : ∀ (os : List Obj) (w : World), w.grownBy (allocs w os) none
  | [], w => grownBy_refl w none
  | o :: r, w => grownBy_trans (World.grownBy_alloc w o none) (allocs_grown r _)
theorem allocs_at : ∀ (os : List Obj) (w : World) (i : Nat) {o : Obj}, os[i]? = some o → (allocs w os).heap[w.heap.size + i]? = some o
  | [], _, _, _, h => by simp at h
  | p :: r, w, 0, o, h => by
    simp at h
    subst h
    have h1 := heap_alloc_new w p
    exact ((allocs_grown r (w.alloc p)).block _ (lt_of_heap h1) (by simp)).trans h1
  | p :: r, w, i + 1, o, h => by
    have := allocs_at r (w.alloc p) i (by simpa using h)
    have e : (w.alloc p).heap.size + i = w.heap.size + (i + 1) := by simp; omega
    rwa [e] at this
/-- A leaf of one slot, one sector. -/
def leaf1 (s : Slot) (b : List Nat) : Leaf := ⟨1, fun _ => s, 1, fun _ => b⟩
abbrev slotC (s : Slot) : Array Value := #[q32 s.key, num s.state, q64 s.seq]
theorem leaf1_m {w : World} {K : Nat → Prop} {g1 g2 g3 : Nat} {s : Slot} {b : Nat} (hs : SlotI s) (hb : b ≤ 255) (h1 : w.heap[g1]? = some (.cells (slotC s) 53)) (h2 : w.heap[g2]? = some (.cells #[q8 b] 5)) (h3 : w.heap[g3]? = some (.cells #[sl0 g2 1] 49)) (k1 : K g1) (k2 : K g2) (k3 : K g3) :
    LeafM w K (sl0 g1 1) (sl0 g3 1) (leaf1 s [b]) := by
  refine ⟨⟨_, 1, rfl, Nat.le_refl _, by decide, .inr ⟨g1, 0, rfl, k1, fun k hk => ?_⟩⟩, ⟨_, 1, rfl, Nat.le_refl _, by decide, .inr ⟨g3, 0, rfl, k3, fun k hk => ?_⟩⟩, fun i _ => hs⟩
  · obtain rfl : k = 0 := by simp [leaf1] at hk; omega
    exact ⟨cell_at h1 rfl, cell_at h1 rfl, cell_at h1 rfl⟩
  · obtain rfl : k = 0 := by simp [leaf1] at hk; omega
    refine ⟨_, cell_at h3 rfl, fun i => ?_, some ⟨g2, 0, none⟩, 1, rfl, Nat.le_refl _, by decide, .inr ⟨g2, 0, rfl, k2, fun j hj => ?_⟩⟩
    · cases i with
      | zero => simpa [nth, leaf1] using hb
      | succ i => simp [nth, leaf1]
    · obtain rfl : j = 0 := by simp [leaf1] at hj; omega
      exact cell_at h2 rfl
def awS (i : Nat) : Leaf := if i = 0 then leaf1 ⟨5, 1, 1⟩ [97] else leaf1 ⟨3, 1, 3⟩ [98]
abbrev slotO (s : Slot) : Obj := .cells (slotC s) 53
abbrev byteO (b : Nat) : Obj := .cells #[q8 b] 5
abbrev secO (g : Nat) : Obj := .cells #[sl0 g 1] 49
def awL (B : Nat) : List Obj := [layL 1 1 1, slotO ⟨5, 1, 1⟩, byteO 97, secO (B + 2), leafL (sl0 (B + 1) 1) (sl0 (B + 3) 1), slotO ⟨3, 1, 3⟩, byteO 98, secO (B + 6), leafL (sl0 (B + 5) 1) (sl0 (B + 7) 1), .cells #[sl0 (B + 1) 1, sl0 (B + 3) 1, sl0 (B + 5) 1, sl0 (B + 7) 1] 32]
theorem aw_leaves (w : World) : LeavesM (allocs w (awL w.heap.size)) All (sl0 (w.heap.size + 9) 2) 2 awS := by
  have at_ := fun i {o} (h : (awL w.heap.size)[i]? = some o) => allocs_at (awL w.heap.size) w i h
  refine ⟨_, 2, rfl, Nat.le_refl _, by decide, .inr ⟨w.heap.size + 9, 0, rfl, trivial, fun k hk => ?_⟩⟩
  have : k = 0 ∨ k = 1 := by omega
  rcases this with rfl | rfl
  · exact ⟨sl0 (w.heap.size + 1) 1, sl0 (w.heap.size + 3) 1, cell_at (at_ 9 rfl) rfl, cell_at (at_ 9 rfl) rfl, leaf1_m ⟨by decide, ⟨by decide, by decide⟩, by decide⟩ (by decide) (at_ 1 rfl) (at_ 2 rfl) (at_ 3 rfl) trivial trivial trivial⟩
  · exact ⟨sl0 (w.heap.size + 5) 1, sl0 (w.heap.size + 7) 1, cell_at (at_ 9 rfl) rfl, cell_at (at_ 9 rfl) rfl, leaf1_m ⟨by decide, ⟨by decide, by decide⟩, by decide⟩ (by decide) (at_ 5 rfl) (at_ 6 rfl) (at_ 7 rfl) trivial trivial trivial⟩
theorem leaf1_may {s : Slot} {b : Nat} (h : SlotMay s) : May 1 1 (leaf1 s [b]) := ⟨rfl, rfl, fun _ _ => h, fun _ _ => .inr rfl⟩
theorem aw_good : Good 1 1 2 awS := ⟨⟨by decide, by decide, by decide, by decide⟩, fun a _ => by
  unfold awS
  split
  · exact leaf1_may ⟨by decide, by decide, by decide⟩
  · exact leaf1_may ⟨by decide, by decide, by decide⟩⟩
theorem aw_eq : LeafEq (sumS 1 1 2 awS) (leaf1 ⟨6, 0, 2⟩ [3]) :=
  ⟨rfl, rfl, fun i hi => by
    obtain rfl : i = 0 := by simp [sumS] at hi; omega
    rfl, fun i hi => by
    obtain rfl : i = 0 := by simp [sumS] at hi; omega
    exact ⟨rfl, by decide⟩⟩
theorem place14 : placeS 1 4 = 2 := by decide
set_option maxHeartbeats 3200000 in
set_option maxRecDepth 4000 in
theorem awake_ok (w : World) : Calls Try.prog 9 #[] w fun e w' => e = .returned (.bool true) ∧ w.grownBy w' none := by
  obtain ⟨W, hW⟩ : ∃ W, W = allocs w (awL w.heap.size) := ⟨_, rfl⟩
  have hgW : w.grownBy W none := by rw [hW]; exact allocs_grown _ _
  have HSum : Hid (Calls Try.prog 12 #[layV 1 1 1, sl0 (w.heap.size + 9) 2] W (SumPost W 1 1 2 awS)) := by
    rw [hW]; exact sum_ok (aw_leaves w) (by decide) 1 1 1
  have HPl := fun w => place_ok 1 4 (by decide) w
  rw [place14] at HPl
  have Hw : Hid _ := hW
  clear hW
  go_enter Try.func9, Try.ntmps9
  go_wp2_with fail
  change Calls Try.prog 12 #[layV 1 1 1, sl0 (w.heap.size + 9) 2] (allocs w (awL w.heap.size)) _
  rw [← Hw.out]
  refine HSum.out.mono ?_
  rintro e w1 hp
  obtain ⟨gs, gb, gk, rfl, hg1, hO⟩ : ∃ gs gb gk, e = .returned (.tuple #[.agg #[sl0 gs 1, sl0 gb 1], num 0]) ∧ W.grownBy w1 none ∧ OwnLeaf W.heap.size w1 1 1 gs gb gk (sumS 1 1 2 awS) := by
    rcases hp with ⟨_, h⟩ | ⟨h, _⟩
    · exact h
    · exact absurd aw_good h
  have hL := (hO.leaf (by decide) (by decide)).sub (K' := All) (fun _ _ => trivial)
  have hgw := grownBy_trans hgW hg1
  obtain ⟨V, hV⟩ : ∃ V, V = allocs w1 [leafL (sl0 gs 1) (sl0 gb 1), slotO ⟨6, 0, 2⟩, byteO 3, secO (w1.heap.size + 2)] := ⟨_, rfl⟩
  have hgV : w1.grownBy V none := by rw [hV]; exact allocs_grown _ _
  have hc0 : V.cell? ⟨w1.heap.size, 0, none⟩ = some (sl0 gs 1) := by rw [hV]; exact cell_at (allocs_at _ w1 0 rfl) rfl
  have hc1 : V.cell? ⟨w1.heap.size, 1, none⟩ = some (sl0 gb 1) := by rw [hV]; exact cell_at (allocs_at _ w1 0 rfl) rfl
  have hY : LeafM V All (sl0 (w1.heap.size + 1) 1) (sl0 (w1.heap.size + 3) 1) (leaf1 ⟨6, 0, 2⟩ [3]) := by
    rw [hV]
    exact leaf1_m ⟨by decide, ⟨by decide, by decide⟩, by decide⟩ (by decide) (allocs_at _ w1 1 rfl) (allocs_at _ w1 2 rfl) (allocs_at _ w1 3 rfl) trivial trivial trivial
  have HSame : Hid (Calls Try.prog 16 #[.agg #[sl0 gs 1, sl0 gb 1], .agg #[sl0 (w1.heap.size + 1) 1, sl0 (w1.heap.size + 3) 1]] V fun e w' => e = .returned (.bool true) ∧ V.grownBy w' none) := same_ok (hL.more hgV) hY aw_eq
  have HG : Hid (w.grownBy V none) := grownBy_trans hgw hgV
  have Hv : Hid _ := hV
  clear hp HSum hgw hgV hc0 hc1 hY hL hO hV hg1 hgW
  go_wp2_with (go_at_call 10; refine (HPl _).mono ?_; rintro e wx ⟨rfl, rfl⟩)
  change Calls Try.prog 16 #[.agg #[sl0 gs 1, sl0 gb 1], .agg #[sl0 (w1.heap.size + 1) 1, sl0 (w1.heap.size + 3) 1]] (allocs w1 [leafL (sl0 gs 1) (sl0 gb 1), slotO ⟨6, 0, 2⟩, byteO 3, secO (w1.heap.size + 2)]) _
  rw [← Hv.out]
  refine HSame.out.mono ?_
  rintro e w2 ⟨rfl, hg2⟩
  have HG2 := grownBy_trans HG.out hg2
  go_wp2
  go_ret
  exact ⟨rfl, HG2⟩
end Sp
end Go.Proofs.Ytjokedggmhiklaa
