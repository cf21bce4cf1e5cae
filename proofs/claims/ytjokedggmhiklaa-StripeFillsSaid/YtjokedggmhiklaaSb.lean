/- Layer 6 (stripe): layoutMayBe, leafMayBe. -/
import Derived.Test.YtjokedggmhiklaaSa
namespace Go.Proofs.Ytjokedggmhiklaa
open Go.RowKit Go.Maps
namespace Sp
abbrev layV (S N T : Int) : Value := .agg #[num S, num N, num T]
abbrev layL (S N T : Int) : Obj := .cells #[num S, num N, num T] 27
abbrev leafL (sv bv : Value) : Obj := .cells #[sv, bv] 32
def LayMay (S N : Int) : Prop := 1 ≤ S ∧ S ≤ 256 ∧ 1 ≤ N ∧ N ≤ 8
set_option maxHeartbeats 400000 in
theorem layout_yes {S N : Int} (h : LayMay S N) (T : Int) (w : World) : Calls Try.prog 24 #[layV S N T] w fun e w' => e = .returned (.bool true) ∧ w.grownBy w' none := by
  obtain ⟨h1, h2, h3, h4⟩ := h
  go_enter Try.func24, Try.ntmps24
  go_wp2
  go_ret
  exact ⟨ret_bool (by simp), World.grownBy_alloc w _ none⟩
set_option maxHeartbeats 800000 in
theorem layout_no {S N : Int} (h : ¬ LayMay S N) (T : Int) (w : World) : Calls Try.prog 24 #[layV S N T] w fun e w' => e = .returned (.bool false) ∧ w.grownBy w' none := by
  have H : Hid (¬ LayMay S N) := h
  by_cases h1 : 1 ≤ S
  · have e1 : decide (1 ≤ S) = true := by simpa using h1
    by_cases h2 : S ≤ 256
    · have e2 : decide (S ≤ 256) = true := by simpa using h2
      by_cases h3 : 1 ≤ N
      · have e3 : decide (1 ≤ N) = true := by simpa using h3
        have h4 : ¬ N ≤ 8 := fun h4 => H.out ⟨h1, h2, h3, h4⟩
        clear h
        go_enter Try.func24, Try.ntmps24
        go_wp2
        go_ret
        exact ⟨ret_bool (by simp), World.grownBy_alloc w _ none⟩
      · have e3 : decide (1 ≤ N) = false := by simpa using h3
        clear h
        go_enter Try.func24, Try.ntmps24
        go_wp2
        go_ret
        exact ⟨ret_bool (by simp), World.grownBy_alloc w _ none⟩
    · have e2 : decide (S ≤ 256) = false := by simpa using h2
      clear h
      go_enter Try.func24, Try.ntmps24
      go_wp2
      go_ret
      exact ⟨ret_bool (by simp), World.grownBy_alloc w _ none⟩
  · have e1 : decide (1 ≤ S) = false := by simpa using h1
    clear h
    go_enter Try.func24, Try.ntmps24
    go_wp2
    go_ret
    exact ⟨ret_bool (by simp), World.grownBy_alloc w _ none⟩
theorem slotMay_iff {s : Slot} : SlotMay s ↔ ¬ s.state < 0 ∧ ¬ 3 < s.state ∧ ¬ 281474976710656 ≤ s.seq := ⟨fun h => ⟨by have := h.lo; omega, by have := h.hi; omega, by have := h.seq; omega⟩, fun ⟨a, b, c⟩ => ⟨by omega, by omega, by omega⟩⟩
/-- What leafMayBe and May answer. -/
def MayPost (w : World) (S N : Int) (x : Leaf) (e : Ending) (w' : World) : Prop := ∃ b, e = .returned (.bool b) ∧ (b = true ↔ May S N x) ∧ w.grownBy w' none
theorem MayPost.no {w w' : World} {S N : Int} {x : Leaf} (h : ¬ May S N x) (hg : w.grownBy w' none) : MayPost w S N x (.returned (.bool false)) w' := ⟨false, rfl, by simp [h], hg⟩
theorem MayPost.yes {w w' : World} {S N : Int} {x : Leaf} (h : May S N x) (hg : w.grownBy w' none) : MayPost w S N x (.returned (.bool true)) w' := ⟨true, rfl, by simp [h], hg⟩
set_option maxHeartbeats 3200000 in
set_option maxRecDepth 4000 in
theorem leafMay_ok {w : World} {K : Nat → Prop} {sv bv : Value} {x : Leaf} (h : LeafM w K sv bv x) (S N T : Int) :
    Calls Try.prog 25 #[layV S N T, .agg #[sv, bv]] w (MayPost w S N x) := by
  obtain ⟨sa, sc, rfl, s1, s2, _⟩ := id h.sl
  obtain ⟨ba, bc, rfl, b1, b2, _⟩ := id h.se
  obtain ⟨W, hW⟩ : ∃ W, W = (w.alloc (layL S N T)).alloc (leafL (.slice sa x.n sc) (.slice ba x.m bc)) := ⟨_, rfl⟩
  have hgW : w.grownBy W none := by rw [hW]; exact grownBy_alloc' (World.grownBy_alloc w _ none) _
  have hb1 : W.heap[w.heap.size]? = some (layL S N T) := by rw [hW, (World.grownBy_alloc (w.alloc (layL S N T)) _ none).block _ (lt_of_heap (heap_alloc_new w _)) (by simp)]; exact heap_alloc_new w _
  have hb2 : W.heap[w.heap.size + 1]? = some (leafL (.slice sa x.n sc) (.slice ba x.m bc)) := by
    have := heap_alloc_new (w.alloc (layL S N T)) (leafL (.slice sa x.n sc) (.slice ba x.m bc))
    rw [hW]; simpa using this
  have Hw : Hid _ := hW
  have n1 : (x.n : Int) ≤ 9223372036854775807 := by omega
  have m1 : (x.m : Int) ≤ 9223372036854775807 := by omega
  have c1 : W.cell? ⟨w.heap.size + 1, 0, none⟩ = some (.slice sa x.n sc) := cell_at hb2 rfl
  clear hW
  go_enter Try.func25, Try.ntmps25
  go_wp2_with (rw [← Hw.out])
  go_loopw [12] (fun i wr => ∃ k : Nat, k ≤ x.n ∧ i = num k ∧ (∀ j, j < k → SlotMay (x.slot j)) ∧ W.grownBy wr none) (fun i _ => x.n - (intOf i).toNat)
  case atStart => exact ⟨0, Nat.zero_le _, rfl, fun j hj => by omega, grownBy_refl _ _⟩
  case round =>
    clear Hw c1
    obtain ⟨k, hk, rfl, hall, hg⟩ := hrel
    have hwr := grownBy_trans hgW hg
    by_cases hkn : k < x.n
    · have q1 : (k : Int) < (x.n : Int) := by omega
      obtain ⟨g, off, rfl, _, _, _, hat⟩ := (h.sl.kept (.of_grown hwr)).at hkn
      obtain ⟨d1, d2, d3⟩ := hat k hkn
      have HI : Hid _ := slotMay_iff (s := x.slot k)
      have HA : Hid _ := hall
      have HG : Hid _ := hwr
      have HGr : Hid _ := hg
      obtain ⟨i1, i2, i3⟩ := h.si k hkn
      obtain ⟨i4, i5⟩ := i2
      have HN : Hid (∀ j, SlotMay (x.slot k) → j < k + 1 → SlotMay (x.slot j)) := fun j hs hj => by
        by_cases e : j = k
        · rw [e]; exact hs
        · exact hall j (by omega)
      have HNo : Hid (¬ SlotMay (x.slot k) → ¬ May S N x) := fun hs hm => hs (hm.slot k hkn)
      generalize x.slot k = s at d1 d2 d3 HI i1 i4 i5 i3 HN HNo
      obtain ⟨ky, st, sq⟩ := s
      simp only at d1 d2 d3 i1 i4 i5 i3
      clear hat hall hwr hg h
      by_cases t1 : st < 0
      · have e1 : decide (st < 0) = true := by simpa using t1
        go_wp2
        go_ret
        exact MayPost.no (HNo.out fun hs => by have := hs.lo; simp only at this; omega) (grownBy_alloc' HG.out _)
      · have e1 : decide (st < 0) = false := by simpa using t1
        by_cases t2 : 3 < st
        · have e2 : decide (3 < st) = true := by simpa using t2
          go_wp2
          go_ret
          exact MayPost.no (HNo.out fun hs => by have := hs.hi; simp only at this; omega) (grownBy_alloc' HG.out _)
        · have e2 : decide (3 < st) = false := by simpa using t2
          by_cases t3 : 281474976710656 ≤ sq
          · have t3' : (281474976710656 : Int) ≤ (sq : Int) := by omega
            go_wp2
            go_ret
            exact MayPost.no (HNo.out fun hs => by have := hs.seq; simp only at this; omega) (grownBy_alloc' HG.out _)
          · have t3' : ¬ (281474976710656 : Int) ≤ (sq : Int) := by omega
            go_wp2
            go_roundw
            case rel => exact ⟨k + 1, by omega, by go_num, fun j => HN.out j (HI.out.2 ⟨t1, t2, t3⟩), grownBy_alloc' HGr.out _⟩
            case measure => simp [intOf]; omega
    · obtain rfl : k = x.n := by omega
      have q1 : ¬ (x.n : Int) < (x.n : Int) := by omega
      obtain ⟨wo, rfl⟩ : ∃ wo : World, wo = wr := ⟨_, rfl⟩
      have hb1' : wo.heap[w.heap.size]? = some (layL S N T) := by rw [hg.block _ (lt_of_heap hb1) (by simp)]; exact hb1
      have hb2' : wo.heap[w.heap.size + 1]? = some (leafL (.slice sa x.n sc) (.slice ba x.m bc)) := by rw [hg.block _ (lt_of_heap hb2) (by simp)]; exact hb2
      have a0 : wo.cell? ⟨w.heap.size, 0, none⟩ = some (num S) := cell_at hb1' rfl
      have a1 : wo.cell? ⟨w.heap.size, 1, none⟩ = some (num N) := cell_at hb1' rfl
      have a2 : wo.cell? ⟨w.heap.size + 1, 0, none⟩ = some (.slice sa x.n sc) := cell_at hb2' rfl
      have a3 : wo.cell? ⟨w.heap.size + 1, 1, none⟩ = some (.slice ba x.m bc) := cell_at hb2' rfl
      have HA : Hid _ := hall
      have HG : Hid _ := hwr
      have hse := h.se.kept (.of_grown hwr)
      clear hb1' hb2' hb1 hb2 hall hg hgW
      go_wp2_with fail
      go_loopw [33] (fun i wr => wr = wo ∧ ∃ k : Nat, k ≤ x.m ∧ i = num k ∧ (∀ j, j < k → SecMay S (x.sec j))) (fun i _ => x.m - (intOf i).toNat)
      case atStart => exact ⟨rfl, 0, Nat.zero_le _, rfl, fun j hj => by omega⟩
      case round =>
        obtain ⟨rfl, k, hk, rfl, hall⟩ := hrel
        by_cases hkn : k < x.m
        · have q2 : (k : Int) < (x.m : Int) := by omega
          obtain ⟨g, off, rfl, _, _, _, hat⟩ := hse.at hkn
          obtain ⟨v, d1, d2⟩ := hat k hkn
          obtain ⟨va, vc, rfl, v1, v2⟩ := d2.len
          simp only [Nat.mul_one] at d1
          have HN : Hid (∀ j, SecMay S (x.sec k) → j < k + 1 → SecMay S (x.sec j)) := fun j hs hj => by
            by_cases e : j = k
            · rw [e]; exact hs
            · exact hall j (by omega)
          have HNo : Hid (¬ SecMay S (x.sec k) → ¬ May S N x) := fun hs hm => hs (hm.sec k hkn)
          have HS : Hid (SecMay S (x.sec k) ↔ (x.sec k).length = 0 ∨ ((x.sec k).length : Int) = S) := by simp [Hid, SecMay]
          clear hat d2 hall hse
          generalize x.sec k = bs at d1 v1 HN HNo HS
          generalize bs.length = L at d1 v1 HS
          have l1 : (L : Int) ≤ 9223372036854775807 := by omega
          by_cases t1 : (L : Int) = S
          · have e1 : ((L : Int) == S) = true := by simpa using t1
            have HT : Hid _ := t1
            clear t1
            go_wp2
            go_roundw
            case rel => exact ⟨trivial, k + 1, by omega, by go_num, fun j => HN.out j (HS.out.2 (.inr HT.out))⟩
            case measure => simp [intOf]; omega
          · have e1 : ((L : Int) == S) = false := by simpa using t1
            by_cases t2 : L = 0
            · have e1' : ((L : Int) != S) = true := by simpa using t1
              have e2' : ((L : Int) != 0) = false := by simp; omega
              have HT : Hid _ := t2
              clear t2
              go_wp2
              go_roundw
              case rel => exact ⟨trivial, k + 1, by omega, by go_num, fun j => HN.out j (HS.out.2 (.inl HT.out))⟩
              case measure => simp [intOf]; omega
            · have e1' : ((L : Int) != S) = true := by simpa using t1
              have e2' : ((L : Int) != 0) = true := by simp; omega
              have HT : Hid _ := t2
              have HT1 : Hid _ := t1
              clear t2 t1
              go_wp2
              go_ret
              exact MayPost.no (HNo.out fun hs => by rcases HS.out.1 hs with e | e; exact HT.out e; exact HT1.out e) HG.out
        · obtain rfl : k = x.m := by omega
          have q2 : ¬ (x.m : Int) < (x.m : Int) := by omega
          have HA2 : Hid _ := hall
          clear hall hse
          by_cases t1 : (x.n : Int) = N
          · have e1 : ((x.n : Int) == N) = true := by simpa using t1
            have HT : Hid _ := t1
            clear t1
            by_cases t2 : (x.m : Int) = N
            · have e2 : ((x.m : Int) == N) = true := by simpa using t2
              have HT2 : Hid _ := t2
              clear t2
              go_wp2
              go_ret
              exact MayPost.yes ⟨HT.out, HT2.out, HA.out, HA2.out⟩ HG.out
            · have e2 : ((x.m : Int) == N) = false := by simpa using t2
              have HT2 : Hid _ := t2
              clear t2
              go_wp2
              go_ret
              exact MayPost.no (fun hm => HT2.out hm.m) HG.out
          · have e1 : ((x.n : Int) == N) = false := by simpa using t1
            have HT : Hid _ := t1
            clear t1
            go_wp2
            go_ret
            exact MayPost.no (fun hm => HT.out hm.n) HG.out
end Sp
end Go.Proofs.Ytjokedggmhiklaa
