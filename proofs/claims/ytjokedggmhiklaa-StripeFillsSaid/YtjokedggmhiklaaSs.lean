/- Layer 6 (stripe): May of the reference. -/
import Derived.Test.YtjokedggmhiklaaSr
import Derived.Laws.ShiftsVarLaws
namespace Go.Proofs.Ytjokedggmhiklaa
open Go.RowKit Go.Maps
namespace Sp
theorem may_iff {S N : Int} {x : Leaf} : May S N x ↔ ((x.n : Int) = N ∧ (x.m : Int) = N ∧ ∀ i, (i : Nat) < x.n → SlotMay (x.slot i) ∧ SecMay S (x.sec i)) :=
  ⟨fun h => ⟨h.n, h.m, fun i hi => ⟨h.slot i hi, h.sec i (by have := h.n; have := h.m; omega)⟩⟩, fun ⟨h1, h2, h3⟩ => ⟨h1, h2, fun i hi => (h3 i hi).1, fun i hi => (h3 i (by omega)).2⟩⟩
set_option maxHeartbeats 6400000 in
set_option maxRecDepth 4000 in
theorem kmay_ok {w : World} {K : Nat → Prop} {sv bv : Value} {x : Leaf} (h : LeafM w K sv bv x) (S N T : Int) :
    Calls Try.prog 30 #[layV S N T, .agg #[sv, bv]] w (MayPost w S N x) := by
  obtain ⟨sa, sc, rfl, s1, s2, _⟩ := id h.sl
  obtain ⟨ba, bc, rfl, b1, b2, _⟩ := id h.se
  obtain ⟨W, hW⟩ : ∃ W, W = (w.alloc (layL S N T)).alloc (leafL (.slice sa x.n sc) (.slice ba x.m bc)) := ⟨_, rfl⟩
  have hgW : w.grownBy W none := by rw [hW]; exact grownBy_alloc' (World.grownBy_alloc w _ none) _
  have hb1 : W.heap[w.heap.size]? = some (layL S N T) := by rw [hW, (World.grownBy_alloc (w.alloc (layL S N T)) _ none).block _ (lt_of_heap (heap_alloc_new w _)) (by simp)]; exact heap_alloc_new w _
  have hb2 : W.heap[w.heap.size + 1]? = some (leafL (.slice sa x.n sc) (.slice ba x.m bc)) := by
    have := heap_alloc_new (w.alloc (layL S N T)) (leafL (.slice sa x.n sc) (.slice ba x.m bc))
    rw [hW]; simpa using this
  have HC : Hid (∀ wr, W.grownBy wr none → wr.cell? ⟨w.heap.size, 0, none⟩ = some (num S) ∧ wr.cell? ⟨w.heap.size, 1, none⟩ = some (num N) ∧ wr.cell? ⟨w.heap.size + 1, 0, none⟩ = some (.slice sa x.n sc) ∧ wr.cell? ⟨w.heap.size + 1, 1, none⟩ = some (.slice ba x.m bc)) := fun wr hg => by
    have e1 := (hg.block _ (lt_of_heap hb1) (by simp)).trans hb1
    have e2 := (hg.block _ (lt_of_heap hb2) (by simp)).trans hb2
    exact ⟨cell_at e1 rfl, cell_at e1 rfl, cell_at e2 rfl, cell_at e2 rfl⟩
  have Hw : Hid _ := hW
  have n1 : (x.n : Int) ≤ 9223372036854775807 := by omega
  have m1 : (x.m : Int) ≤ 9223372036854775807 := by omega
  obtain ⟨c0, c1, c2, c3⟩ := HC.out W (grownBy_refl _ _)
  clear hW hb1 hb2
  by_cases t1 : (x.n : Int) = N
  · by_cases t2 : (x.m : Int) = N
    · have hmn : x.m = x.n := by omega
      have HT1 : Hid _ := t1
      have HT2 : Hid _ := t2
      have e1 : ((x.n : Int) != N) = false := by simp [t1]
      have e2 : ((x.m : Int) != N) = false := by simp [t2]
      have hN : N = (x.n : Int) := t1.symm
      clear t1 t2
      subst hN
      have HMN : Hid _ := hmn
      clear hmn
      go_enter Try.func30, Try.ntmps30
      go_wp2_with (rw [← Hw.out])
      go_loopw [5] (fun i wr => ∃ k : Nat, k ≤ x.n ∧ i = num k ∧ (∀ j, j < k → SlotMay (x.slot j) ∧ SecMay S (x.sec j)) ∧ W.grownBy wr none) (fun i _ => x.n - (intOf i).toNat)
      case atStart => exact ⟨0, Nat.zero_le _, rfl, fun j hj => by omega, grownBy_refl _ _⟩
      case round =>
        clear c0 c1 c2 c3 Hw
        obtain ⟨k, hk, rfl, hall, hg⟩ := hrel
        obtain ⟨c0, c1, c2, c3⟩ := HC.out wr hg
        by_cases hkn : k < x.n
        · have q1 : (k : Int) < (x.n : Int) := by omega
          have q2 : (k : Int) < (x.m : Int) := by have := HMN.out; omega
          have hkm : k < x.m := by have := HMN.out; omega
          have hgr := grownBy_trans hgW hg
          obtain ⟨g1, o1, rfl, _, _, _, a1⟩ := (h.sl.more hgr).at hkn
          obtain ⟨g2, o2, rfl, _, _, _, a2⟩ := (h.se.more hgr).at hkm
          obtain ⟨d1, d2, d3⟩ := a1 k hkn
          obtain ⟨v, f1, f2⟩ := a2 k hkm
          obtain ⟨va, vc, rfl, v1, v2⟩ := f2.len
          simp only [Nat.mul_one] at f1
          have hsi := h.si k hkn
          have HI : Hid _ := slotMay_iff (s := x.slot k)
          have HS : Hid (SecMay S (x.sec k) ↔ (x.sec k).length = 0 ∨ ((x.sec k).length : Int) = S) := by simp [Hid, SecMay]
          have HN : Hid (SlotMay (x.slot k) → SecMay S (x.sec k) → ∀ j, j < k + 1 → SlotMay (x.slot j) ∧ SecMay S (x.sec j)) := fun p1 p2 j hj => by
            by_cases e : j = k
            · rw [e]; exact ⟨p1, p2⟩
            · exact hall j (by omega)
          have HNo : Hid (¬ (SlotMay (x.slot k) ∧ SecMay S (x.sec k)) → ¬ May S (x.n : Int) x) := fun hs hm => hs ⟨hm.slot k hkn, hm.sec k hkm⟩
          have HG : Hid _ := hgr
          have HGr : Hid _ := hg
          generalize x.slot k = s at d1 d2 d3 HI HN HNo hsi
          obtain ⟨ky, st, sq⟩ := s
          generalize (x.sec k) = bs at f1 v1 HS HN HNo
          generalize bs.length = L at f1 v1 HS
          obtain ⟨i1, ⟨i4, i5⟩, i3⟩ := hsi
          simp only at d1 d2 d3 i1 i4 i5 i3
          clear a1 a2 f2 hall hg hgr h
          by_cases t1 : st < 0
          · have e1 : decide (st < 0) = true := by simpa using t1
            go_wp2
            go_ret
            exact MayPost.no (HNo.out fun hs => by have := hs.1.lo; simp only at this; omega) HG.out
          · have e1 : decide (st < 0) = false := by simpa using t1
            by_cases t2 : 3 < st
            · have e2 : decide (3 < st) = true := by simpa using t2
              go_wp2
              go_ret
              exact MayPost.no (HNo.out fun hs => by have := hs.1.hi; simp only at this; omega) HG.out
            · have e2 : decide (3 < st) = false := by simpa using t2
              by_cases t3 : 281474976710656 ≤ sq
              · have t3' : ((sq : Int) / 281474976710656 != 0) = true := by simp; omega
                go_wp2
                go_ret
                exact MayPost.no (HNo.out fun hs => by have := hs.1.seq; simp only at this; omega) HG.out
              · have t3' : ((sq : Int) / 281474976710656 != 0) = false := by simp; omega
                have hsm : Hid (SlotMay ⟨ky, st, sq⟩) := HI.out.2 ⟨t1, t2, t3⟩
                by_cases t4 : L = 0
                · have t4' : ((L : Int) != 0) = false := by simp; omega
                  have HT : Hid _ := t4
                  clear t4
                  go_wp2_with fail
                  go_quiet (fail)
                  go_wp2
                  go_roundw
                  case rel => exact ⟨k + 1, by omega, by go_num, HN.out hsm.out (HS.out.2 (.inl HT.out)), grownBy_drewN HGr.out _⟩
                  case measure => simp [intOf]; omega
                · have t4' : ((L : Int) != 0) = true := by simp; omega
                  by_cases t5 : (L : Int) = S
                  · have t5' : ((L : Int) != S) = false := by simpa using t5
                    have HT : Hid _ := t5
                    clear t4 t5
                    go_wp2_with fail
                    go_quiet (fail)
                    go_wp2
                    go_roundw
                    case rel => exact ⟨k + 1, by omega, by go_num, HN.out hsm.out (HS.out.2 (.inr HT.out)), grownBy_drewN HGr.out _⟩
                    case measure => simp [intOf]; omega
                  · have t5' : ((L : Int) != S) = true := by simpa using t5
                    have HT4 : Hid _ := t4
                    have HT : Hid _ := t5
                    clear t4 t5
                    go_wp2_with fail
                    go_quiet (fail)
                    go_wp2
                    go_ret
                    exact MayPost.no (HNo.out fun hs => by rcases HS.out.1 hs.2 with e | e; exact HT4.out e; exact HT.out e) (grownBy_drewN HG.out _)
        · obtain rfl : k = x.n := by omega
          have q1 : ¬ (x.n : Int) < (x.n : Int) := by omega
          have HY : Hid (May S (x.n : Int) x) := may_iff.2 ⟨rfl, HT2.out, hall⟩
          have HG := grownBy_trans hgW hg
          clear hall
          go_wp2
          go_ret
          exact MayPost.yes HY.out HG
    · have HT2 : Hid _ := t2
      have e1 : ((x.n : Int) != N) = false := by simp [t1]
      have e2 : ((x.m : Int) != N) = true := by simpa using t2
      clear t1 t2
      go_enter Try.func30, Try.ntmps30
      go_wp2_with (rw [← Hw.out])
      go_ret
      exact MayPost.no (fun hm => HT2.out hm.m) hgW
  · have HT1 : Hid _ := t1
    have e1 : ((x.n : Int) != N) = true := by simpa using t1
    clear t1
    go_enter Try.func30, Try.ntmps30
    go_wp2_with (rw [← Hw.out])
    go_ret
    exact MayPost.no (fun hm => HT1.out hm.n) hgW
end Sp
end Go.Proofs.Ytjokedggmhiklaa
