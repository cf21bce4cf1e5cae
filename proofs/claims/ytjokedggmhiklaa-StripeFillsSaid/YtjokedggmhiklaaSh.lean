/- Layer 6 (stripe): Same of the reference. -/
import Derived.Test.YtjokedggmhiklaaSg
namespace Go.Proofs.Ytjokedggmhiklaa
open Go.RowKit Go.Maps
namespace Sp
def ints (xs : List Nat) : List Int := xs.map fun n : Nat => (n : Int)
theorem ints_len (xs : List Nat) : (ints xs).length = xs.length := by simp [ints]
theorem ints_getD (xs : List Nat) (i : Nat) : (ints xs).getD i 0 = ((nth xs i : Nat) : Int) := by
  simp only [ints, nth, List.getD_eq_getElem?_getD, List.getElem?_map]
  cases xs[i]? <;> rfl
def strB (bs : List Nat) : ByteArray := strOfNums (ints bs)
theorem conv_ok {w : World} {K : Nat → Prop} {v : Value} {b : List Nat} (h : BytesM w K v b) (hl : 1 ≤ b.length) : (convert 49 9 v).run Try.prog w = .ok (.string (strB b)) w := by
  obtain ⟨ao, cap, rfl, _, _, _⟩ := id h.2
  obtain ⟨g, off, rfl, _, _, _, hat⟩ := h.2.at (k := 0) (by omega)
  refine run_convert_bytes_arg (P := Try.prog) w 49 5 Try.underlying49 Try.underlying5 g off b.length cap (ints b) (ints_len b) (fun i hi => ?_) 9 Try.underlying9
  have := hat i hi
  rw [Nat.mul_one] at this
  rw [this, ints_getD]
theorem BytesM.drewN {w : World} {K : Nat → Prop} {v : Value} {b : List Nat} (h : BytesM w K v b) (n : Nat) : BytesM (w.drewN n) K v b := h.kept fun _ _ _ => rfl
theorem slot_ne (a : Nat) (b : Int) (c : Nat) (w : World) : (binOp .neq 53 (.agg #[q32 a, num b, q64 c]) (.agg #[q32 a, num b, q64 c])).run Try.prog w = .ok (.bool false) w := by
  rw [run_neq_struct, run_equalIn_agg (d := 9999) (w := w) _ _ _ (by kernel_rfl) (by kernel_rfl)]
  simp [go_sem]
/-- Two leaves say the same. -/
structure LeafEq (x y : Leaf) : Prop where
  n : x.n = y.n
  m : x.m = y.m
  sl : ∀ i, i < x.n → x.slot i = y.slot i
  se : ∀ i, i < x.m → x.sec i = y.sec i ∧ 1 ≤ (x.sec i).length
set_option maxHeartbeats 3200000 in
set_option maxRecDepth 4000 in
theorem same_ok {w : World} {K K' : Nat → Prop} {sv bv sv' bv' : Value} {x y : Leaf} (h : LeafM w K sv bv x) (h' : LeafM w K' sv' bv' y) (he : LeafEq x y) :
    Calls Try.prog 16 #[.agg #[sv, bv], .agg #[sv', bv']] w fun e w' => e = .returned (.bool true) ∧ w.grownBy w' none := by
  obtain ⟨sa, sc, rfl, s1, s2, _⟩ := id h.sl
  obtain ⟨ba, bc, rfl, b1, b2, _⟩ := id h.se
  obtain ⟨sa', sc', rfl, s1', s2', _⟩ := id h'.sl
  obtain ⟨ba', bc', rfl, b1', b2', _⟩ := id h'.se
  have hn := he.n
  have hm := he.m
  rw [← hn] at h' s1'
  rw [← hm] at h' b1'
  obtain ⟨N, hN⟩ : ∃ N, N = x.n := ⟨_, rfl⟩
  obtain ⟨M, hM⟩ : ∃ M, M = x.m := ⟨_, rfl⟩
  have hsl := h.sl
  have hse := h.se
  have hsl' : SlotsM w K' (.slice sa' x.n sc') x.n y.slot := by have := h'.sl; rwa [← hn] at this
  have hse' : SecsM w K' (.slice ba' x.m bc') x.m y.sec := by have := h'.se; rwa [← hm] at this
  have e1 := he.sl
  have e2 := he.se
  rw [← hN] at hsl hsl' s1 s1' e1
  rw [← hM] at hse hse' b1 b1' e2
  rw [← hn, ← hm, ← hN, ← hM]
  clear h h' he hn hm hN hM
  obtain ⟨W, hW⟩ : ∃ W, W = (w.alloc (leafL (.slice sa N sc) (.slice ba M bc))).alloc (leafL (.slice sa' N sc') (.slice ba' M bc')) := ⟨_, rfl⟩
  have hgW : w.grownBy W none := by rw [hW]; exact grownBy_alloc' (World.grownBy_alloc w _ none) _
  have hb1 : W.heap[w.heap.size]? = some (leafL (.slice sa N sc) (.slice ba M bc)) := by rw [hW, (World.grownBy_alloc (w.alloc (leafL (.slice sa N sc) (.slice ba M bc))) _ none).block _ (lt_of_heap (heap_alloc_new w _)) (by simp)]; exact heap_alloc_new w _
  have hb2 : W.heap[w.heap.size + 1]? = some (leafL (.slice sa' N sc') (.slice ba' M bc')) := by
    have := heap_alloc_new (w.alloc (leafL (.slice sa N sc) (.slice ba M bc))) (leafL (.slice sa' N sc') (.slice ba' M bc'))
    rw [hW]; simpa using this
  have Hw : Hid _ := hW
  have HC : Hid (∀ wr : World, W.grownBy wr none → wr.cell? ⟨w.heap.size, 0, none⟩ = some (.slice sa N sc) ∧ wr.cell? ⟨w.heap.size, 1, none⟩ = some (.slice ba M bc) ∧ wr.cell? ⟨w.heap.size + 1, 0, none⟩ = some (.slice sa' N sc') ∧ wr.cell? ⟨w.heap.size + 1, 1, none⟩ = some (.slice ba' M bc')) := fun wr hg => by
    have e1 := (hg.block _ (lt_of_heap hb1) (by simp)).trans hb1
    have e2 := (hg.block _ (lt_of_heap hb2) (by simp)).trans hb2
    exact ⟨cell_at e1 rfl, cell_at e1 rfl, cell_at e2 rfl, cell_at e2 rfl⟩
  obtain ⟨c0, c1, c2, c3⟩ := HC.out W (grownBy_refl _ _)
  have n1 : (N : Int) ≤ 9223372036854775807 := by omega
  have m1 : (M : Int) ≤ 9223372036854775807 := by omega
  have d1 : ((N : Int) != (N : Int)) = false := by simp
  have d2 : ((M : Int) != (M : Int)) = false := by simp
  have hcmp := slot_ne
  clear hW hb1 hb2
  go_enter Try.func16, Try.ntmps16
  go_wp2_with (rw [← Hw.out])
  go_loopw [5] (fun i wr => ∃ k : Nat, k ≤ N ∧ i = num k ∧ W.grownBy wr none) (fun i _ => N - (intOf i).toNat)
  case atStart => exact ⟨0, Nat.zero_le _, rfl, grownBy_refl _ _⟩
  case round =>
    clear c0 c1 c2 c3
    obtain ⟨k, hk, rfl, hg⟩ := hrel
    obtain ⟨c0, c1, c2, c3⟩ := HC.out wr hg
    by_cases hkn : k < N
    · have q1 : (k : Int) < (N : Int) := by omega
      obtain ⟨g1, o1, rfl, _, _, _, a1⟩ := (SlotsM.more hsl (grownBy_trans hgW hg)).at hkn
      obtain ⟨g2, o2, rfl, _, _, _, a2⟩ := (SlotsM.more hsl' (grownBy_trans hgW hg)).at hkn
      obtain ⟨x0, x1, x2⟩ := a1 k hkn
      obtain ⟨y0, y1, y2⟩ := a2 k hkn
      rw [← e1 k hkn] at y0 y1 y2
      generalize x.slot k = s at x0 x1 x2 y0 y1 y2
      clear a1 a2
      go_wp2_with fail
      go_quiet (fail)
      go_wp2
      go_roundw
      case rel => exact ⟨k + 1, by omega, by go_num, grownBy_drewN hg _⟩
      case measure => simp [intOf]; omega
    · obtain rfl : k = N := by omega
      have q1 : ¬ (k : Int) < (k : Int) := by omega
      obtain ⟨wo, rfl⟩ : ∃ wo : World, wo = wr := ⟨_, rfl⟩
      go_wp2_with fail
      go_loopw [6] (fun i wr => ∃ k : Nat, k ≤ M ∧ i = num k ∧ W.grownBy wr none) (fun i _ => M - (intOf i).toNat)
      case atStart => exact ⟨0, Nat.zero_le _, rfl, hg⟩
      case round =>
        clear c0 c1 c2 c3
        obtain ⟨j, hj, rfl, hg2⟩ := hrel
        obtain ⟨c0, c1, c2, c3⟩ := HC.out wr hg2
        by_cases hjn : j < M
        · have q2 : (j : Int) < (M : Int) := by omega
          obtain ⟨g1, o1, rfl, _, _, _, a1⟩ := (SecsM.more hse (grownBy_trans hgW hg2)).at hjn
          obtain ⟨g2, o2, rfl, _, _, _, a2⟩ := (SecsM.more hse' (grownBy_trans hgW hg2)).at hjn
          obtain ⟨v1, x0, x1⟩ := a1 j hjn
          obtain ⟨v2, y0, y1⟩ := a2 j hjn
          obtain ⟨f1, f2⟩ := e2 j hjn
          rw [← f1] at y1
          have h1 := fun n => conv_ok (x1.drewN n) f2
          have h2 := fun n => conv_ok (y1.drewN n) f2
          simp only [Nat.mul_one] at x0 y0
          obtain ⟨va, vc, rfl, _, _⟩ := x1.len
          obtain ⟨vb, vd, rfl, _, _⟩ := y1.len
          generalize strB (x.sec j) = ST at h1 h2
          generalize (x.sec j).length = sl at h1 h2 x0 y0
          have hs : (ST.toList == ST.toList) = true := by simp
          clear a1 a2 x1 y1 f1 f2
          go_wp2_with fail
          go_quiet (fail)
          go_wp2
          go_roundw
          case rel => exact ⟨j + 1, by omega, by go_num, grownBy_drewN hg2 _⟩
          case measure => simp [intOf]; omega
        · obtain rfl : j = M := by omega
          have q2 : ¬ (j : Int) < (j : Int) := by omega
          have HG := grownBy_trans hgW hg2
          go_wp2
          go_ret
          exact ⟨rfl, HG⟩
end Sp
end Go.Proofs.Ytjokedggmhiklaa
