/- The sum of two polynomials. -/
import Derived.Test.YtiojdoehlooibaaDoorZPd
namespace Go.Proofs.YtiojdoehlooibaaDoor
open Go.RowKit
namespace Gf
/-- The first k of a row put on another. -/
def adds (r p : List Nat) : Nat → List Nat
  | 0 => r
  | k + 1 => put (adds r p k) k (nth p k)
theorem adds_len (r p : List Nat) (k : Nat) : (adds r p k).length = r.length := by
  induction k with
  | zero => rfl
  | succ k ih => rw [adds, put_len, ih]
theorem nth_adds (r p : List Nat) (j : Nat) : ∀ k, k ≤ r.length → nth (adds r p k) j = nth r j ^^^ (if j < k then nth p j else 0)
  | 0, _ => by rw [adds, if_neg (by omega), Nat.xor_zero]
  | k + 1, h => by
    have ih := nth_adds r p j k (by omega)
    rw [adds, nth_put _ _ _ _ (by rw [adds_len]; omega)]
    by_cases e : j = k
    · subst e
      rw [if_pos rfl, ih, if_neg (by omega), if_pos (by omega), Nat.xor_zero]
    · rw [if_neg e, ih]
      by_cases h1 : j < k
      · rw [if_pos h1, if_pos (by omega)]
      · rw [if_neg h1, if_neg (by omega)]
theorem els_adds {m : Nat} {r p : List Nat} (hr : Els m r) (hp : Els m p) : ∀ k, Els m (adds r p k)
  | 0 => hr
  | k + 1 => (els_adds hr hp k).put _ (hp k)
/-- The sum. -/
def sumS (p q : List Nat) : List Nat := adds (adds (List.replicate (max p.length q.length) 0) p p.length) q q.length
theorem sumS_len (p q : List Nat) : (sumS p q).length = max p.length q.length := by rw [sumS, adds_len, adds_len, List.length_replicate]
theorem nth_sumS (p q : List Nat) (j : Nat) : nth (sumS p q) j = nth p j ^^^ nth q j := by
  rw [sumS, nth_adds _ _ _ _ (by rw [adds_len, List.length_replicate]; omega), nth_adds _ _ _ _ (by rw [List.length_replicate]; omega), nth_zeros, Nat.zero_xor]
  congr 1
  · split
    · rfl
    · rw [nth_over _ (by omega)]
  · split
    · rfl
    · rw [nth_over _ (by omega)]
theorem els_sumS {m : Nat} {p q : List Nat} (hp : Els m p) (hq : Els m q) : Els m (sumS p q) := fun k => by
  rw [nth_sumS]; exact xor_le (hp k) (hq k)
/-- What holds while rows are put together. -/
structure SuRel (w wr : World) (R : List Nat) : Prop where
  at_ : wr.heap[w.heap.size]? = some (.cells (vals R).toArray 3)
  grown : w.grownBy wr none
theorem SuRel.store {w wr : World} {R : List Nat} (h : SuRel w wr R) (k v : Nat) : SuRel w (wr.setCell ⟨w.heap.size, k, none⟩ (num (nth R k ^^^ v : Nat))) (put R k v) :=
  ⟨by
    have := setCell_row (i := k) h.at_ (num (nth R k ^^^ v : Nat))
    rw [vals_set] at this
    exact this, grownBy_setCell h.grown (.inl (Nat.le_refl _)) _⟩
theorem RdN.at {w wr : World} {ao : Option Addr} {p : List Nat} (h : RdN w ao p) (hg : w.grownBy wr none) {k : Nat} (hk : k < p.length) : ∃ g off, ao = some ⟨g, off, none⟩ ∧ wr.cell? ⟨g, off + k, none⟩ = some (num (nth p k : Nat)) := by
  obtain ⟨g, off, h1, h2⟩ := h.resolve_left (fun e => by rw [e] at hk; simp at hk)
  refine ⟨g, off, h1, ?_⟩
  rw [World.cell?_of_block (w := w) (a := ⟨g, off + k, none⟩) (hg.block g (lt_of_cell (h2 k hk)) (by simp))]
  exact h2 k hk
set_option maxHeartbeats 1600000 in
set_option maxRecDepth 4000 in
theorem sum_ok {w : World} {m : Nat} (hm : Em m) (ap aq : Option Addr) (cp cq : Nat) (p q : List Nat) (hp : RdN w ap p) (hq : RdN w aq q) (ep : Els m p) (eq : Els m q) (lp : p.length ≤ 100000) (lq : q.length ≤ 100000) :
    Calls Tryd.prog 62 #[.slice ap p.length cp, .slice aq q.length cq] w fun e w' => e = .returned (.slice (some ⟨w.heap.size, 0, none⟩) (max p.length q.length) (max p.length q.length)) ∧ SuRel w w' (sumS p q) := by
  obtain ⟨i0, hi, hz0, hz1, hz2⟩ := info_parts Tryd.info3
  have hz := sz_bd hm
  obtain ⟨N, hN⟩ : ∃ N, N = max p.length q.length := ⟨_, rfl⟩
  have hNp : p.length ≤ N := by omega
  have hNq : q.length ≤ N := by omega
  have hNl : N ≤ 100000 := by omega
  have hmx : max (p.length : Int) (q.length : Int) = (N : Int) := by omega
  have hS0 : SuRel w (w.alloc (.cells (zs N).toArray 3)) (List.replicate N 0) := ⟨by rw [← vals_zeros]; exact heap_alloc_new w _, World.grownBy_alloc _ _ none⟩
  have HS : Hid (sumS p q = adds (adds (List.replicate N 0) p p.length) q q.length) := by rw [Hid, hN]; rfl
  rw [← hN]
  clear hN
  have e0 : Els m (List.replicate N 0) := Els.zeros m N
  go_enter Tryd.func62, Tryd.ntmps62
  go_wp2_with (first | (at_make; go_must (refine wpList_make_own0 _ rfl _ _ 27 rfl 3 i0 Tryd.underlying27 hi hz0 hz1 hz2 .i64 .i64 _ _ N rfl rfl (by omega) (by omega) (by omega) ?_)))
  all_goals
    go_loopw [18] (fun v wr => ∃ k : Nat, k ≤ p.length ∧ v = num k ∧ SuRel w wr (adds (List.replicate N 0) p k)) (fun v _ => p.length - (intOf v).toNat)
    case atStart => exact ⟨0, Nat.zero_le _, rfl, hS0⟩
    case round =>
      obtain ⟨k, hk, rfl, hS⟩ := hrel
      clear hS0
      by_cases hlt : k < p.length
      · have b1 : (k : Int) < (p.length : Int) := by omega
        obtain ⟨g, off, rfl, ck⟩ := hp.at hS.grown hlt
        have hal := adds_len (List.replicate N 0) p k
        rw [List.length_replicate] at hal
        have cr : wr.cell? ⟨w.heap.size, k, none⟩ = some (num (nth (adds (List.replicate N 0) p k) k : Nat)) := by rw [cell_row hS.at_, vals_at (by omega)]
        have zr : wr.frozen? ⟨w.heap.size, k, none⟩ = false := frozen_row hS.at_
        have hN2 := hS.store k (nth p k)
        have hA := els_adds e0 ep k k
        have hB := ep k
        have hxo : bits .xor .i64 (nth (adds (List.replicate N 0) p k) k : Int) (nth p k : Int) = ((nth (adds (List.replicate N 0) p k) k ^^^ nth p k : Nat) : Int) := xor_i64 _ _ (by omega) (by omega)
        have HX : Hid (adds (List.replicate N 0) p (k + 1) = put (adds (List.replicate N 0) p k) k (nth p k)) := rfl
        obtain ⟨A, hAe⟩ : ∃ A, A = nth (adds (List.replicate N 0) p k) k := ⟨_, rfl⟩
        rw [← hAe] at cr hN2 hA hxo
        clear hAe hS hal
        have b2 : (k : Int) < (N : Int) := by omega
        go_wp2_with fail
        go_roundw
        case rel => exact ⟨k + 1, by omega, by go_num, by rw [HX.out]; exact hN2⟩
        case measure => simp [intOf]; omega
      · obtain rfl : k = p.length := by omega
        have b1 : ¬ ((p.length : Int) < (p.length : Int)) := by omega
        have e1 := els_adds e0 ep p.length
        have hal := adds_len (List.replicate N 0) p p.length
        rw [List.length_replicate] at hal
        obtain ⟨R, hR⟩ : ∃ R, R = adds (List.replicate N 0) p p.length := ⟨_, rfl⟩
        rw [← hR] at hS HS e1 hal
        clear hR
        go_wp2_with fail
        go_loopw [33] (fun v wr => ∃ k : Nat, k ≤ q.length ∧ v = num k ∧ SuRel w wr (adds R q k)) (fun v _ => q.length - (intOf v).toNat)
        case atStart => exact ⟨0, Nat.zero_le _, rfl, hS⟩
        case round =>
          clear hS
          obtain ⟨k, hk, rfl, hS⟩ := hrel
          by_cases hlt : k < q.length
          · have b1 : (k : Int) < (q.length : Int) := by omega
            obtain ⟨g, off, rfl, ck⟩ := hq.at hS.grown hlt
            have hal2 := adds_len R q k
            have cr : wr.cell? ⟨w.heap.size, k, none⟩ = some (num (nth (adds R q k) k : Nat)) := by rw [cell_row hS.at_, vals_at (by omega)]
            have zr : wr.frozen? ⟨w.heap.size, k, none⟩ = false := frozen_row hS.at_
            have hN2 := hS.store k (nth q k)
            have hA := els_adds e1 eq k k
            have hB := eq k
            have hxo : bits .xor .i64 (nth (adds R q k) k : Int) (nth q k : Int) = ((nth (adds R q k) k ^^^ nth q k : Nat) : Int) := xor_i64 _ _ (by omega) (by omega)
            have HX : Hid (adds R q (k + 1) = put (adds R q k) k (nth q k)) := rfl
            obtain ⟨A, hAe⟩ : ∃ A, A = nth (adds R q k) k := ⟨_, rfl⟩
            rw [← hAe] at cr hN2 hA hxo
            clear hAe hS hal2
            have b2 : (k : Int) < (N : Int) := by omega
            go_wp2_with fail
            go_roundw
            case rel => exact ⟨k + 1, by omega, by go_num, by rw [HX.out]; exact hN2⟩
            case measure => simp [intOf]; omega
          · obtain rfl : k = q.length := by omega
            have b1 : ¬ ((q.length : Int) < (q.length : Int)) := by omega
            rw [← HS.out] at hS
            go_wp2_with fail
            go_ret
            exact ⟨rfl, hS⟩
end Gf
end Go.Proofs.YtiojdoehlooibaaDoor
