/- The document's own least polynomials and generators. -/
import Derived.Test.YtiojdoehlooibaaDoorZRfa
import Derived.Deep.LoopGhost
namespace Go.Proofs.YtiojdoehlooibaaDoor
open Go.RowKit
namespace Gf
theorem one_tm {m : Nat} (h : Em m) {q : List Nat} (hq : Els m q) (tq : Trimmed q) : tmS m [1] q = q := by
  have t1 : Trimmed [1] := fun _ => by decide
  refine eq_of_nth (tm_trimmed h t1 tq) tq fun k => ?_
  rw [nth_tm]
  cases k with
  | zero => rw [cv, one_mul h (hq 0)]
  | succ k => rw [cv, cv, one_mul h (hq _), Nat.xor_zero]
theorem row_pair {m a : Nat} (h : Em m) (ha : a ≤ sz m) : rowS m (ints [a, 1]) = [a, 1] := by
  have hz := sz_bd h
  have e1 : el m (a : Int) = a := el_of ha
  have e2 : el m (1 : Int) = 1 := el_of (m := m) (a := 1) (by omega)
  simp [rowS, ints, e1, e2, trimN]
theorem row_lone {m : Nat} (h : Em m) : rowS m (ints [1]) = [1] := by
  have hz := sz_bd h
  have : el m (1 : Int) = 1 := el_of (m := m) (a := 1) (by omega)
  simp [rowS, ints, this, trimN]
theorem tmI_first {m a : Nat} (h : Em m) (ha : a ≤ sz m) : tmI m [1] [a, 1] = [a, 1] := by
  have hz := sz_bd h
  unfold tmI
  rw [row_lone h, row_pair h ha]
  exact one_tm h (Els.cons ha (Els.cons (by omega) (fun k => by rw [nth_over [] (by simp)]; exact Nat.zero_le _))) (fun _ => by simp [nth])
theorem Rd_new' {w : World} {b : Nat} (hb : b < w.heap.size) (xs : List Nat) : Rd b (w.alloc (.cells (vals xs).toArray 3)) (some ⟨w.heap.size, 0, none⟩) (ints xs) := by
  refine .inr ⟨_, 0, rfl, by omega, fun i hi => ?_⟩
  rw [ints_len] at hi
  rw [Nat.zero_add, cell_row (heap_alloc_new w _), vals_at hi, ints_getD]
theorem Got_new (w : World) (xs : List Nat) (B : Nat) (hB : B ≤ w.heap.size) : Got (w.alloc (.cells (vals xs).toArray 3)) B (.slice (some ⟨w.heap.size, 0, none⟩) xs.length xs.length) xs :=
  .inr ⟨_, vals xs, by rw [vals_len], heap_alloc_new w _, by rw [← vals_len, List.take_length], by rw [vals_len]; exact Nat.le_refl _, hB⟩
theorem Got.lower {w : World} {B B' : Nat} {v : Value} {xs : List Nat} (h : Got w B v xs) (hB : B' ≤ B) : Got w B' v xs := by
  rcases h with h | ⟨g, L, h1, h2, h3, h4, h5⟩
  · exact .inl h
  · exact .inr ⟨g, L, h1, h2, h3, h4, by omega⟩
theorem minGo_first (m first f : Nat) (p : List Nat) : minGo m first f first p = p := by
  cases f with
  | zero => rfl
  | succ f => rw [minGo, if_pos rfl]
set_option maxHeartbeats 800000 in
theorem rMinimal_ok {b m : Nat} (hm : Em m) {w : World} (hb : b < w.heap.size) (n : Int) :
    Calls Tryd.prog 56 #[num m, num n] w fun e w' => ∃ v, e = .returned v ∧ Got w' w.heap.size v (minS m n) ∧ w.grownBy w' none := by
  have hm1 := hm.1
  have hm2 := hm.2
  obtain ⟨E, hE⟩ : ∃ E, E = wrapS m n := ⟨_, rfl⟩
  obtain ⟨S, hSm⟩ : ∃ S, S = minS m n := ⟨_, rfl⟩
  have hp := pw_bd hm E
  have HS : Hid (S = minGo m (pw m E) m (mul m (pw m (E * 2 ^ 0)) (pw m (E * 2 ^ 0))) (tmI m [1] [pw m (E * 2 ^ 0), 1])) := by
    rw [Nat.pow_zero, Nat.mul_one, tmI_first hm hp.2, hE, hSm]; rfl
  rw [← hSm]
  have HE : Hid (xp m n = pw m E) := by rw [hE]; rfl
  have HE0 : Hid (pw m (E * 2 ^ 0) = pw m E) := by rw [Nat.pow_zero, Nat.mul_one]; rfl
  clear hE hSm
  have hG0 := Got_new w [1] w.heap.size (Nat.le_refl _)
  go_enter Tryd.func56, Tryd.ntmps56
  go_wp2_with fail
  refine (rExp_ok hm n _).mono ?_
  rintro e w1 ⟨rfl, rfl⟩
  rw [HE.out]
  go_wp2_with fail
  go_loopg [6, 7] (m - 1) (fun gk x v wr => ∃ (k : Nat) (p : List Nat), k + gk = m - 1 ∧ x = num (pw m (E * 2 ^ k)) ∧ p.length ≤ k + 1 ∧ Got wr w1.heap.size v p ∧ S = minGo m (pw m E) (m - k) (mul m (pw m (E * 2 ^ k)) (pw m (E * 2 ^ k))) (tmI m p [pw m (E * 2 ^ k), 1]) ∧ w1.grownBy wr none)
  case atStart => exact ⟨0, [1], by omega, by rw [HE0.out], by simp, hG0, HS.out, World.grownBy_alloc _ _ none⟩
  case round =>
    obtain ⟨k, p, hkg, rfl, hpl, hG, hSp, hgr⟩ := hrel
    have HSp : Hid _ := hSp
    clear hSp hG0 HS
    obtain ⟨ao, cap, rfl, hRd⟩ := hG.rd hb
    have hsz1 := hgr.size
    have hbd := pw_bd hm (E * 2 ^ k)
    have HL : Hid (el m (pw m (E * 2 ^ k) : Int) = pw m (E * 2 ^ k)) := el_of hbd.2
    have hal := World.grownBy_alloc wr (.cells (vals [pw m (E * 2 ^ k), 1]).toArray 3) none
    have ht : Calls Tryd.prog 55 #[num m, .slice ao (ints p).length cap, .slice (some ⟨wr.heap.size, 0, none⟩) 2 2] (wr.alloc (.cells #[num (pw m (E * 2 ^ k) : Nat), .int .i64 1] 3)) _ :=
      rTimes_ok hm ao (some ⟨wr.heap.size, 0, none⟩) cap 2 (ints p) (ints [pw m (E * 2 ^ k), 1]) (hRd.more hal) (Rd_new' (by omega) _) (by rw [ints_len]; omega) (by simp [ints])
    have HT : Hid (Calls Tryd.prog 55 #[num m, .slice ao (ints p).length cap, .slice (some ⟨wr.heap.size, 0, none⟩) 2 2] (wr.alloc (.cells #[num (pw m (E * 2 ^ k) : Nat), .int .i64 1] 3)) _) := ht
    have hTl := tmI_len m p [pw m (E * 2 ^ k), 1]
    have HM : Hid (mul m (pw m (E * 2 ^ k)) (pw m (E * 2 ^ k)) = pw m (E * 2 ^ (k + 1))) := by
      rw [mul_pw hm, show E * 2 ^ k + E * 2 ^ k = E * 2 ^ (k + 1) by rw [Nat.pow_succ, ← Nat.mul_assoc]; omega]; rfl
    have hg2 : w1.grownBy (wr.alloc (.cells #[num (pw m (E * 2 ^ k) : Nat), .int .i64 1] 3)) none := grownBy_trans hgr hal
    clear ht hal hRd hG
    go_wp2_with fail
    refine HT.out.mono ?_
    rintro e w5 ⟨v5, rfl, hG5, hg5⟩
    have hG5' : Got w5 w1.heap.size v5 (tmI m p [pw m (E * 2 ^ k), 1]) := Got.lower hG5 (by simp; omega)
    have hgr5 := grownBy_trans hg2 hg5
    clear hG5 hg2 hg5 HT
    go_wp2_with fail
    refine (rMul_ok hm _ _ _).mono ?_
    rintro e w6 ⟨rfl, rfl⟩
    rw [HL.out, HM.out]
    by_cases heq : pw m (E * 2 ^ (k + 1)) = pw m E
    · have heq' : ((pw m (E * 2 ^ (k + 1)) : Int) == (pw m E : Int)) = true := by rw [heq]; simp
      have HFin : Hid (S = tmI m p [pw m (E * 2 ^ k), 1]) := by
        rw [HSp.out, HM.out, heq, minGo_first]; rfl
      clear heq
      go_wp2_with fail
      go_ret
      exact ⟨_, rfl, by rw [HFin.out]; exact hG5', hgr5⟩
    · have hk1 : k + 1 < m := by
        rcases Nat.lt_or_ge (k + 1) m with h | h
        · exact h
        · exact absurd (by rw [show k + 1 = m by omega]; exact pw_frob hm E) heq
      have heq' : ((pw m (E * 2 ^ (k + 1)) : Int) == (pw m E : Int)) = false := by simp; omega
      have HN : Hid (S = minGo m (pw m E) (m - (k + 1)) (mul m (pw m (E * 2 ^ (k + 1))) (pw m (E * 2 ^ (k + 1)))) (tmI m (tmI m p [pw m (E * 2 ^ k), 1]) [pw m (E * 2 ^ (k + 1)), 1])) := by
        rw [HSp.out, HM.out, show m - k = (m - (k + 1)) + 1 by omega, minGo, if_neg heq]; rfl
      clear heq
      go_wp2_with fail
      go_roundg (gk - 1)
      case measure => omega
      case rel => exact ⟨k + 1, _, by omega, rfl, by simp at hTl; omega, hG5', HN.out, hgr5⟩
set_option maxHeartbeats 400000 in
theorem rGenerator_no {m : Nat} (hm : Em m) (w : World) (t : Int) (ht : t < 1 ∨ 8 < t ∨ (sz m : Int) < 2 * t) :
    Calls Tryd.prog 28 #[num m, num t] w fun e w' => e = .returned (.tuple #[.slice none 0 0, num 1]) ∧ w' = w := by
  have h1 : (2 : Int) ≤ m := by have := hm.1; omega
  have h2 : (m : Int) ≤ 13 := by have := hm.2; omega
  have hs := sz_bd hm
  have hsz := sz_int hm
  by_cases h1 : t < 1
  · go_enter Tryd.func28, Tryd.ntmps28
    go_wp2_with fail
    go_ret2
    exact ⟨rfl, rfl⟩
  by_cases h2 : 8 < t
  · go_enter Tryd.func28, Tryd.ntmps28
    go_wp2_with fail
    go_ret2
    exact ⟨rfl, rfl⟩
  · have h3 : (sz m : Int) < 2 * t := by omega
    clear ht
    go_enter Tryd.func28, Tryd.ntmps28
    go_wp2_with fail
    go_ret2
    exact ⟨rfl, rfl⟩
set_option maxHeartbeats 800000 in
theorem rGenerator_ok {b m : Nat} (hm : Em m) {w : World} (hb : b < w.heap.size) (t : Nat) (h1 : 1 ≤ t) (h2 : t ≤ 8) (h3 : 2 * t ≤ sz m) :
    Calls Tryd.prog 28 #[num m, num t] w fun e w' => ∃ v, e = .returned (.tuple #[v, num 0]) ∧ Got w' w.heap.size v (genS m t) ∧ w.grownBy w' none := by
  have hm1 : (2 : Int) ≤ m := by have := hm.1; omega
  have hm2 : (m : Int) ≤ 13 := by have := hm.2; omega
  have hs := sz_bd hm
  have hsz := sz_int hm
  have t1 : (1 : Int) ≤ t := by omega
  have t2 : (t : Int) ≤ 8 := by omega
  have t3 : 2 * (t : Int) ≤ sz m := by omega
  have hG0 := Got_new w [1] w.heap.size (Nat.le_refl _)
  go_enter Tryd.func28, Tryd.ntmps28
  go_wp2_with fail
  go_loopg [6, 7] (2 * t) (fun gk v c wr => ∃ n : Nat, n + gk = 2 * t ∧ c = num ((n : Int) + 1) ∧ Got wr w.heap.size v (genGo m n) ∧ w.grownBy wr none)
  case atStart => exact ⟨0, by omega, rfl, hG0, World.grownBy_alloc _ _ none⟩
  case round =>
    obtain ⟨n, hn, rfl, hG, hgr⟩ := hrel
    clear hG0
    by_cases hlt : n < 2 * t
    · have hlt' : (n : Int) + 1 ≤ 2 * (t : Int) := by omega
      have hgl := genGo_len hm n
      obtain ⟨ao, cap, rfl, hRd⟩ := hG.rd hb
      have hszw := hgr.size
      have HG : Hid (genGo m (n + 1) = if evS m (xp m ((n : Int) + 1)) (ints (genGo m n)) = 0 then genGo m n else tmI m (genGo m n) (minS m ((n : Int) + 1))) := rfl
      have HL : Hid (el m (xp m ((n : Int) + 1) : Int) = xp m ((n : Int) + 1)) := el_of (xp_bd hm _).2
      have hil : (ints (genGo m n)).length ≤ 100000 := by rw [ints_len]; omega
      go_wp2_with fail
      refine (rExp_ok hm _ _).mono ?_
      rintro e w1 ⟨rfl, rfl⟩
      go_wp2_with fail
      refine (rEval_ok hm ao cap (ints (genGo m n)) _ hRd (by omega)).mono ?_
      rintro e w1 ⟨rfl, rfl⟩
      rw [HL.out]
      by_cases hz : evS m (xp m ((n : Int) + 1)) (ints (genGo m n)) = 0
      · have hz' : (((evS m (xp m ((n : Int) + 1)) (ints (genGo m n)) : Nat) : Int) != 0) = false := by simp [hz]
        have HG2 : Hid (genGo m (n + 1) = genGo m n) := by rw [HG.out, if_pos hz]; rfl
        clear hz
        go_wp2_with fail
        go_roundg (gk - 1)
        case measure => omega
        case rel => exact ⟨n + 1, by omega, by go_num, by rw [HG2.out]; exact hG, hgr⟩
      · have hz' : (((evS m (xp m ((n : Int) + 1)) (ints (genGo m n)) : Nat) : Int) != 0) = true := by simp [hz]
        have HG2 : Hid (genGo m (n + 1) = tmI m (genGo m n) (minS m ((n : Int) + 1))) := by rw [HG.out, if_neg hz]; rfl
        have hml := minS_len m ((n : Int) + 1)
        have hm3 := hm.2
        clear hz
        go_wp2_with fail
        refine (rMinimal_ok (b := b) hm (by omega) _).mono ?_
        rintro e w3 ⟨v3, rfl, hG3, hg3⟩
        obtain ⟨ao3, cap3, rfl, hRd3⟩ := hG3.rd (b := b) (by omega)
        go_wp2_with fail
        refine (rTimes_ok hm ao ao3 cap cap3 (ints (genGo m n)) (ints (minS m ((n : Int) + 1))) (hRd.more hg3) hRd3 hil (by rw [ints_len]; omega)).mono ?_
        rintro e w4 ⟨v4, rfl, hG4, hg4⟩
        have hG4' : Got w4 w.heap.size v4 (tmI m (genGo m n) (minS m ((n : Int) + 1))) := Got.lower hG4 (by have := hg3.size; omega)
        have hgr4 := grownBy_trans hgr (grownBy_trans hg3 hg4)
        clear hG4 hG3 hG
        go_wp2_with fail
        go_roundg (gk - 1)
        case measure => omega
        case rel => exact ⟨n + 1, by omega, by go_num, by rw [HG2.out]; exact hG4', hgr4⟩
    · obtain rfl : n = 2 * t := by omega
      have hlt' : ¬ (((2 * t : Nat) : Int) + 1 ≤ 2 * (t : Int)) := by omega
      go_wp2_with fail
      go_ret2
      exact ⟨_, rfl, hG, hgr⟩
end Gf
end Go.Proofs.YtiojdoehlooibaaDoor
