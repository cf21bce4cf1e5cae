/- Minimal and Generator; and whether two rows are the same. -/
import Derived.Test.YtiojdoehlooibaaDoorZTm
import Derived.Deep.LoopGhost
namespace Go.Proofs.YtiojdoehlooibaaDoor
open Go.RowKit
namespace Gf
theorem lg_pw_mod {m : Nat} (h : Em m) (i : Nat) : lg m (pw m i) = i % sz m := by
  have hs := sz_bd h
  rw [← pw_mod h i, lg_pw h (Nat.mod_lt _ (by omega))]
theorem mul_pw {m : Nat} (h : Em m) (i j : Nat) : mul m (pw m i) (pw m j) = pw m (i + j) := by
  have b1 := pw_bd h i
  have b2 := pw_bd h j
  unfold mul
  rw [if_neg (by omega), lg_pw_mod h, lg_pw_mod h, ← pw_mod h (i + j), ← pw_mod h (i % sz m + j % sz m)]
  congr 1
  rw [← Nat.add_mod]
/-- Squared m times it is itself again. -/
theorem pw_frob {m : Nat} (h : Em m) (e : Nat) : pw m (e * 2 ^ m) = pw m e := by
  have hs := sz_succ m
  rw [← hs, Nat.mul_add, Nat.mul_one, Nat.add_comm]
  have : ∀ k, pw m (e + k * sz m) = pw m e := by
    intro k
    induction k with
    | zero => simp
    | succ k ih =>
      rw [Nat.succ_mul, ← Nat.add_assoc, pw_period h, ih]
  exact this e
/-- Times, as a function of rows. -/
def tmI (m : Nat) (p q : List Nat) : List Nat := tmS m (rowS m (ints p)) (rowS m (ints q))
theorem tmI_len (m : Nat) (p q : List Nat) : (tmI m p q).length ≤ p.length + q.length - 1 := by
  have h1 := rowS_len m (ints p)
  have h2 := rowS_len m (ints q)
  rw [ints_len] at h1 h2
  unfold tmI tmS
  split
  · simp
  · rw [outer_len]; simp; omega
/-- Minimal's loop. -/
def minGo (m first : Nat) : Nat → Nat → List Nat → List Nat
  | 0, _, p => p
  | f + 1, a, p => if a = first then p else minGo m first f (mul m a a) (tmI m p [a, 1])
/-- Minimal. -/
def minS (m : Nat) (n : Int) : List Nat := minGo m (pw m (wrapS m n)) m (mul m (pw m (wrapS m n)) (pw m (wrapS m n))) [pw m (wrapS m n), 1]
theorem minGo_len (m first : Nat) : ∀ f a p, (minGo m first f a p).length ≤ p.length + f
  | 0, _, _ => by simp [minGo]
  | f + 1, a, p => by
    rw [minGo]
    split
    · omega
    · have h1 := minGo_len m first f (mul m a a) (tmI m p [a, 1])
      have h2 := tmI_len m p [a, 1]
      simp at h2
      omega
theorem minS_len (m : Nat) (n : Int) : (minS m n).length ≤ m + 2 := by
  have := minGo_len m (pw m (wrapS m n)) m (mul m (pw m (wrapS m n)) (pw m (wrapS m n))) [pw m (wrapS m n), 1]
  simp at this
  unfold minS; omega
/-- The generator, behind the first n powers. -/
def genGo (m : Nat) : Nat → List Nat
  | 0 => [1]
  | n + 1 => if evS m (pw m (wrapS m ((n + 1 : Nat) : Int))) (ints (genGo m n)) = 0 then genGo m n else tmI m (genGo m n) (minS m ((n + 1 : Nat) : Int))
def genS (m t : Nat) : List Nat := genGo m (2 * t)
theorem genGo_len {m : Nat} (h : Em m) : ∀ n, (genGo m n).length ≤ 15 * n + 1
  | 0 => by simp [genGo]
  | n + 1 => by
    have ih := genGo_len h n
    have h2 := h.2
    rw [genGo]
    split
    · omega
    · have h1 := tmI_len m (genGo m n) (minS m ((n + 1 : Nat) : Int))
      have h3 := minS_len m ((n + 1 : Nat) : Int)
      omega
theorem ints_two (a : Nat) : ints [a, 1] = [(a : Int), 1] := rfl
theorem Rd_new {b m : Nat} {w : World} (h : Fld w b m) (xs : List Nat) : Rd b (w.alloc (.cells (vals xs).toArray 3)) (some ⟨w.heap.size, 0, none⟩) (ints xs) := by
  have hO := Own.new h (vals xs)
  refine .inr ⟨_, 0, rfl, hO.free.1, fun i hi => ?_⟩
  rw [ints_len] at hi
  rw [Nat.zero_add, hO.cell, vals_at hi, ints_getD]
theorem Res_new {b m : Nat} {w : World} (h : Fld w b m) (xs : List Nat) (B : Nat) (hB : B ≤ w.heap.size) : Res b (w.alloc (.cells (vals xs).toArray 3)) B (.slice (some ⟨w.heap.size, 0, none⟩) xs.length xs.length) xs :=
  .inr ⟨_, vals xs, by rw [vals_len], Own.new h _, by rw [← vals_len, List.take_length], by rw [vals_len]; exact Nat.le_refl _, hB⟩
set_option maxHeartbeats 800000 in
theorem minimal_ok {b m : Nat} {w : World} (h : Fld w b m) (n : Int) :
    Calls Tryd.prog 50 #[ptr b, num n] w fun e w' => ∃ v, e = .returned v ∧ Res b w' w.heap.size v (minS m n) ∧ Fld w' b m ∧ Step b w w' := by
  have hem := h.em
  have hm2 := hem.2
  have hm1 := hem.1
  obtain ⟨E, hE⟩ : ∃ E, E = wrapS m n := ⟨_, rfl⟩
  obtain ⟨S, hSm⟩ : ∃ S, S = minS m n := ⟨_, rfl⟩
  have HS : Hid (S = minGo m (pw m E) m (mul m (pw m E) (pw m E)) [pw m E, 1]) := by rw [hE, hSm]; rfl
  rw [← hSm]
  have HE : Hid (E = wrapS m n) := hE
  clear hE hSm
  have hp := pw_bd hem E
  have HL : Hid (el m (pw m E : Int) = pw m E) := el_of hp.2
  go_enter Tryd.func50, Tryd.ntmps50
  go_wp2_with (go_at_call 68; refine (none_ok h).mono ?_; rintro e w' ⟨rfl, rfl⟩)
  refine (exp_ok h n).mono ?_
  rintro e w1 ⟨rfl, hF1, hs1⟩
  rw [← HE.out]
  have hR0 := Res_new hF1 [pw m E, 1] _ hs1.size
  have hS1 := hs1.trans (Step.alloc hF1 (.cells (vals [pw m E, 1]).toArray 3))
  have hF1' := hF1.alloc (.cells (vals [pw m E, 1]).toArray 3)
  go_wp2_with fail
  refine (mul_ok hF1' _ _).mono ?_
  rintro e w2 ⟨rfl, hF2, hs2⟩
  rw [HL.out, mul_pw hem, show E + E = E * 2 ^ 1 by omega]
  have hR2 := hR0.step hs2
  have hS2 := hS1.trans hs2
  have HS1 : Hid (S = minGo m (pw m E) (m + 1 - 1) (pw m (E * 2 ^ 1)) [pw m E, 1]) := by
    rw [HS.out, mul_pw hem, show E + E = E * 2 ^ 1 by omega]; rfl
  clear hR0 hS1 hs2 hs1 hF1' hF1 HS HL
  go_wp2_with fail
  go_loopg [6, 7] (m - 1) (fun gk v a wr => ∃ (k : Nat) (p : List Nat), 1 ≤ k ∧ k + gk = m ∧ a = num (pw m (E * 2 ^ k)) ∧ p.length ≤ k + 1 ∧ Res b wr w'.heap.size v p ∧ S = minGo m (pw m E) (m + 1 - k) (pw m (E * 2 ^ k)) p ∧ Fld wr b m ∧ Step b w' wr)
  case atStart => exact ⟨1, _, Nat.le_refl _, by omega, rfl, by simp, hR2, HS1.out, hF2, hS2⟩
  case round =>
    obtain ⟨k, p, hk1, hkm, rfl, hpl, hR, hSp, hF, hSt⟩ := hrel
    have HSp : Hid _ := hSp
    clear hSp hR2 HS1 hF2 hS2
    obtain ⟨ao, cap, rfl, hRd⟩ := hR.rd
    by_cases heq : pw m (E * 2 ^ k) = pw m E
    · have heq' : (((pw m (E * 2 ^ k) : Nat) : Int) != ((pw m E : Nat) : Int)) = false := by simp [heq]
      have HFin : Hid (S = p) := by
        rw [HSp.out, show m + 1 - k = (m - k) + 1 by omega, minGo, if_pos heq]; rfl
      clear heq
      go_wp2_with fail
      go_ret
      exact ⟨_, rfl, by rw [HFin.out]; exact hR, hF, hSt⟩
    · have hkm' : k < m := by
        rcases Nat.lt_or_ge k m with h | h
        · exact h
        · exact absurd (by rw [show k = m by omega]; exact pw_frob hem E) heq
      have heq' : (((pw m (E * 2 ^ k) : Nat) : Int) != ((pw m E : Nat) : Int)) = true := by simp; omega
      have hb := pw_bd hem (E * 2 ^ k)
      have HL : Hid (el m (pw m (E * 2 ^ k) : Int) = pw m (E * 2 ^ k)) := el_of hb.2
      have HN : Hid (S = minGo m (pw m E) (m + 1 - (k + 1)) (pw m (E * 2 ^ (k + 1))) (tmI m p [pw m (E * 2 ^ k), 1])) := by
        rw [HSp.out, show m + 1 - k = (m + 1 - (k + 1)) + 1 by omega, minGo, if_neg heq, mul_pw hem, show E * 2 ^ k + E * 2 ^ k = E * 2 ^ (k + 1) by rw [Nat.pow_succ, ← Nat.mul_assoc]; omega]; rfl
      have hTl := tmI_len m p [pw m (E * 2 ^ k), 1]
      have hSt3 := hSt.trans (Step.alloc hF (.cells (vals [pw m (E * 2 ^ k), 1]).toArray 3))
      have hF3 := hF.alloc (.cells (vals [pw m (E * 2 ^ k), 1]).toArray 3)
      have hRd3 := hRd.step (Step.alloc hF (.cells (vals [pw m (E * 2 ^ k), 1]).toArray 3))
      have hRdN := Rd_new hF [pw m (E * 2 ^ k), 1]
      have hpm : (ints p).length ≤ 1000000 := by rw [ints_len]; omega
      have ht : Calls Tryd.prog 49 #[ptr b, .slice ao (ints p).length cap, .slice (some ⟨wr.heap.size, 0, none⟩) 2 2] (wr.alloc (.cells #[num (pw m (E * 2 ^ k) : Nat), .int .i64 1] 3)) _ :=
        times_ok hF3 ao (some ⟨wr.heap.size, 0, none⟩) cap 2 (ints p) (ints [pw m (E * 2 ^ k), 1]) hRd3 hRdN hpm (by simp [ints])
      have HT : Hid (Calls Tryd.prog 49 #[ptr b, .slice ao (ints p).length cap, .slice (some ⟨wr.heap.size, 0, none⟩) 2 2] (wr.alloc (.cells #[num (pw m (E * 2 ^ k) : Nat), .int .i64 1] 3)) _) := ht
      clear heq hb hRd ht hRdN hRd3
      go_wp2_with fail
      refine HT.out.mono ?_
      rintro e w5 ⟨v5, rfl, hR5, hF5, hs5⟩
      go_wp2_with fail
      refine (mul_ok hF5 _ _).mono ?_
      rintro e w6 ⟨rfl, hF6, hs6⟩
      rw [HL.out, mul_pw hem, show E * 2 ^ k + E * 2 ^ k = E * 2 ^ (k + 1) by rw [Nat.pow_succ, ← Nat.mul_assoc]; omega]
      have hR6 : Res b w6 w'.heap.size v5 (tmI m p [pw m (E * 2 ^ k), 1]) := by
        refine (Res.step ?_ hs6)
        rcases hR5 with hR5 | ⟨g, L, q1, q2, q3, q4, q5⟩
        · exact .inl hR5
        · refine .inr ⟨g, L, q1, q2, q3, q4, ?_⟩
          have := hSt.size
          simp at q5
          omega
      have hS6 := hSt3.trans (hs5.trans hs6)
      clear hR5 hs5 hs6 hF5 HT hSt3 hF3 hR hF
      go_wp2_with fail
      go_roundg (gk - 1)
      case measure => omega
      case rel => exact ⟨k + 1, _, by omega, by omega, rfl, by simp at hTl; omega, hR6, HN.out, hF6, hS6⟩
set_option maxHeartbeats 400000 in
theorem generator_no {b m : Nat} {w : World} (h : Fld w b m) (t : Int) (ht : t < 1 ∨ 8 < t ∨ (sz m : Int) < 2 * t) :
    Calls Tryd.prog 26 #[ptr b, num t] w fun e w' => e = .returned (.tuple #[.slice none 0 0, num 1]) ∧ w' = w := by
  have hs := sz_bd h.em
  have hs' : (sz m : Int) ≤ 8191 := by omega
  clear hs
  by_cases h1 : t < 1
  · go_enter Tryd.func26, Tryd.ntmps26
    go_wp2
    go_ret2
    exact ⟨rfl, rfl⟩
  by_cases h2 : 8 < t
  · go_enter Tryd.func26, Tryd.ntmps26
    go_wp2
    go_ret2
    exact ⟨rfl, rfl⟩
  · have h3 : (sz m : Int) < 2 * t := by omega
    clear ht
    go_enter Tryd.func26, Tryd.ntmps26
    go_wp2_with (go_at_call 46; refine (size_ok h).mono ?_; rintro e w' ⟨rfl, rfl⟩)
    go_ret2
    exact ⟨rfl, rfl⟩
set_option maxHeartbeats 800000 in
theorem generator_ok {b m : Nat} {w : World} (h : Fld w b m) (t : Nat) (h1 : 1 ≤ t) (h2 : t ≤ 8) (h3 : 2 * t ≤ sz m) :
    Calls Tryd.prog 26 #[ptr b, num t] w fun e w' => ∃ v, e = .returned (.tuple #[v, num 0]) ∧ Res b w' w.heap.size v (genS m t) ∧ Fld w' b m ∧ Step b w w' := by
  have hem := h.em
  have hs := sz_bd hem
  have hs' : (sz m : Int) ≤ 8191 := by omega
  have t1 : (1 : Int) ≤ t := by omega
  have t2 : (t : Int) ≤ 8 := by omega
  have t3 : 2 * (t : Int) ≤ sz m := by omega
  have hR0 := Res_new h [1] w.heap.size (Nat.le_refl _)
  have hS0 := Step.alloc h (.cells (vals [1]).toArray 3)
  have hF0 := h.alloc (.cells (vals [1]).toArray 3)
  have hm2 := hem.2
  go_enter Tryd.func26, Tryd.ntmps26
  go_wp2_with (go_at_call 46; refine (size_ok h).mono ?_; rintro e w' ⟨rfl, rfl⟩)
  go_loopg [6, 7] (2 * t) (fun gk v c wr => ∃ n : Nat, n + gk = 2 * t ∧ c = num ((n : Int) + 1) ∧ Res b wr w'.heap.size v (genGo m n) ∧ Fld wr b m ∧ Step b w' wr)
  case atStart => exact ⟨0, by omega, rfl, hR0, hF0, hS0⟩
  case round =>
    obtain ⟨n, hn, rfl, hR, hF, hSt⟩ := hrel
    clear hR0 hS0 hF0
    by_cases hlt : n < 2 * t
    · have hlt' : (n : Int) + 1 ≤ 2 * (t : Int) := by omega
      have hgl := genGo_len hem n
      obtain ⟨ao, cap, rfl, hRd⟩ := hR.rd
      have hpm : (ints (genGo m n)).length ≤ 1000000 := by rw [ints_len]; omega
      have HG : Hid (genGo m (n + 1) = if evS m (pw m (wrapS m ((n : Int) + 1))) (ints (genGo m n)) = 0 then genGo m n else tmI m (genGo m n) (minS m ((n : Int) + 1))) := rfl
      have hpw := pw_bd hem (wrapS m ((n : Int) + 1))
      have HL : Hid (el m (pw m (wrapS m ((n : Int) + 1)) : Int) = pw m (wrapS m ((n : Int) + 1))) := el_of hpw.2
      go_wp2_with (go_at_call 48; refine (exp_ok hF _).mono ?_; rintro e w1 ⟨rfl, hF1, hs1⟩)
      refine (eval_ok hF1 ao cap (ints (genGo m n)) _ (hRd.step hs1) (by omega)).mono ?_
      rintro e w2 ⟨rfl, hF2, hs2⟩
      rw [HL.out]
      have hSt2 := hSt.trans (hs1.trans hs2)
      have hR2 := (hR.step hs1).step hs2
      by_cases hz : evS m (pw m (wrapS m ((n : Int) + 1))) (ints (genGo m n)) = 0
      · have hz' : (((evS m (pw m (wrapS m ((n : Int) + 1))) (ints (genGo m n)) : Nat) : Int) != 0) = false := by simp [hz]
        have HG2 : Hid (genGo m (n + 1) = genGo m n) := by rw [HG.out, if_pos hz]; rfl
        clear hz
        go_wp2_with fail
        go_roundg (gk - 1)
        case measure => omega
        case rel => exact ⟨n + 1, by omega, by go_num, by rw [HG2.out]; exact hR2, hF2, hSt2⟩
      · have hz' : (((evS m (pw m (wrapS m ((n : Int) + 1))) (ints (genGo m n)) : Nat) : Int) != 0) = true := by simp [hz]
        have HG2 : Hid (genGo m (n + 1) = tmI m (genGo m n) (minS m ((n : Int) + 1))) := by rw [HG.out, if_neg hz]; rfl
        have hml := minS_len m ((n : Int) + 1)
        clear hz
        go_wp2_with (go_at_call 50; refine (minimal_ok hF2 _).mono ?_; rintro e w3 ⟨v3, rfl, hR3, hF3, hs3⟩)
        obtain ⟨ao3, cap3, rfl, hRd3⟩ := hR3.rd
        have hRdp := (hRd.step hs1).step (hs2.trans hs3)
        refine (times_ok hF3 ao ao3 cap cap3 (ints (genGo m n)) (ints (minS m ((n : Int) + 1))) hRdp hRd3 hpm (by rw [ints_len]; omega)).mono ?_
        rintro e w4 ⟨v4, rfl, hR4, hF4, hs4⟩
        have hS4 := hSt2.trans (hs3.trans hs4)
        have hR4' : Res b w4 w'.heap.size v4 (tmI m (genGo m n) (minS m ((n : Int) + 1))) := by
          rcases hR4 with hR4 | ⟨g, L, q1, q2, q3, q4, q5⟩
          · exact .inl hR4
          · refine .inr ⟨g, L, q1, q2, q3, q4, ?_⟩
            have := (hSt2.trans hs3).size
            omega
        clear hR4 hR3 hR2 hR
        go_wp2_with fail
        go_roundg (gk - 1)
        case measure => omega
        case rel => exact ⟨n + 1, by omega, by go_num, by rw [HG2.out]; exact hR4', hF4, hS4⟩
    · obtain rfl : n = 2 * t := by omega
      have hlt' : ¬ (((2 * t : Nat) : Int) + 1 ≤ 2 * (t : Int)) := by omega
      go_wp2_with fail
      go_ret2
      exact ⟨_, rfl, hR, hF, hSt⟩
end Gf
end Go.Proofs.YtiojdoehlooibaaDoor
