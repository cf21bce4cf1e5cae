/- turn: bits are turned back where the locator tells. -/
import Derived.Test.YtiojdoehlooibabDoorZDe
import Derived.Test.YtiojdoehlooibabDoorZDd
namespace Go.Proofs.YtiojdoehlooibabDoor
open Go.RowKit
namespace Gf
/-- Bits of bytes turned where f says, the first k of them looked at. -/
def tb (f : Nat → Bool) (bs : List Nat) : Nat → List Nat
  | 0 => bs
  | k + 1 => if f k = true then (tb f bs k).set (k / 8) (nth (tb f bs k) (k / 8) ^^^ 128 >>> (k % 8)) else tb f bs k
theorem tb_len (f : Nat → Bool) (bs : List Nat) (k : Nat) : (tb f bs k).length = bs.length := by
  induction k with
  | zero => rfl
  | succ k ih => rw [tb]; split <;> simp [ih]
theorem xor_byte {a b : Nat} (ha : a ≤ 255) (hb : b ≤ 255) : a ^^^ b ≤ 255 := by
  have := Nat.xor_lt_two_pow (x := a) (y := b) (n := 8) (by omega) (by omega)
  omega
theorem tb_le {f : Nat → Bool} {bs : List Nat} (h : ∀ i, nth bs i ≤ 255) (k : Nat) : ∀ i, nth (tb f bs k) i ≤ 255 := by
  induction k with
  | zero => exact h
  | succ k ih =>
    rw [tb]
    split
    · exact nth_set_le ih _ (xor_byte (ih _) (by have := shr_le (k % 8); omega))
    · exact ih
/-- The bits behind that. -/
theorem nth_tb (f : Nat → Bool) (bs : List Nat) (j : Nat) : ∀ k, k ≤ 8 * bs.length → nth (bitsS (tb f bs k)) j = nth (bitsS bs) j ^^^ (if j < k ∧ f j = true then 1 else 0)
  | 0, _ => by rw [tb, if_neg (by omega), Nat.xor_zero]
  | k + 1, hk => by
    have ih := nth_tb f bs j k (by omega)
    rw [tb]
    by_cases h : f k = true
    · rw [if_pos h, nth_bitsS, nth_set _ _ _ _ (by rw [tb_len]; omega)]
      rw [nth_bitsS] at ih
      by_cases e : j / 8 = k / 8
      · rw [if_pos e, testBit_val, Nat.testBit_xor, shr128 (by omega), Nat.testBit_two_pow]
        rw [testBit_val, e] at ih
        by_cases ek : j = k
        · subst ek
          rw [if_neg (show ¬ (j < j ∧ f j = true) by omega), Nat.xor_zero] at ih
          rw [if_pos (show j < j + 1 ∧ f j = true from ⟨by omega, h⟩), ← ih]
          cases (nth (tb f bs j) (j / 8)).testBit (7 - j % 8) <;> simp
        · rw [decide_eq_false (show ¬ 7 - k % 8 = 7 - j % 8 by omega), Bool.xor_false, ih]
          by_cases a : j < k ∧ f j = true
          · rw [if_pos a, if_pos ⟨by omega, a.2⟩]
          · rw [if_neg a, if_neg fun c => a ⟨by omega, c.2⟩]
      · rw [if_neg e, ih]
        have hne : j ≠ k := fun h => e (by rw [h])
        by_cases a : j < k ∧ f j = true
        · rw [if_pos a, if_pos ⟨by omega, a.2⟩]
        · rw [if_neg a, if_neg fun c => a ⟨by omega, c.2⟩]
    · rw [if_neg h, ih]
      by_cases a : j < k ∧ f j = true
      · rw [if_pos a, if_pos ⟨by omega, a.2⟩]
      · rw [if_neg a, if_neg fun c => a ⟨by
          have : j ≠ k := fun e => h (e ▸ c.2)
          omega, c.2⟩]
/-- How many of the first k. -/
def cn (f : Nat → Bool) : Nat → Nat
  | 0 => 0
  | k + 1 => cn f k + if f k = true then 1 else 0
/-- Where the locator is 0: the J-th place from the highest power down. -/
def rt (m N : Nat) (C : List Nat) : Nat → Bool := fun J => ev m (xp m (-((N : Int) - (J : Int) - 1))) C == 0
/-- What holds while places are looked at: the first J of them. -/
structure TS (m N bytes : Nat) (C ds ps : List Nat) (Td Tp : List Value) (b c t gd gp : Nat) (w0 wr : World) (J : Nat) : Prop where
  le : J ≤ N
  dat : OwnB b wr gd (tb (rt m N C) ds (min J (8 * bytes))) Td
  par : OwnB b wr gp (tb (fun k => rt m N C (8 * bytes + k)) ps (J - 8 * bytes)) Tp
  cod : Cod wr c b m bytes t
  since : Since b w0 wr
/-- Which of the two rows. -/
structure Part (bytes pl gd gp : Nat) (cd cp : Nat) (gq len base cap : Nat) : Prop where
  is : (gq = gd ∧ len = bytes ∧ base = 0 ∧ cap = cd) ∨ (gq = gp ∧ len = pl ∧ base = 8 * bytes ∧ cap = cp)
theorem TS.step {m N bytes : Nat} {C ds ps : List Nat} {Td Tp : List Value} {b c t gd gp : Nat} {w0 wr : World} {J : Nat} (h : TS m N bytes C ds ps Td Tp b c t gd gp w0 wr J) {w' : World} (hs : Step b wr w') (hF : Fld w' b m) : TS m N bytes C ds ps Td Tp b c t gd gp w0 w' J :=
  ⟨h.le, h.dat.step hs, h.par.step hs, h.cod.step hs hF, h.since.step hs⟩
theorem TS.skip {m N bytes : Nat} {C ds ps : List Nat} {Td Tp : List Value} {b c t gd gp : Nat} {w0 wr : World} {J : Nat} (h : TS m N bytes C ds ps Td Tp b c t gd gp w0 wr J) (hJ : J < N) (hn : rt m N C J ≠ true) : TS m N bytes C ds ps Td Tp b c t gd gp w0 wr (J + 1) := by
  refine ⟨by omega, ?_, ?_, h.cod, h.since⟩
  · by_cases a : J < 8 * bytes
    · rw [show min (J + 1) (8 * bytes) = J + 1 by omega, tb, if_neg hn]
      have := h.dat
      rwa [show min J (8 * bytes) = J by omega] at this
    · rw [show min (J + 1) (8 * bytes) = min J (8 * bytes) by omega]; exact h.dat
  · by_cases a : J < 8 * bytes
    · rw [show J + 1 - 8 * bytes = J - 8 * bytes by omega]; exact h.par
    · rw [show J + 1 - 8 * bytes = J - 8 * bytes + 1 by omega, tb, if_neg (by rw [show 8 * bytes + (J - 8 * bytes) = J by omega]; exact hn)]; exact h.par
theorem TS.byte {m N bytes : Nat} {C ds ps : List Nat} {Td Tp : List Value} {b c t gd gp : Nat} {w0 wr : World} {J : Nat} (h : TS m N bytes C ds ps Td Tp b c t gd gp w0 wr J) (hJ : J < N) {pl cd cp gq len base cap i k : Nat} (hP : Part bytes pl gd gp cd cp gq len base cap) (hds : ds.length = bytes) (hps : ps.length = pl) (hne : gd ≠ gp) (hgd : w0.heap.size ≤ gd) (hgp : w0.heap.size ≤ gp) (hcd : c ≠ gd) (hcp : c ≠ gp) (hi : i < len) (hk : k < 8) (hJe : J = base + 8 * i + k) :
    ∃ x, x ≤ 255 ∧ wr.cell? ⟨gq, i, none⟩ = some (.int .u8 (x : Nat)) ∧ wr.frozen? ⟨gq, i, none⟩ = false ∧ (rt m N C J = true → TS m N bytes C ds ps Td Tp b c t gd gp w0 (wr.setCell ⟨gq, i, none⟩ (.int .u8 (x ^^^ 128 >>> k : Nat))) (J + 1)) := by
  have hmk := shr_le k
  rcases hP.is with ⟨rfl, rfl, rfl, rfl⟩ | ⟨rfl, rfl, rfl, rfl⟩
  · have hd := h.dat
    rw [show min J (8 * len) = J by omega] at hd
    have hil : i < (tb (rt m N C) ds J).length := by rw [tb_len]; omega
    refine ⟨_, hd.le i, hd.cell hil, hd.frozen i, fun hr => ⟨by omega, ?_, ?_, ?_, h.since.store hgd hd.free.1 _ _⟩⟩
    · rw [show min (J + 1) (8 * len) = J + 1 by omega, tb, if_pos hr, show J / 8 = i by omega, show J % 8 = k by omega]
      exact hd.store hil (xor_byte (hd.le i) (by omega))
    · rw [show J + 1 - 8 * len = J - 8 * len by omega]
      exact h.par.other hne.symm hd.free.1 _ _
    · exact h.cod.of_block (h.cod.fld.store hd.free _ _) (Free.store hd.free.1 h.cod.free _ _) (setCell_else hcd _)
  · have hd := h.par
    have hil : i < (tb (fun k => rt m N C (8 * bytes + k)) ps (J - 8 * bytes)).length := by rw [tb_len]; omega
    refine ⟨_, hd.le i, hd.cell hil, hd.frozen i, fun hr => ⟨by omega, ?_, ?_, ?_, h.since.store hgp hd.free.1 _ _⟩⟩
    · rw [show min (J + 1) (8 * bytes) = min J (8 * bytes) by omega]
      exact h.dat.other hne hd.free.1 _ _
    · rw [show J + 1 - 8 * bytes = J - 8 * bytes + 1 by omega, tb, if_pos (by rw [show 8 * bytes + (J - 8 * bytes) = J by omega]; exact hr), show (J - 8 * bytes) / 8 = i by omega, show (J - 8 * bytes) % 8 = k by omega]
      exact hd.store hil (xor_byte (hd.le i) (by omega))
    · exact h.cod.of_block (h.cod.fld.store hd.free _ _) (Free.store hd.free.1 h.cod.free _ _) (setCell_else hcp _)
/-- What turn answers: it stopped behind J places. -/
def TurnPost (m N bytes : Nat) (C ds ps : List Nat) (Td Tp : List Value) (b c t gd gp v : Nat) (w0 : World) (e : Ending) (w' : World) : Prop := ∃ J, TS m N bytes C ds ps Td Tp b c t gd gp w0 w' J ∧ e = .returned (num (cn (rt m N C) J : Nat)) ∧ (cn (rt m N C) J = v ∨ J = N)
theorem cn_le (f : Nat → Bool) (k : Nat) : cn f k ≤ k := by
  induction k with
  | zero => exact Nat.le_refl _
  | succ k ih => rw [cn]; split <;> omega
end Gf
end Go.Proofs.YtiojdoehlooibabDoor
