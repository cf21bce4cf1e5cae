/- Bytes with bits turned: by how much words change. -/
import Derived.Test.YtiojdoehlooibaaDoorZAd
import Derived.Test.YtiojdoehlooibaaDoorZDk
namespace Go.Proofs.YtiojdoehlooibaaDoor
open Go.RowKit
namespace Gf
theorem wt_one {E : List Nat} (h : ∀ i j, nth E i = 1 → nth E j = 1 → i = j) : wt E ≤ 1 := by
  unfold wt
  have hn := supp_nodup E
  match hs : supp E with
  | [] => simp
  | [a] => simp
  | a :: b :: l =>
    exfalso
    rw [hs] at hn
    have ha : a ∈ supp E := by rw [hs]; simp
    have hb : b ∈ supp E := by rw [hs]; simp
    have e := h a b (mem_supp.1 ha).2 (mem_supp.1 hb).2
    subst e
    simp at hn
theorem wt_tri {a b c : List Nat} (h1 : a.length = b.length) (h2 : b.length = c.length) (ha : Bits a) (hb : Bits b) (hc : Bits c) : wt (xl a c) ≤ wt (xl a b) + wt (xl b c) := by
  have hl1 := xl_len h1
  have hl2 := xl_len h2
  have e : xl a c = xl (xl a b) (xl b c) := by
    apply List.ext_getElem
    · rw [xl_len (by omega), xl_len (by omega), hl1]
    · intro i i1 i2
      have e : nth (xl a c) i = nth (xl (xl a b) (xl b c)) i := by
        rw [nth_xl (by omega), nth_xl (by omega), nth_xl h1, nth_xl h2, Nat.xor_assoc, ← Nat.xor_assoc (nth b i), Nat.xor_self, Nat.zero_xor]
      rwa [nth_of i1, nth_of i2] at e
  rw [e]
  exact wt_xl_le _ _ (by omega) (bits_xl h1 ha hb) (bits_xl h2 hb hc)
theorem nth_flip {D : List Nat} {i k : Nat} (hi : i < D.length) (hk : k < 8) (j : Nat) : nth (bitsS (D.set i (nth D i ^^^ 2 ^ k))) j = nth (bitsS D) j ^^^ (if j = 8 * i + (7 - k) then 1 else 0) := by
  rw [nth_bitsS, nth_bitsS, nth_set _ _ _ _ hi]
  by_cases e : j / 8 = i
  · rw [if_pos e, testBit_val, testBit_val, Nat.testBit_xor, Nat.testBit_two_pow, e]
    by_cases ek : j = 8 * i + (7 - k)
    · rw [if_pos ek, decide_eq_true (show k = 7 - j % 8 by omega)]
      cases (nth D i).testBit (7 - j % 8) <;> rfl
    · rw [if_neg ek, decide_eq_false (show ¬ k = 7 - j % 8 by omega), Nat.xor_zero, Bool.xor_false]
  · rw [if_neg e, if_neg (by omega), Nat.xor_zero]
/-- Two pairs of rows that differ in at most n bits of the word. -/
structure Bent (ds ps ds' ps' : List Nat) (n : Nat) : Prop where
  ld : ds'.length = ds.length
  lp : ps'.length = ps.length
  bd : ∀ i, nth ds' i ≤ 255
  bp : ∀ i, nth ps' i ≤ 255
  near : ∀ r, r ≤ 8 * ps.length → wt (xl (wrdS r ds' ps') (wrdS r ds ps)) ≤ n
theorem wt_self (a : List Nat) : wt (xl a a) = 0 := by
  rw [wt, List.length_eq_zero_iff]
  refine List.eq_nil_iff_forall_not_mem.2 fun i hi => ?_
  rw [mem_supp, nth_xl rfl, Nat.xor_self] at hi
  omega
theorem Bent.start {ds ps : List Nat} (hd : ∀ i, nth ds i ≤ 255) (hp : ∀ i, nth ps i ≤ 255) : Bent ds ps ds ps 0 := ⟨rfl, rfl, hd, hp, fun r _ => by rw [wt_self]; exact Nat.le_refl _⟩
theorem two_le {k : Nat} (hk : k < 8) : 2 ^ k ≤ 255 := by
  have : 2 ^ k ≤ 2 ^ 7 := Nat.pow_le_pow_right (by decide) (by omega)
  omega
theorem Bent.dat {ds ps ds' ps' : List Nat} {n i k : Nat} (h : Bent ds ps ds' ps' n) (hi : i < ds.length) (hk : k < 8) : Bent ds ps (ds'.set i (nth ds' i ^^^ 2 ^ k)) ps' (n + 1) := by
  have hi' : i < ds'.length := by rw [h.ld]; exact hi
  refine ⟨by rw [List.length_set, h.ld], h.lp, nth_set_le h.bd _ (xor_byte (h.bd i) (two_le hk)), h.bp, fun r hr => ?_⟩
  have l1 := wrdS_len (r := r) (ds := ds'.set i (nth ds' i ^^^ 2 ^ k)) (ps := ps') (by rw [h.lp]; exact hr)
  have l2 := wrdS_len (r := r) (ds := ds') (ps := ps') (by rw [h.lp]; exact hr)
  have l3 := wrdS_len (r := r) (ds := ds) (ps := ps) hr
  rw [List.length_set] at l1
  have hone : wt (xl (wrdS r (ds'.set i (nth ds' i ^^^ 2 ^ k)) ps') (wrdS r ds' ps')) ≤ 1 := by
    refine wt_one fun a b ha hb => ?_
    have key : ∀ j, nth (xl (wrdS r (ds'.set i (nth ds' i ^^^ 2 ^ k)) ps') (wrdS r ds' ps')) j = 1 → j = 8 * i + (7 - k) := fun j hj => by
      rw [nth_xl (by omega)] at hj
      unfold wrdS at hj
      have b1 := bitsS_len (ds'.set i (nth ds' i ^^^ 2 ^ k))
      have b2 := bitsS_len ds'
      rw [List.length_set] at b1
      by_cases hjd : j < 8 * ds'.length
      · rw [nth_append_left (by omega), nth_append_left (by omega), nth_flip hi' hk, xor3, Nat.xor_self, Nat.zero_xor] at hj
        by_cases e : j = 8 * i + (7 - k)
        · exact e
        · rw [if_neg e] at hj; omega
      · rw [nth_append_right (by omega), nth_append_right (by omega), b1, b2, Nat.xor_self] at hj
        omega
    rw [key a ha, key b hb]
  have := wt_tri (by omega) (by rw [l2, l3, h.ld]) (bits_wrdS r _ _) (bits_wrdS r ds' ps') (bits_wrdS r ds ps) (a := wrdS r (ds'.set i (nth ds' i ^^^ 2 ^ k)) ps')
  have h2 := h.near r hr
  omega
theorem Bent.par {ds ps ds' ps' : List Nat} {n i k : Nat} (h : Bent ds ps ds' ps' n) (hi : i < ps.length) (hk : k < 8) : Bent ds ps ds' (ps'.set i (nth ps' i ^^^ 2 ^ k)) (n + 1) := by
  have hi' : i < ps'.length := by rw [h.lp]; exact hi
  refine ⟨h.ld, by rw [List.length_set, h.lp], h.bd, nth_set_le h.bp _ (xor_byte (h.bp i) (two_le hk)), fun r hr => ?_⟩
  have l1 := wrdS_len (r := r) (ds := ds') (ps := ps'.set i (nth ps' i ^^^ 2 ^ k)) (by rw [List.length_set, h.lp]; exact hr)
  have l2 := wrdS_len (r := r) (ds := ds') (ps := ps') (by rw [h.lp]; exact hr)
  have l3 := wrdS_len (r := r) (ds := ds) (ps := ps) hr
  have hone : wt (xl (wrdS r ds' (ps'.set i (nth ps' i ^^^ 2 ^ k))) (wrdS r ds' ps')) ≤ 1 := by
    refine wt_one fun a b ha hb => ?_
    have key : ∀ j, nth (xl (wrdS r ds' (ps'.set i (nth ps' i ^^^ 2 ^ k))) (wrdS r ds' ps')) j = 1 → j = 8 * ds'.length + (8 * i + (7 - k)) := fun j hj => by
      rw [nth_xl (by omega)] at hj
      unfold wrdS at hj
      have b2 := bitsS_len ds'
      have b3 := bitsS_len ps'
      have b4 := bitsS_len (ps'.set i (nth ps' i ^^^ 2 ^ k))
      rw [List.length_set] at b4
      by_cases hjd : j < 8 * ds'.length
      · rw [nth_append_left (by omega), nth_append_left (by omega), Nat.xor_self] at hj; omega
      · rw [nth_append_right (by omega), nth_append_right (by omega), b2] at hj
        by_cases hjr : j - 8 * ds'.length < r
        · rw [nth_take _ hjr, nth_take _ hjr, nth_flip hi' hk, xor3, Nat.xor_self, Nat.zero_xor] at hj
          by_cases e : j - 8 * ds'.length = 8 * i + (7 - k)
          · omega
          · rw [if_neg e] at hj; omega
        · rw [nth_over _ (by simp; omega), nth_over _ (by simp; omega)] at hj
          simp at hj
    rw [key a ha, key b hb]
  have := wt_tri (by omega) (by rw [l2, l3, h.ld]) (bits_wrdS r _ _) (bits_wrdS r ds' ps') (bits_wrdS r ds ps) (a := wrdS r ds' (ps'.set i (nth ps' i ^^^ 2 ^ k)))
  have h2 := h.near r hr
  omega
end Gf
end Go.Proofs.YtiojdoehlooibaaDoor
