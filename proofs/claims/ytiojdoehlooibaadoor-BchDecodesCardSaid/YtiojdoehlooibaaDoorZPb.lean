/- Bits laid into bytes and taken out of them again. -/
import Derived.Test.YtiojdoehlooibaaDoorZSc
namespace Go.Proofs.YtiojdoehlooibaaDoor
namespace Gf
theorem shr128 {j : Nat} (hj : j < 8) : 128 >>> j = 2 ^ (7 - j) := by
  have : j = 0 ∨ j = 1 ∨ j = 2 ∨ j = 3 ∨ j = 4 ∨ j = 5 ∨ j = 6 ∨ j = 7 := by omega
  rcases this with rfl | rfl | rfl | rfl | rfl | rfl | rfl | rfl <;> rfl
theorem nth_set (r : List Nat) (k v j : Nat) (hk : k < r.length) : nth (r.set k v) j = if j = k then v else nth r j := by
  unfold nth
  rw [List.getD_eq_getElem?_getD, List.getElem?_set]
  by_cases e : k = j
  · subst e; simp [hk]
  · rw [if_neg e, if_neg (fun h => e h.symm), ← List.getD_eq_getElem?_getD]
/-- The bit k of bytes into which the first i bits were laid. -/
theorem pack_bit (l : List Nat) (k : Nat) : ∀ i, i ≤ l.length → (nth (packGo l i) (k / 8)).testBit (7 - k % 8) = decide (k < i ∧ nth l k = 1)
  | 0, _ => by rw [packGo, nth_zeros, Nat.zero_testBit]; simp
  | i + 1, hi => by
    have ih := pack_bit l k i (by omega)
    have hlen := packGo_len l i
    rw [packGo]
    by_cases h1 : nth l i = 1
    · rw [if_pos h1, nth_set _ _ _ _ (by omega)]
      by_cases e : k / 8 = i / 8
      · rw [if_pos e, Nat.testBit_or, ← e, ih, shr128 (by omega), Nat.testBit_two_pow]
        by_cases ek : k = i
        · subst ek; simp [h1]
        · have : ¬ (7 - i % 8 = 7 - k % 8) := by omega
          by_cases hlt : k < i
          · simp [this, hlt, show k < i + 1 by omega]
          · simp [this, hlt, show ¬ k < i + 1 by omega]
      · rw [if_neg e, ih]
        have : k ≠ i := fun h => e (by rw [h])
        by_cases hlt : k < i
        · simp [hlt, show k < i + 1 by omega]
        · simp [hlt, show ¬ k < i + 1 by omega]
    · rw [if_neg h1, ih]
      by_cases ek : k = i
      · subst ek; simp [h1]
      · by_cases hlt : k < i
        · simp [hlt, show k < i + 1 by omega]
        · simp [hlt, show ¬ k < i + 1 by omega]
theorem nth_append_left {a b : List Nat} {k : Nat} (h : k < a.length) : nth (a ++ b) k = nth a k := by
  unfold nth
  rw [List.getD_eq_getElem?_getD, List.getElem?_append_left h, ← List.getD_eq_getElem?_getD]
theorem nth_append_right {a b : List Nat} {k : Nat} (h : a.length ≤ k) : nth (a ++ b) k = nth b (k - a.length) := by
  unfold nth
  rw [List.getD_eq_getElem?_getD, List.getElem?_append_right h, ← List.getD_eq_getElem?_getD]
/-- The bits of bytes, one by one. -/
theorem nth_bitsS : ∀ (bs : List Nat) (k : Nat), nth (bitsS bs) k = nth bs (k / 8) / 2 ^ (7 - k % 8) % 2
  | [], k => by rw [show bitsS [] = [] from rfl, nth_nil, nth_nil]; simp
  | b :: bs, k => by
    have e : bitsS (b :: bs) = byteBits b ++ bitsS bs := by rw [bitsS, List.flatMap_cons]; rfl
    rw [e]
    by_cases hk : k < 8
    · rw [nth_append_left (by rw [byteBits_len]; exact hk), nth_of (by rw [byteBits_len]; exact hk), show k / 8 = 0 by omega, nth_cons_zero, show k % 8 = k by omega]
      simp [byteBits]
    · rw [nth_append_right (by rw [byteBits_len]; omega), byteBits_len, nth_bitsS bs, show k / 8 = (k - 8) / 8 + 1 by omega, nth_cons_succ, show (k - 8) % 8 = k % 8 by omega]
theorem testBit_val (a b : Nat) : a / 2 ^ b % 2 = if a.testBit b then 1 else 0 := by
  rw [Nat.testBit_eq_decide_div_mod_eq]
  rcases Nat.mod_two_eq_zero_or_one (a / 2 ^ b) with h | h <;> simp [h]
theorem bits_bitsS (bs : List Nat) : Bits (bitsS bs) := fun k => by
  rw [nth_bitsS]
  have := Nat.mod_lt (nth bs (k / 8) / 2 ^ (7 - k % 8)) (show 0 < 2 by decide)
  omega
/-- What was laid into bytes is found in them, and 0 behind it. -/
theorem nth_bits_bytes {l : List Nat} (h : Bits l) (k : Nat) : nth (bitsS (bytesS l)) k = nth l k := by
  rw [nth_bitsS, testBit_val, bytesS, pack_bit l k l.length (Nat.le_refl _)]
  have hb := h k
  by_cases hk : k < l.length
  · by_cases e : nth l k = 1
    · simp [hk, e]
    · simp [e]; omega
  · rw [nth_over l (by omega)]; simp
theorem byte_eq {a b : Nat} (ha : a ≤ 255) (hb : b ≤ 255) (h : ∀ j, j < 8 → a / 2 ^ (7 - j) % 2 = b / 2 ^ (7 - j) % 2) : a = b := by
  apply Nat.eq_of_testBit_eq
  intro i
  by_cases hi : i < 8
  · have := h (7 - i) (by omega)
    rw [show 7 - (7 - i) = i by omega] at this
    rw [Nat.testBit_eq_decide_div_mod_eq, Nat.testBit_eq_decide_div_mod_eq, this]
  · have hp : 2 ^ 8 ≤ 2 ^ i := Nat.pow_le_pow_right (by decide) (by omega)
    rw [Nat.testBit_lt_two_pow (by omega), Nat.testBit_lt_two_pow (by omega)]
/-- Bytes with the same bits are the same. -/
theorem bytes_eq {a b : List Nat} (hl : a.length = b.length) (ha : ∀ k, nth a k ≤ 255) (hb : ∀ k, nth b k ≤ 255) (h : ∀ k, nth (bitsS a) k = nth (bitsS b) k) : a = b := by
  apply List.ext_getElem hl
  intro i h1 h2
  have e : nth a i = nth b i := byte_eq (ha i) (hb i) fun j hj => by
    have := h (8 * i + j)
    rw [nth_bitsS, nth_bitsS, show (8 * i + j) / 8 = i by omega, show (8 * i + j) % 8 = j by omega] at this
    exact this
  rwa [nth_of h1, nth_of h2] at e
theorem bytes_bits {bs : List Nat} (hb : ∀ k, nth bs k ≤ 255) : bytesS (bitsS bs) = bs := by
  have hl := bitsS_len bs
  refine bytes_eq ?_ (fun k => packGo_le _ _ k) hb fun k => nth_bits_bytes (bits_bitsS bs) k
  rw [bytesS, packGo_len, hl]; omega
end Gf
end Go.Proofs.YtiojdoehlooibaaDoor

/- Division of bits by a generator, the highest first: what is left, and that it is nothing just of a word. -/
namespace Go.Proofs.YtiojdoehlooibaaDoor
namespace Gf
/-- G laid over b from place i on: its first k. -/
def xo (b G : List Nat) (i : Nat) : Nat → List Nat
  | 0 => b
  | k + 1 => put (xo b G i k) (i + k) (nth G k)
theorem xo_len (b G : List Nat) (i k : Nat) : (xo b G i k).length = b.length := by
  induction k with
  | zero => rfl
  | succ k ih => rw [xo, put_len, ih]
theorem nth_xo (b G : List Nat) (i j : Nat) : ∀ k, i + k ≤ b.length → nth (xo b G i k) j = nth b j ^^^ (if i ≤ j ∧ j < i + k then nth G (j - i) else 0)
  | 0, _ => by rw [xo, if_neg (by omega), Nat.xor_zero]
  | k + 1, h => by
    have ih := nth_xo b G i j k (by omega)
    rw [xo, nth_put _ _ _ _ (by rw [xo_len]; omega)]
    by_cases e : j = i + k
    · subst e
      rw [if_pos rfl, ih, if_neg (by omega), if_pos (by omega), Nat.xor_zero, Nat.add_sub_cancel_left]
    · rw [if_neg e, ih]
      by_cases h1 : i ≤ j ∧ j < i + k
      · rw [if_pos h1, if_pos (by omega)]
      · rw [if_neg h1, if_neg (by omega)]
/-- The first i places taken out. -/
def dv (G a : List Nat) : Nat → List Nat
  | 0 => a
  | i + 1 => if nth (dv G a i) i = 1 then xo (dv G a i) G i G.length else dv G a i
theorem dv_len (G a : List Nat) (i : Nat) : (dv G a i).length = a.length := by
  induction i with
  | zero => rfl
  | succ i ih => rw [dv]; split <;> simp [xo_len, ih]
theorem bits_xo {b G : List Nat} (hb : Bits b) (hG : Bits G) (i k : Nat) (h : i + k ≤ b.length) : Bits (xo b G i k) := fun j => by
  rw [nth_xo _ _ _ _ _ h]
  split
  · exact bit_xor (hb j) (hG _)
  · rw [Nat.xor_zero]; exact hb j
theorem bits_dv {G a : List Nat} (ha : Bits a) (hG : Bits G) : ∀ i, i + G.length ≤ a.length + 1 → Bits (dv G a i)
  | 0, _ => ha
  | i + 1, h => by
    have ih := bits_dv ha hG i (by omega)
    rw [dv]
    split
    · exact bits_xo ih hG i _ (by rw [dv_len]; omega)
    · exact ih
/-- What was taken out is 0. -/
theorem dv_zero {G a : List Nat} (ha : Bits a) (hG : Bits G) (hg : 0 < G.length) (h1 : nth G 0 = 1) : ∀ i, i + G.length ≤ a.length + 1 → ∀ j, j < i → nth (dv G a i) j = 0
  | 0, _, j, hj => by omega
  | i + 1, h, j, hj => by
    have ih := dv_zero ha hG hg h1 i (by omega)
    have hb := bits_dv ha hG i (by omega)
    rw [dv]
    split
    · rename_i e
      rw [nth_xo _ _ _ _ _ (by rw [dv_len]; omega)]
      by_cases ej : j = i
      · subst ej
        rw [if_pos (by omega), Nat.sub_self, h1, e]; rfl
      · rw [if_neg (by omega), ih j (by omega)]; rfl
    · rename_i e
      by_cases ej : j = i
      · subst ej; have := hb j; omega
      · exact ih j (by omega)
theorem nth_rev {l : List Nat} {k : Nat} (hk : k < l.length) : nth l.reverse k = nth l (l.length - 1 - k) := by
  rw [nth_of (by simpa using hk), nth_of (by omega)]; simp
theorem rev_put {r : List Nat} {k v : Nat} (hk : k < r.length) : (put r k v).reverse = put r.reverse (r.length - 1 - k) v := by
  apply List.ext_getElem (by simp [put])
  intro i h1 h2
  have hi : i < r.length := by simpa [put] using h1
  have e1 : nth (put r k v).reverse i = nth (put r.reverse (r.length - 1 - k) v) i := by
    rw [nth_rev (by rw [put_len]; exact hi), put_len, nth_put _ _ _ _ hk, nth_put _ _ _ _ (by simp; omega), nth_rev hi, nth_rev (by omega)]
    by_cases e : r.length - 1 - i = k
    · rw [if_pos e, if_pos (by omega), show r.length - 1 - (r.length - 1 - k) = k by omega]
    · rw [if_neg e, if_neg (by omega)]
  rwa [nth_of h1, nth_of h2] at e1
theorem els_xo {m : Nat} {b G : List Nat} (hb : Els m b) (hG : Els m G) (i : Nat) : ∀ k, Els m (xo b G i k)
  | 0 => hb
  | k + 1 => (els_xo hb hG i k).put _ (hG k)
theorem ev_xo {m x : Nat} (h : Em m) (hx : x ≤ sz m) {b G : List Nat} (hb : Els m b) (hG : Els m G) (i : Nat) : ∀ k, k ≤ G.length → i + k ≤ b.length → ev m x (xo b G i k).reverse = ev m x b.reverse ^^^ mul m (ev m x (G.take k).reverse) (px m x (b.length - i - k))
  | 0, _, _ => by rw [xo, List.take_zero, List.reverse_nil, ev_nil, zero_mul, Nat.xor_zero]
  | k + 1, h1, h2 => by
    have ih := ev_xo h hx hb hG i k (by omega) (by omega)
    have hE := els_xo hb hG i k
    rw [xo, rev_put (by rw [xo_len]; omega), ev_put h hx _ _ _ (els_rev hE) (hG k) (by rw [List.length_reverse, xo_len]; omega), ih, xo_len, take_snoc' (by omega), List.reverse_append, List.reverse_singleton, List.singleton_append, ev_cons x (hG k)]
    have hT := ev_le h x (G.take k).reverse
    rw [xor_mul h (px_le h _ _) (mul_le h _ _) (hG k), Nat.xor_assoc]
    congr 1
    congr 1
    · rw [show b.length - i - k = b.length - i - (k + 1) + 1 by omega, px, mul_assoc h hT hx (px_le h _ _), mul_comm m x]
    · rw [show b.length - 1 - (i + k) = b.length - i - (k + 1) by omega]
/-- Taking out does not change the value at a zero of G. -/
theorem ev_dv {m x : Nat} (h : Em m) (hx : x ≤ sz m) {G a : List Nat} (ha : Bits a) (hG : Bits G) (g0 : ev m x G.reverse = 0) : ∀ i, i + G.length ≤ a.length + 1 → ev m x (dv G a i).reverse = ev m x a.reverse
  | 0, _ => rfl
  | i + 1, hi => by
    have ih := ev_dv h hx ha hG g0 i (by omega)
    have hb := bits_dv ha hG i (by omega)
    rw [dv]
    split
    · rw [ev_xo h hx (hb.els h) (hG.els h) i _ (Nat.le_refl _) (by rw [dv_len]; omega), List.take_length, g0, zero_mul, Nat.xor_zero, ih]
    · exact ih
end Gf
end Go.Proofs.YtiojdoehlooibaaDoor

/- The parity with which data are a word: it is what is left, and there is one alone. -/
namespace Go.Proofs.YtiojdoehlooibaaDoor
namespace Gf
theorem gen_is {m : Nat} (h : Em m) (t : Nat) : Gi m (xn m) (genS m t) (2 * t) := genGo_inv h (xn_els h) xn_trimmed (2 * t) fun _ _ _ _ => xn_roots h _
/-- The generator, the highest coefficient first. -/
def gH (m t : Nat) : List Nat := (genS m t).reverse
theorem gH_len (m t : Nat) : (gH m t).length = (genS m t).length := by simp [gH]
theorem bits_rev {l : List Nat} (h : Bits l) : Bits l.reverse := fun k => by
  by_cases hk : k < l.length
  · rw [nth_rev hk]; exact h _
  · rw [nth_over _ (by simpa using hk)]; omega
theorem gH_bits {m : Nat} (h : Em m) (t : Nat) : Bits (gH m t) := bits_rev (gen_is h t).bits
theorem gH_pos {m : Nat} (h : Em m) (t : Nat) : 0 < (gH m t).length := by
  rw [gH_len]; exact List.length_pos_iff.2 (gen_is h t).ne
theorem gH_head {m : Nat} (h : Em m) (t : Nat) : nth (gH m t) 0 = 1 := by
  have hp := gH_pos h t
  rw [gH_len] at hp
  have h1 := (gen_is h t).trm (gen_is h t).ne
  have h2 := (gen_is h t).bits ((genS m t).length - 1)
  rw [gH, nth_rev hp, Nat.sub_zero]
  omega
theorem gH_root {m : Nat} (h : Em m) {t e : Nat} (h1 : 1 ≤ e) (h2 : e ≤ 2 * t) : ev m (pw m e) (gH m t).reverse = 0 := by
  have := (gen_is h t).roots e h1 h2
  rw [pw_wrap h] at this
  rw [gH, List.reverse_reverse]
  exact this
/-- A word whose degree is below the generator's is nothing. -/
theorem low_zero {m t : Nat} (h : Em m) {w : List Nat} (hw : IsW m t w) (hlow : ∀ k, (genS m t).length ≤ k + 1 → nth w k = 0) : ∀ k, nth w k = 0 := by
  have hr := (isW_rest h hw.1).1 hw
  have hne := (gen_is h t).ne
  have hp : 0 < (genS m t).length := List.length_pos_iff.2 hne
  have hlen : (trimN w).length < (genS m t).length := by
    apply Classical.byContradiction
    intro hge
    have hne' : trimN w ≠ [] := fun e => by rw [e, List.length_nil] at hge; omega
    have := trimmed_trim w hne'
    rw [nth_trim] at this
    exact this (hlow _ (by omega))
  have e : trimN w = [] := by
    rw [restS, if_neg hne] at hr
    cases hl : (trimN w).length with
    | zero => exact List.eq_nil_of_length_eq_zero hl
    | succ n => rw [hl, restGo, if_pos hlen] at hr; exact hr
  intro k
  rw [← nth_trim, e, nth_nil]
/-- What is left of bits by the generator: the last ones. -/
def left (m t : Nat) (l : List Nat) : List Nat := (dv (gH m t) l (l.length - ((genS m t).length - 1))).drop (l.length - ((genS m t).length - 1))
theorem left_len {m t : Nat} {l : List Nat} (hl : (genS m t).length - 1 ≤ l.length) : (left m t l).length = (genS m t).length - 1 := by
  rw [left, List.length_drop, dv_len]; omega
theorem nth_drop (l : List Nat) (n k : Nat) : nth (l.drop n) k = nth l (n + k) := by
  unfold nth
  rw [List.getD_eq_getElem?_getD, List.getD_eq_getElem?_getD, List.getElem?_drop]
theorem bits_left {m : Nat} (h : Em m) {t : Nat} {l : List Nat} (hb : Bits l) (hl : (genS m t).length - 1 ≤ l.length) : Bits (left m t l) := fun k => by
  have hp := gH_pos h t
  have hg := gH_len m t
  rw [left, nth_drop]
  exact bits_dv hb (gH_bits h t) _ (by omega) _
/-- Bits are a word just where nothing is left. -/
theorem whole_iff {m : Nat} (h : Em m) {t : Nat} {l : List Nat} (hb : Bits l) (hl : (genS m t).length - 1 ≤ l.length) : IsW m t l.reverse ↔ ∀ k, nth (left m t l) k = 0 := by
  have hp := gH_pos h t
  have hg := gH_len m t
  have hD := bits_dv hb (gH_bits h t) (l.length - ((genS m t).length - 1)) (by omega)
  have hZ := dv_zero hb (gH_bits h t) hp (gH_head h t) (l.length - ((genS m t).length - 1)) (by omega)
  have hE : ∀ e, 1 ≤ e → e ≤ 2 * t → ev m (pw m e) (dv (gH m t) l (l.length - ((genS m t).length - 1))).reverse = ev m (pw m e) l.reverse := fun e h1 h2 => ev_dv h (pw_bd h e).2 hb (gH_bits h t) (gH_root h h1 h2) _ (by omega)
  have hlen := dv_len (gH m t) l (l.length - ((genS m t).length - 1))
  constructor
  · intro hw k
    have hw2 : IsW m t (dv (gH m t) l (l.length - ((genS m t).length - 1))).reverse := ⟨bits_rev hD, fun e h1 h2 => by rw [hE e h1 h2]; exact hw.2 e h1 h2⟩
    have hz := low_zero h hw2 fun k hk => by
      by_cases hkl : k < l.length
      · rw [nth_rev (by omega), hlen]
        exact hZ _ (by omega)
      · exact nth_over _ (by simp; omega)
    rw [left, nth_drop]
    by_cases hk : l.length - ((genS m t).length - 1) + k < l.length
    · have := hz (l.length - 1 - (l.length - ((genS m t).length - 1) + k))
      rw [nth_rev (by omega), hlen, show l.length - 1 - (l.length - 1 - (l.length - ((genS m t).length - 1) + k)) = l.length - ((genS m t).length - 1) + k by omega] at this
      exact this
    · exact nth_over _ (by omega)
  · intro hk
    refine ⟨bits_rev hb, fun e h1 h2 => ?_⟩
    have hz : ∀ j, nth (dv (gH m t) l (l.length - ((genS m t).length - 1))) j = 0 := fun j => by
      by_cases hj : j < l.length - ((genS m t).length - 1)
      · exact hZ j hj
      · have := hk (j - (l.length - ((genS m t).length - 1)))
        rw [left, nth_drop, show l.length - ((genS m t).length - 1) + (j - (l.length - ((genS m t).length - 1))) = j by omega] at this
        exact this
    rw [← hE e h1 h2]
    have hz' : ∀ j, nth (dv (gH m t) l (l.length - ((genS m t).length - 1))).reverse j = nth [] j := fun j => by
      rw [nth_nil]
      by_cases hj : j < l.length
      · rw [nth_rev (by omega)]; exact hz _
      · exact nth_over _ (by simp; omega)
    rw [ev_of_nth _ ((bits_rev hD).els h) (fun k => by rw [nth_nil]; exact Nat.zero_le _) hz', ev_nil]
/-- The parity of data. -/
def par (m t : Nat) (D : List Nat) : List Nat := left m t (D ++ List.replicate ((genS m t).length - 1) 0)
theorem bits_append {a b : List Nat} (ha : Bits a) (hb : Bits b) : Bits (a ++ b) := fun k => by
  by_cases hk : k < a.length
  · rw [nth_append_left hk]; exact ha k
  · rw [nth_append_right (by omega)]; exact hb _
theorem bits_zeros (n : Nat) : Bits (List.replicate n 0) := fun k => by rw [nth_zeros]; omega
theorem par_len (m t : Nat) (D : List Nat) : (par m t D).length = (genS m t).length - 1 := by
  rw [par, left_len (by simp)]
theorem bits_par {m : Nat} (h : Em m) (t : Nat) {D : List Nat} (hD : Bits D) : Bits (par m t D) := bits_left h (bits_append hD (bits_zeros _)) (by simp)
theorem xl_rev {a b : List Nat} (h : a.length = b.length) : (xl a b).reverse = xl a.reverse b.reverse := by
  apply List.ext_getElem (by simp [xl])
  intro i h1 h2
  have hi : i < a.length := by simp [xl] at h1; omega
  have e : nth (xl a b).reverse i = nth (xl a.reverse b.reverse) i := by
    rw [nth_rev (by rw [xl_len h]; exact hi), xl_len h, nth_xl h, nth_xl (by simpa using h), nth_rev hi, nth_rev (by omega), h]
  rwa [nth_of h1, nth_of h2] at e
/-- Data with their parity are a word. -/
theorem par_word {m : Nat} (h : Em m) (t : Nat) {D : List Nat} (hD : Bits D) : IsW m t (D ++ par m t D).reverse := by
  have hp := gH_pos h t
  have hg := gH_len m t
  have hA : Bits (D ++ List.replicate ((genS m t).length - 1) 0) := bits_append hD (bits_zeros _)
  have hAl : (D ++ List.replicate ((genS m t).length - 1) 0).length = D.length + ((genS m t).length - 1) := by simp
  obtain ⟨A, hAe⟩ : ∃ A, A = D ++ List.replicate ((genS m t).length - 1) 0 := ⟨_, rfl⟩
  rw [← hAe] at hA hAl
  have hpar : par m t D = (dv (gH m t) A D.length).drop D.length := by
    rw [par, left, ← hAe, hAl, show D.length + ((genS m t).length - 1) - ((genS m t).length - 1) = D.length by omega]
  have hd := bits_dv hA (gH_bits h t) D.length (by omega)
  have hz := dv_zero hA (gH_bits h t) hp (gH_head h t) D.length (by omega)
  have hdl := dv_len (gH m t) A D.length
  have hW : D ++ par m t D = xl A (dv (gH m t) A D.length) := by
    apply List.ext_getElem
    · rw [xl_len (by omega), List.length_append, par_len, hAl]
    · intro i h1 h2
      have e : nth (D ++ par m t D) i = nth (xl A (dv (gH m t) A D.length)) i := by
        rw [nth_xl (by omega)]
        by_cases hi : i < D.length
        · rw [nth_append_left hi, hz i hi, Nat.xor_zero, hAe, nth_append_left hi]
        · rw [nth_append_right (by omega), hpar, nth_drop, show D.length + (i - D.length) = i by omega]
          have : nth A i = 0 := by rw [hAe, nth_append_right (by omega), nth_zeros]
          rw [this, Nat.zero_xor]
      rwa [nth_of h1, nth_of h2] at e
  rw [hW, xl_rev (by omega)]
  refine ⟨bits_xl (by simp; omega) (bits_rev hA) (bits_rev hd), fun e h1 h2 => ?_⟩
  rw [ev_xl h (pw_bd h e).2 _ _ (by simp; omega) ((bits_rev hA).els h) ((bits_rev hd).els h), ev_dv h (pw_bd h e).2 hA (gH_bits h t) (gH_root h h1 h2) _ (by omega), Nat.xor_self]
/-- There is one parity alone. -/
theorem par_one {m : Nat} (h : Em m) (t : Nat) {D P : List Nat} (hD : Bits D) (hl : P.length = (genS m t).length - 1) (hw : IsW m t (D ++ P).reverse) : P = par m t D := by
  have hw2 := par_word h t hD
  have hpl := par_len m t D
  have hl2 : (D ++ P).length = (D ++ par m t D).length := by simp; omega
  have hx := isW_xl h (by simpa using hl2) hw hw2
  rw [← xl_rev hl2] at hx
  have hxl := xl_len hl2
  have hz := low_zero h hx fun k hk => by
    by_cases hkl : k < (D ++ P).length
    · rw [nth_rev (by omega), hxl, nth_xl hl2]
      have hd : (D ++ P).length - 1 - k < D.length := by simp at hkl ⊢; omega
      rw [nth_append_left hd, nth_append_left hd, Nat.xor_self]
    · exact nth_over _ (by rw [List.length_reverse, hxl]; omega)
  refine xl_self_eq (by omega) fun k => ?_
  by_cases hk : k < P.length
  · have := hz ((D ++ P).length - 1 - (D.length + k))
    rw [nth_rev (by rw [hxl]; simp; omega), hxl, show (D ++ P).length - 1 - ((D ++ P).length - 1 - (D.length + k)) = D.length + k by simp; omega, nth_xl hl2, nth_append_right (by omega), nth_append_right (by omega), Nat.add_sub_cancel_left] at this
    exact this
  · rw [nth_over _ (by omega), nth_over _ (by omega)]; rfl
end Gf
end Go.Proofs.YtiojdoehlooibaaDoor

/- The register by which parity is reckoned: bytes that are pushed through it leave what the generator leaves of them. -/
namespace Go.Proofs.YtiojdoehlooibaaDoor
namespace Gf
/-- A register as its bits, the highest first. -/
abbrev Reg := Nat → Bool
def stB (b f : Reg) : Reg := fun j => f (j + 1) ^^ (f 0 && b j)
def stN (b : Reg) : Nat → Reg → Reg
  | 0, f => f
  | n + 1, f => stB b (stN b n f)
def rx (f g : Reg) : Reg := fun j => f j ^^ g j
theorem stB_rx (b f g : Reg) : stB b (rx f g) = rx (stB b f) (stB b g) := funext fun j => by
  simp only [stB, rx]
  cases f (j + 1) <;> cases g (j + 1) <;> cases f 0 <;> cases g 0 <;> cases b j <;> rfl
theorem stN_rx (b : Reg) (n : Nat) (f g : Reg) : stN b n (rx f g) = rx (stN b n f) (stN b n g) := by
  induction n with
  | zero => rfl
  | succ n ih => rw [stN, ih, stB_rx]; rfl
theorem stN_low (b : Reg) : ∀ (n : Nat) (f : Reg), (∀ j, j < n → f j = false) → stN b n f = fun j => f (j + n)
  | 0, f, _ => rfl
  | n + 1, f, h => by
    rw [stN, stN_low b n f fun j hj => h j (by omega)]
    funext j
    simp only [stB, Nat.zero_add, h n (by omega), Bool.false_and, Bool.xor_false]
    congr 1
    omega
/-- A bit fed in. -/
def feed (b f : Reg) (x : Bool) : Reg := fun j => f (j + 1) ^^ ((f 0 ^^ x) && b j)
def fdn (b f : Reg) (ys : Nat → Bool) : Nat → Reg
  | 0 => f
  | n + 1 => feed b (fdn b f ys n) (ys n)
def cut (n : Nat) (ys : Nat → Bool) : Reg := fun j => if j < n then ys j else false
theorem fdn_st (b f : Reg) (ys : Nat → Bool) : ∀ n, fdn b f ys n = stN b n (rx f (cut n ys))
  | 0 => by
    show f = rx f (cut 0 ys)
    funext j
    simp [rx, cut]
  | n + 1 => by
    have e1 : rx f (cut (n + 1) ys) = rx (rx f (cut n ys)) (fun j => decide (j = n) && ys n) := by
      funext j
      simp only [rx, cut]
      by_cases a : j < n
      · rw [if_pos (by omega), if_pos a, decide_eq_false (by omega)]; simp
      · by_cases e : j = n
        · subst e; simp
        · rw [if_neg (by omega), if_neg a, decide_eq_false e]; simp
    have e2 : stN b n (fun j => decide (j = n) && ys n) = fun j => decide (j = 0) && ys n := by
      rw [stN_low b n _ fun j hj => by rw [decide_eq_false (by omega)]; rfl]
      funext j
      by_cases e : j = 0
      · subst e; simp
      · rw [decide_eq_false (by omega), decide_eq_false e]
    rw [e1, stN, stN_rx, e2, fdn, fdn_st b f ys n]
    funext j
    simp only [feed, stB, rx]
    rw [decide_eq_false (show ¬ j + 1 = 0 by omega)]
    simp
theorem fdn_add (b f : Reg) (ys : Nat → Bool) (i : Nat) : ∀ n, fdn b f ys (i + n) = fdn b (fdn b f ys i) (fun k => ys (i + k)) n
  | 0 => rfl
  | n + 1 => by rw [← Nat.add_assoc, fdn, fdn, fdn_add b f ys i n]
/-- A whole byte. -/
theorem fdn_byte (b f : Reg) (ys : Nat → Bool) (i : Nat) : fdn b f ys (i + 8) = rx (fun j => fdn b f ys i (j + 8)) (stN b 8 fun j => if j < 8 then fdn b f ys i j ^^ ys (i + j) else false) := by
  rw [fdn_add, fdn_st]
  have e : rx (fdn b f ys i) (cut 8 fun k => ys (i + k)) = rx (fun j => if j < 8 then false else fdn b f ys i j) (fun j => if j < 8 then fdn b f ys i j ^^ ys (i + j) else false) := by
    funext j
    simp only [rx, cut]
    by_cases a : j < 8
    · rw [if_pos a, if_pos a, if_pos a]; simp
    · rw [if_neg a, if_neg a, if_neg a]
  rw [e, stN_rx, stN_low b 8 (fun j => if j < 8 then false else fdn b f ys i j) fun j hj => if_pos hj]
  funext j
  simp only [rx]
  rw [if_neg (by omega)]
theorem toNat_xor (x y : Bool) : (x ^^ y).toNat = x.toNat ^^^ y.toNat := by cases x <;> cases y <;> rfl
/-- What is left of bits, by the register. -/
theorem dv_reg {G L : List Nat} {n : Nat} (hlen : n + G.length ≤ L.length + 1) {b : Reg} (hb : ∀ j, (b j).toNat = nth G (j + 1)) {ys : Nat → Bool} (hy : ∀ i, i < n → (ys i).toNat = nth L i) : ∀ i, i ≤ n → ∀ j, nth (dv G L i) (i + j) = nth L (i + j) ^^^ (fdn b (fun _ => false) ys i j).toNat
  | 0, _, j => by
    show nth L (0 + j) = nth L (0 + j) ^^^ 0
    rw [Nat.xor_zero]
  | i + 1, hi, j => by
    have ih := dv_reg hlen hb hy i (by omega)
    have i0 := ih 0
    have i1 := ih (j + 1)
    rw [Nat.add_zero, ← hy i (by omega), ← toNat_xor] at i0
    rw [show i + (j + 1) = i + 1 + j by omega] at i1
    rw [dv, fdn]
    simp only [feed]
    by_cases a : nth (dv G L i) i = 1
    · rw [if_pos a, nth_xo _ _ _ _ _ (by rw [dv_len]; omega), i1, Nat.xor_assoc]
      congr 1
      have hx : (fdn b (fun _ => false) ys i 0 ^^ ys i) = true := by
        rw [a] at i0
        rw [Bool.xor_comm]
        cases hq : (ys i ^^ fdn b (fun _ => false) ys i 0) with
        | true => rfl
        | false => rw [hq] at i0; simp at i0
      rw [hx, Bool.true_and, toNat_xor, hb]
      congr 1
      by_cases c : i + 1 + j < i + G.length
      · rw [if_pos ⟨by omega, c⟩, show i + 1 + j - i = j + 1 by omega]
      · rw [if_neg (by omega), nth_over _ (by omega)]
    · rw [if_neg a, i1]
      have hx : (fdn b (fun _ => false) ys i 0 ^^ ys i) = false := by
        rw [Bool.xor_comm]
        cases hq : (ys i ^^ fdn b (fun _ => false) ys i 0) with
        | false => rfl
        | true => rw [hq] at i0; simp at i0; omega
      rw [hx, Bool.false_and, Bool.xor_false]
/-- The bits of a row. -/
def onB (D : List Nat) : Nat → Bool := fun i => nth D i == 1
theorem onB_toNat {D : List Nat} (h : Bits D) (i : Nat) : (onB D i).toNat = nth D i := by
  have := h i
  unfold onB
  have : nth D i = 0 ∨ nth D i = 1 := by omega
  rcases this with e | e <;> rw [e] <;> rfl
/-- The parity, by the register. -/
theorem par_reg {m t : Nat} (h : Em m) {D : List Nat} (hD : Bits D) {b : Reg} (hb : ∀ j, (b j).toNat = nth (gH m t) (j + 1)) (j : Nat) : nth (par m t D) j = (fdn b (fun _ => false) (onB D) D.length j).toNat := by
  have hp := gH_pos h t
  have hg := gH_len m t
  have hAl : (D ++ List.replicate ((genS m t).length - 1) 0).length = D.length + ((genS m t).length - 1) := by simp
  have key := dv_reg (G := gH m t) (L := D ++ List.replicate ((genS m t).length - 1) 0) (n := D.length) (by omega) hb (ys := onB D) (fun i hi => by rw [onB_toNat hD, nth_append_left hi]) D.length (Nat.le_refl _) j
  rw [nth_append_right (by omega), nth_zeros, Nat.zero_xor] at key
  rw [par, left, hAl, nth_drop, show D.length + ((genS m t).length - 1) - ((genS m t).length - 1) = D.length by omega, key]
/-- Two words of 64 bits as a register. -/
def rb (h l j : Nat) : Bool := if j < 64 then h.testBit (63 - j) else if j < 128 then l.testBit (127 - j) else false
def W64 (x : Nat) : Prop := x < 18446744073709551616
theorem tb_hi {x i : Nat} (h : W64 x) (hi : 64 ≤ i) : x.testBit i = false := Nat.testBit_lt_two_pow (Nat.lt_of_lt_of_le h (Nat.pow_le_pow_right (by decide) hi : 2 ^ 64 ≤ 2 ^ i))
def pH (h l : Nat) : Nat := (h <<< 8) % 2 ^ 64 ||| l >>> 56
def pL (l : Nat) : Nat := (l <<< 8) % 2 ^ 64
def tH (h l : Nat) : Nat := (h <<< 1) % 2 ^ 64 ||| l >>> 63
def tL (l : Nat) : Nat := (l <<< 1) % 2 ^ 64
def oH (h a : Nat) : Nat := h >>> 1 ||| (a <<< 63) % 2 ^ 64
def oL (h l : Nat) : Nat := l >>> 1 ||| (h <<< 63) % 2 ^ 64
theorem w64_mod (x : Nat) : W64 (x % 2 ^ 64) := Nat.mod_lt _ (by decide)
theorem w64_shr {x : Nat} (h : W64 x) (k : Nat) : W64 (x >>> k) := by
  unfold W64 at *
  rw [Nat.shiftRight_eq_div_pow]
  exact Nat.lt_of_le_of_lt (Nat.div_le_self _ _) h
theorem w64_or {x y : Nat} (h : W64 x) (k : W64 y) : W64 (x ||| y) := Nat.or_lt_two_pow (n := 64) h k
theorem w64_xor {x y : Nat} (h : W64 x) (k : W64 y) : W64 (x ^^^ y) := Nat.xor_lt_two_pow (n := 64) h k
theorem w64_pH {l : Nat} (h : Nat) (k : W64 l) : W64 (pH h l) := w64_or (w64_mod _) (w64_shr k _)
theorem w64_pL (l : Nat) : W64 (pL l) := w64_mod _
theorem w64_tH {l : Nat} (h : Nat) (k : W64 l) : W64 (tH h l) := w64_or (w64_mod _) (w64_shr k _)
theorem w64_tL (l : Nat) : W64 (tL l) := w64_mod _
theorem w64_oH {h : Nat} (k : W64 h) (a : Nat) : W64 (oH h a) := w64_or (w64_shr k _) (w64_mod _)
theorem w64_oL {l : Nat} (h : Nat) (k : W64 l) : W64 (oL h l) := w64_or (w64_shr k _) (w64_mod _)
theorem rb_xor (h l h' l' j : Nat) : rb (h ^^^ h') (l ^^^ l') j = (rb h l j ^^ rb h' l' j) := by
  unfold rb
  split
  · rw [Nat.testBit_xor]
  · split
    · rw [Nat.testBit_xor]
    · rfl
theorem rb_push {h l : Nat} (k : W64 l) (j : Nat) : rb (pH h l) (pL l) j = rb h l (j + 8) := by
  unfold rb pH pL
  by_cases a : j < 56
  · rw [if_pos (show j < 64 by omega), if_pos (show j + 8 < 64 by omega), Nat.testBit_or, Nat.testBit_mod_two_pow, Nat.testBit_shiftLeft, Nat.testBit_shiftRight, tb_hi k (show 64 ≤ 56 + (63 - j) by omega), decide_eq_true (show 63 - j < 64 by omega), decide_eq_true (show 63 - j ≥ 8 by omega), show 63 - j - 8 = 63 - (j + 8) by omega]
    simp
  · by_cases c : j < 64
    · rw [if_pos c, if_neg (by omega), if_pos (by omega), Nat.testBit_or, Nat.testBit_mod_two_pow, Nat.testBit_shiftLeft, Nat.testBit_shiftRight, decide_eq_false (show ¬ 63 - j ≥ 8 by omega), show 56 + (63 - j) = 127 - (j + 8) by omega]
      simp
    · rw [if_neg c, if_neg (show ¬ j + 8 < 64 by omega)]
      by_cases d : j < 120
      · rw [if_pos (by omega), if_pos (by omega), Nat.testBit_mod_two_pow, Nat.testBit_shiftLeft, decide_eq_true (show 127 - j < 64 by omega), decide_eq_true (show 127 - j ≥ 8 by omega), show 127 - j - 8 = 127 - (j + 8) by omega]
        simp
      · rw [if_neg (show ¬ j + 8 < 128 by omega)]
        split
        · rw [Nat.testBit_mod_two_pow, Nat.testBit_shiftLeft, decide_eq_false (show ¬ 127 - j ≥ 8 by omega)]
          simp
        · rfl
theorem rb_tm {h l : Nat} (k : W64 l) (j : Nat) : rb (tH h l) (tL l) j = rb h l (j + 1) := by
  unfold rb tH tL
  by_cases a : j < 63
  · rw [if_pos (show j < 64 by omega), if_pos (show j + 1 < 64 by omega), Nat.testBit_or, Nat.testBit_mod_two_pow, Nat.testBit_shiftLeft, Nat.testBit_shiftRight, tb_hi k (show 64 ≤ 63 + (63 - j) by omega), decide_eq_true (show 63 - j < 64 by omega), decide_eq_true (show 63 - j ≥ 1 by omega), show 63 - j - 1 = 63 - (j + 1) by omega]
    simp
  · by_cases c : j < 64
    · rw [if_pos c, if_neg (by omega), if_pos (by omega), Nat.testBit_or, Nat.testBit_mod_two_pow, Nat.testBit_shiftLeft, Nat.testBit_shiftRight, decide_eq_false (show ¬ 63 - j ≥ 1 by omega), show 63 + (63 - j) = 127 - (j + 1) by omega]
      simp
    · rw [if_neg c, if_neg (show ¬ j + 1 < 64 by omega)]
      by_cases d : j < 127
      · rw [if_pos (by omega), if_pos (by omega), Nat.testBit_mod_two_pow, Nat.testBit_shiftLeft, decide_eq_true (show 127 - j < 64 by omega), decide_eq_true (show 127 - j ≥ 1 by omega), show 127 - j - 1 = 127 - (j + 1) by omega]
        simp
      · rw [if_neg (show ¬ j + 1 < 128 by omega)]
        split
        · rw [Nat.testBit_mod_two_pow, Nat.testBit_shiftLeft, decide_eq_false (show ¬ 127 - j ≥ 1 by omega)]
          simp
        · rfl
theorem rb_lower {h l a : Nat} (kh : W64 h) (kl : W64 l) (ha : a ≤ 1) (j : Nat) (hj : j < 128) : rb (oH h a) (oL h l) j = if j = 0 then a == 1 else rb h l (j - 1) := by
  unfold rb oH oL
  by_cases e : j = 0
  · subst e
    rw [if_pos (by omega), if_pos rfl, Nat.testBit_or, Nat.testBit_mod_two_pow, Nat.testBit_shiftLeft, Nat.testBit_shiftRight, tb_hi kh (by omega)]
    have : a = 0 ∨ a = 1 := by omega
    rcases this with rfl | rfl <;> rfl
  · rw [if_neg e]
    by_cases c : j < 64
    · rw [if_pos c, if_pos (by omega), Nat.testBit_or, Nat.testBit_mod_two_pow, Nat.testBit_shiftLeft, Nat.testBit_shiftRight, decide_eq_false (show ¬ 63 - j ≥ 63 by omega), show 1 + (63 - j) = 63 - (j - 1) by omega]
      simp
    · rw [if_neg c, if_pos hj, Nat.testBit_or, Nat.testBit_mod_two_pow, Nat.testBit_shiftLeft, Nat.testBit_shiftRight]
      by_cases d : j = 64
      · subst d
        rw [tb_hi kl (by omega)]
        simp
      · rw [decide_eq_false (show ¬ 127 - j ≥ 63 by omega), if_neg (by omega), if_pos (by omega), show 1 + (127 - j) = 127 - (j - 1) by omega]
        simp
/-- The highest byte. -/
theorem rb_top {h l j : Nat} (hj : j < 8) : (h >>> 56).testBit (7 - j) = rb h l j := by
  unfold rb
  rw [if_pos (by omega), Nat.testBit_shiftRight, show 56 + (7 - j) = 63 - j by omega]
theorem top_le {h : Nat} (k : W64 h) : h >>> 56 ≤ 255 := by
  unfold W64 at k
  rw [Nat.shiftRight_eq_div_pow]
  omega
/-- A table's entry: what is left of a byte. -/
def Ent8 (b : Reg) (q h l : Nat) : Prop := W64 h ∧ W64 l ∧ ∀ j, rb h l j = stN b 8 (fun j => if j < 8 then q.testBit (7 - j) else false) j
/-- The register behind so many bits. -/
structure RegIs (b : Reg) (ys : Nat → Bool) (i h l : Nat) : Prop where
  hi : W64 h
  lo : W64 l
  is : ∀ j, rb h l j = fdn b (fun _ => false) ys i j
theorem RegIs.start (b : Reg) (ys : Nat → Bool) : RegIs b ys 0 0 0 := ⟨by unfold W64; decide, by unfold W64; decide, fun j => by
  unfold rb
  rw [Nat.zero_testBit, Nat.zero_testBit]
  show (if j < 64 then false else if j < 128 then false else false) = false
  split
  · rfl
  · split <;> rfl⟩
theorem onB_byte (bs : List Nat) {i j : Nat} (hj : j < 8) : onB (bitsS bs) (8 * i + j) = (nth bs i).testBit (7 - j) := by
  unfold onB
  rw [nth_bitsS, show (8 * i + j) / 8 = i by omega, show (8 * i + j) % 8 = j by omega, testBit_val]
  cases (nth bs i).testBit (7 - j) <;> rfl
theorem RegIs.byte {b : Reg} {bs : List Nat} {i h l h' l' : Nat} (r : RegIs b (onB (bitsS bs)) (8 * i) h l) (e : Ent8 b (h >>> 56 ^^^ nth bs i) h' l') : RegIs b (onB (bitsS bs)) (8 * (i + 1)) (pH h l ^^^ h') (pL l ^^^ l') := by
  refine ⟨w64_xor (w64_pH _ r.lo) e.1, w64_xor (w64_pL _) e.2.1, fun j => ?_⟩
  rw [rb_xor, rb_push r.lo, e.2.2, show 8 * (i + 1) = 8 * i + 8 by omega, fdn_byte]
  simp only [rx]
  rw [r.is]
  congr 2
  funext j
  by_cases a : j < 8
  · rw [if_pos a, if_pos a, Nat.testBit_xor, rb_top (l := l) a, r.is, onB_byte bs a]
  · rw [if_neg a, if_neg a]
/-- One step of a table's entry. -/
structure Tm (b : Reg) (q n h l : Nat) : Prop where
  hi : W64 h
  lo : W64 l
  is : ∀ j, rb h l j = stN b n (fun j => if j < 8 then q.testBit (7 - j) else false) j
theorem Tm.start (b : Reg) {q : Nat} (hq : q ≤ 255) : Tm b q 0 (q <<< 56) 0 := by
  have hw : W64 (q <<< 56) := by unfold W64; rw [Nat.shiftLeft_eq]; omega
  refine ⟨hw, by unfold W64; decide, fun j => ?_⟩
  show rb (q <<< 56) 0 j = if j < 8 then q.testBit (7 - j) else false
  unfold rb
  rw [Nat.zero_testBit]
  by_cases a : j < 8
  · rw [if_pos (by omega), if_pos a, Nat.testBit_shiftLeft, decide_eq_true (show 63 - j ≥ 56 by omega), show 63 - j - 56 = 7 - j by omega]; simp
  · rw [if_neg a]
    split
    · rw [Nat.testBit_shiftLeft, decide_eq_false (show ¬ 63 - j ≥ 56 by omega)]; simp
    · split <;> rfl
theorem rb_zero {h l : Nat} (k : W64 h) : rb h l 0 = true ↔ ¬ h >>> 63 = 0 := by
  unfold W64 at k
  unfold rb
  rw [if_pos (by omega), Nat.shiftRight_eq_div_pow, Nat.testBit_eq_decide_div_mod_eq]
  simp
  omega
theorem Tm.step {b : Reg} {q n h l bh bl : Nat} (r : Tm b q n h l) (hb : ∀ j, rb bh bl j = b j) (kh : W64 bh) (kl : W64 bl) :
    Tm b q (n + 1) (if h >>> 63 = 0 then tH h l else tH h l ^^^ bh) (if h >>> 63 = 0 then tL l else tL l ^^^ bl) := by
  by_cases e : h >>> 63 = 0
  · rw [if_pos e, if_pos e]
    refine ⟨w64_tH _ r.lo, w64_tL _, fun j => ?_⟩
    have h0 : rb h l 0 = false := by
      rw [← Bool.not_eq_true, rb_zero r.hi]; exact fun h => h e
    rw [rb_tm r.lo, stN]
    simp only [stB]
    rw [← r.is, ← r.is, h0]; simp
  · rw [if_neg e, if_neg e]
    refine ⟨w64_xor (w64_tH _ r.lo) kh, w64_xor (w64_tL _) kl, fun j => ?_⟩
    have h0 : rb h l 0 = true := (rb_zero r.hi).2 e
    rw [rb_xor, rb_tm r.lo, stN]
    simp only [stB]
    rw [← r.is, ← r.is, h0, hb]; simp
theorem Tm.ent {b : Reg} {q h l : Nat} (r : Tm b q 8 h l) : Ent8 b q h l := ⟨r.hi, r.lo, r.is⟩
/-- The generator's other coefficients, moved in one by one. -/
structure Low (g : List Nat) (k h l : Nat) : Prop where
  hi : W64 h
  lo : W64 l
  is : ∀ j, rb h l j = if j < k then nth g (k - 1 - j) == 1 else false
theorem Low.start (g : List Nat) : Low g 0 0 0 := ⟨by unfold W64; decide, by unfold W64; decide, fun j => by
  rw [if_neg (by omega)]
  exact (RegIs.start (fun _ => false) (fun _ => false)).is j⟩
theorem Low.step {g : List Nat} {k h l : Nat} (r : Low g k h l) (hg : Bits g) (hk : k < 128) : Low g (k + 1) (oH h (nth g k)) (oL h l) := by
  refine ⟨w64_oH r.hi _, w64_oL _ r.lo, fun j => ?_⟩
  by_cases hj : j < 128
  · rw [rb_lower r.hi r.lo (hg k) j hj]
    by_cases e : j = 0
    · subst e; rw [if_pos rfl, if_pos (by omega)]; rfl
    · rw [if_neg e, r.is]
      by_cases c : j < k + 1
      · rw [if_pos (by omega), if_pos c, show k - 1 - (j - 1) = k + 1 - 1 - j by omega]
      · rw [if_neg (by omega), if_neg c]
  · rw [if_neg (by omega)]
    unfold rb
    rw [if_neg (by omega), if_neg hj]
/-- The register of the generator's coefficients below its highest. -/
def gB (m t : Nat) : Reg := fun j => nth (gH m t) (j + 1) == 1
theorem gB_toNat {m : Nat} (h : Em m) (t j : Nat) : (gB m t j).toNat = nth (gH m t) (j + 1) := onB_toNat (gH_bits h t) (j + 1)
theorem Low.gen {m t h l : Nat} (r : Low (genS m t) ((genS m t).length - 1) h l) (j : Nat) : rb h l j = gB m t j := by
  rw [r.is]
  unfold gB gH
  by_cases c : j < (genS m t).length - 1
  · rw [if_pos c, nth_rev (by omega), show (genS m t).length - 1 - 1 - j = (genS m t).length - 1 - (j + 1) by omega]
  · rw [if_neg c, nth_over _ (by simp; omega)]; rfl
/-- What is read of the register: the parity's bytes. -/
structure Out (P : List Nat) (i h l : Nat) : Prop where
  hi : W64 h
  lo : W64 l
  is : ∀ j, rb h l j = onB (bitsS P) (8 * i + j)
theorem Out.byte {P : List Nat} (hP : ∀ k, nth P k ≤ 255) {i h l : Nat} (r : Out P i h l) : h >>> 56 = nth P i := by
  refine byte_eq (top_le r.hi) (hP i) fun j hj => ?_
  rw [testBit_val, testBit_val, rb_top (l := l) hj, r.is, onB_byte P hj]
theorem Out.step {P : List Nat} {i h l : Nat} (r : Out P i h l) : Out P (i + 1) (pH h l) (pL l) :=
  ⟨w64_pH _ r.lo, w64_pL _, fun j => by rw [rb_push r.lo, r.is, show 8 * i + (j + 8) = 8 * (i + 1) + j by omega]⟩
theorem RegIs.out {m t : Nat} (hm : Em m) {bs : List Nat} {h l : Nat} (r : RegIs (gB m t) (onB (bitsS bs)) (8 * bs.length) h l) : Out (bytesS (par m t (bitsS bs))) 0 h l := by
  refine ⟨r.hi, r.lo, fun j => ?_⟩
  have hB := bits_bitsS bs
  have hp := par_reg hm (t := t) hB (gB_toNat hm t) j
  rw [bitsS_len] at hp
  rw [r.is, Nat.mul_zero, Nat.zero_add]
  unfold onB at hp ⊢
  rw [nth_bits_bytes (bits_par hm t hB), hp]
  cases fdn (gB m t) (fun _ => false) (fun i => nth (bitsS bs) i == 1) (8 * bs.length) j <;> rfl
end Gf
end Go.Proofs.YtiojdoehlooibaaDoor
