/- What Decode answers: the word that is near, or that none is. -/
import Derived.Test.YtiojdoehlooibaaDoorZDg
import Derived.Test.YtiojdoehlooibaaDoorZPg
import Derived.Test.YtiojdoehlooibaaDoorZLo
namespace Go.Proofs.YtiojdoehlooibaaDoor
open Go.RowKit
namespace Gf
/-- The bits that were handed in. -/
def wrdS (r : Nat) (ds ps : List Nat) : List Nat := bitsS ds ++ (bitsS ps).take r
theorem wrdS_len {r : Nat} {ds ps : List Nat} (h : r ≤ 8 * ps.length) : (wrdS r ds ps).length = 8 * ds.length + r := by
  rw [wrdS, List.length_append, bitsS_len, List.length_take, bitsS_len]; omega
theorem bits_wrdS (r : Nat) (ds ps : List Nat) : Bits (wrdS r ds ps) := bits_append (bits_bitsS ds) (bits_take (bits_bitsS ps) r)
/-- The syndromes of the rest are those of the word. -/
theorem syn_rest {m t : Nat} (h : Em m) {D P : List Nat} (hD : Bits D) (hP : Bits P) (hl : P.length = rS m t) {e : Nat} (e1 : 1 ≤ e) (e2 : e ≤ 2 * t) : ev m (pw m e) (xl (par m t D) P).reverse = ev m (pw m e) (D ++ P).reverse := by
  have hpl : (par m t D).length = P.length := by rw [par_len, hl]
  have hb := bits_par h t hD
  have hw := (par_word h t hD).2 e e1 e2
  have hx := (pw_bd h e).2
  have key : ev m (pw m e) (xl (D ++ par m t D).reverse (D ++ P).reverse) = ev m (pw m e) (D ++ P).reverse := by
    rw [ev_xl h hx _ _ (by simp [hpl]) ((bits_rev (bits_append hD hb)).els h) ((bits_rev (bits_append hD hP)).els h), hw, Nat.zero_xor]
  rw [← key, ← xl_rev (by simp [hpl])]
  have hz : xl (D ++ par m t D) (D ++ P) = List.replicate D.length 0 ++ xl (par m t D) P := by
    apply List.ext_getElem
    · rw [xl_len (by simp [hpl]), List.length_append, List.length_append, List.length_replicate, xl_len hpl]
    · intro i h1 h2
      have e : nth (xl (D ++ par m t D) (D ++ P)) i = nth (List.replicate D.length 0 ++ xl (par m t D) P) i := by
        rw [nth_xl (by simp [hpl])]
        by_cases hi : i < D.length
        · rw [nth_append_left hi, nth_append_left hi, Nat.xor_self, nth_append_left (by simpa using hi), nth_zeros]
        · rw [nth_append_right (by omega), nth_append_right (by omega), nth_append_right (by simp; omega), List.length_replicate, nth_xl hpl]
      rwa [nth_of h1, nth_of h2] at e
  rw [hz, List.reverse_append, ev_append_zeros _ _ _ ((bits_rev (bits_xl hpl hb hP)).els h)]
  intro c hc
  simp at hc
  exact hc.2
/-- Nothing is left just of a word. -/
theorem rest_none {m t : Nat} (h : Em m) {D P : List Nat} (hD : Bits D) (hP : Bits P) (hl : P.length = rS m t) : (¬ 1 ∈ (xl (par m t D) P).reverse) ↔ IsW m t (D ++ P).reverse := by
  have hpl : (par m t D).length = P.length := by rw [par_len, hl]
  have hb := bits_par h t hD
  have hbx := bits_xl hpl hb hP
  constructor
  · intro hno
    have hz : ∀ k, nth (par m t D) k ^^^ nth P k = 0 := fun k => by
      rw [← nth_xl hpl]
      have h1 := hbx k
      by_cases hk : k < (xl (par m t D) P).length
      · have : nth (xl (par m t D) P) k ≠ 1 := fun e => hno (by rw [List.mem_reverse, ← e, nth_of hk]; exact List.getElem_mem hk)
        omega
      · exact nth_over _ (by omega)
    rw [← xl_self_eq hpl hz]
    exact par_word h t hD
  · intro hw hm
    have := par_one h t hD (by rw [hl]) hw
    rw [List.mem_reverse, List.mem_iff_getElem] at hm
    obtain ⟨i, hi, e⟩ := hm
    have e2 := nth_xl hpl i
    rw [nth_of hi, e, this, Nat.xor_self] at e2
    omega
/-- Turned places as a row. -/
def tnS (f : Nat → Bool) (J N : Nat) : List Nat := (List.range N).map fun i => if i < J ∧ f i = true then 1 else 0
theorem tnS_len (f : Nat → Bool) (J N : Nat) : (tnS f J N).length = N := by simp [tnS]
theorem nth_tnS (f : Nat → Bool) (J : Nat) {N i : Nat} (hi : i < N) : nth (tnS f J N) i = if i < J ∧ f i = true then 1 else 0 := by
  rw [nth_of (by rw [tnS_len]; exact hi)]; simp [tnS]
theorem bits_tnS (f : Nat → Bool) (J N : Nat) : Bits (tnS f J N) := fun i => by
  by_cases hi : i < N
  · rw [nth_tnS f J hi]; split <;> omega
  · rw [nth_over _ (by rw [tnS_len]; omega)]; omega
theorem tnS_succ (f : Nat → Bool) (J N : Nat) : tnS f J (N + 1) = tnS f J N ++ [if N < J ∧ f N = true then 1 else 0] := by
  unfold tnS
  rw [List.range_succ, List.map_append]; rfl
theorem wt_tnS (f : Nat → Bool) (J : Nat) : ∀ N, wt (tnS f J N) = cn f (min J N)
  | 0 => by rw [Nat.min_zero]; rfl
  | N + 1 => by
    rw [tnS_succ, wt_snoc, wt_tnS f J N]
    by_cases h : N < J
    · rw [show min J (N + 1) = N + 1 by omega, show min J N = N by omega, cn]
      by_cases hf : f N = true
      · rw [if_pos (show N < J ∧ f N = true from ⟨h, hf⟩), if_pos rfl, if_pos hf]
      · rw [if_neg (show ¬ (N < J ∧ f N = true) from fun c => hf c.2), if_neg (by decide), if_neg hf]
    · rw [show min J (N + 1) = min J N by omega, if_neg (show ¬ (N < J ∧ f N = true) from fun c => h c.1), if_neg (by decide), Nat.add_zero]
/-- The word behind turning. -/
theorem turned_is {m N bytes : Nat} {C ds ps : List Nat} {r J : Nat} (hds : ds.length = bytes) (hr : r ≤ 8 * ps.length) (hN : N = 8 * bytes + r) (hJ : J ≤ N) :
    wrdS r (tb (rt m N C) ds (min J (8 * bytes))) (tb (fun k => rt m N C (8 * bytes + k)) ps (J - 8 * bytes)) = xl (wrdS r ds ps) (tnS (rt m N C) J N) := by
  have hl1 := wrdS_len (ds := tb (rt m N C) ds (min J (8 * bytes))) (ps := tb (fun k => rt m N C (8 * bytes + k)) ps (J - 8 * bytes)) (r := r) (by rw [tb_len]; exact hr)
  rw [tb_len] at hl1
  have hl2 := wrdS_len (ds := ds) hr
  have hl3 := tnS_len (rt m N C) J N
  have hll : (wrdS r ds ps).length = (tnS (rt m N C) J N).length := by rw [hl2, hl3, hN, hds]
  apply List.ext_getElem
  · rw [xl_len hll, hl1, hl2]
  · intro i h1 h2
    have hi : i < N := by rw [hl1] at h1; omega
    have e : nth (wrdS r (tb (rt m N C) ds (min J (8 * bytes))) (tb (fun k => rt m N C (8 * bytes + k)) ps (J - 8 * bytes))) i = nth (xl (wrdS r ds ps) (tnS (rt m N C) J N)) i := by
      rw [nth_xl hll, nth_tnS _ _ hi]
      unfold wrdS
      by_cases hib : i < 8 * bytes
      · rw [nth_append_left (by rw [bitsS_len, tb_len, hds]; exact hib), nth_append_left (by rw [bitsS_len, hds]; exact hib), nth_tb _ _ _ _ (by rw [hds]; omega)]
        congr 1
        by_cases a : i < J ∧ rt m N C i = true
        · rw [if_pos a, if_pos ⟨by omega, a.2⟩]
        · rw [if_neg a, if_neg fun c => a ⟨by omega, c.2⟩]
      · rw [nth_append_right (by rw [bitsS_len, tb_len, hds]; omega), nth_append_right (by rw [bitsS_len, hds]; omega), bitsS_len, bitsS_len, tb_len, hds, nth_take _ (by omega), nth_take _ (by omega), nth_tb _ _ _ _ (by omega)]
        congr 1
        by_cases a : i < J ∧ rt m N C i = true
        · rw [if_pos a, if_pos ⟨by omega, by rw [show 8 * bytes + (i - 8 * bytes) = i by omega]; exact a.2⟩]
        · rw [if_neg a, if_neg fun c => a ⟨by omega, by have := c.2; rwa [show 8 * bytes + (i - 8 * bytes) = i by omega] at this⟩]
    rwa [nth_of h1, nth_of h2] at e
theorem wt_rev (l : List Nat) : wt l.reverse = wt l := by rw [wt_eq, wt_eq, List.countP_reverse]
/-- The locator's zeros, from either end. -/
theorem root_iff {m L : Nat} (h : Em m) {C : List Nat} (hC : Els m C) (ht : ∀ i, L < i → nth C i = 0) (k : Nat) : ev m (xp m (-(k : Int))) C = 0 ↔ ev m (pw m k) (rl L (nth C)) = 0 := by
  have hz := pw_bd h k
  have hzi := xp_bd h (-(k : Int))
  have e1 : mul m (pw m k) (xp m (-(k : Int))) = 1 := by
    rw [← xp_nat h, ← xp_add h, show (k : Int) + -(k : Int) = 0 by omega, xp_zero h]
  have hE : Els m (rl L (nth C)) := els_rl hC
  have hlen : (rl L (nth C)).length = L + 1 := by simp [rl]
  obtain ⟨a, l, hl⟩ : ∃ a l, rl L (nth C) = a :: l := by
    cases hq : rl L (nth C) with
    | nil => rw [hq] at hlen; simp at hlen
    | cons a l => exact ⟨a, l, rfl⟩
  have hr := ev_rev h hz.2 hzi.2 e1 l a (by rw [← hl]; exact hE)
  rw [← hl] at hr
  have hll : l.length = L := by rw [hl] at hlen; simpa using hlen
  have hsame : ev m (xp m (-(k : Int))) (rl L (nth C)).reverse = ev m (xp m (-(k : Int))) C := ev_of_nth _ (els_rev hE) hC fun i => by
    by_cases hi : i ≤ L
    · rw [nth_rev (by omega), hlen, nth_rl (by omega), show L - (L + 1 - 1 - i) = i by omega]
    · rw [nth_over _ (by simp [hlen]; omega), ht i (by omega)]
  rw [hsame] at hr
  constructor
  · intro e; rw [← hr, e, mul_zero]
  · intro e
    rw [e] at hr
    apply Classical.byContradiction
    intro hne
    refine mul_ne h ?_ hne hr
    rw [px_pw h]
    have := (pw_bd h (k * l.length)).1
    omega
/-- A word that is near. -/
def Near (m t : Nat) (W V : List Nat) : Prop := V.length = W.length ∧ IsW m t V.reverse ∧ wt (xl W V) ≤ t
theorem xl_self (a b : List Nat) (h : a.length = b.length) : xl a (xl a b) = b := by
  have h2 := xl_len h
  apply List.ext_getElem
  · rw [xl_len (by omega), h]
  · intro i h1 h3
    have e : nth (xl a (xl a b)) i = nth b i := by rw [nth_xl (by omega), nth_xl h, ← Nat.xor_assoc, Nat.xor_self, Nat.zero_xor]
    rwa [nth_of h1, nth_of h3] at e
theorem near_found {m t N L : Nat} {W C : List Nat} (h : Em m) (hW : Bits W) (hN : W.length = N) (hz : N ≤ sz m) (hC : Els m C) (hR : Rec m (fun i => ev m (pw m (i + 1)) W.reverse) (nth C) L (2 * t)) (hL : ∀ D K, Rec m (fun i => ev m (pw m (i + 1)) W.reverse) D K (2 * t) → L ≤ K) (hLt : L ≤ t) {J : Nat} (hJ : J ≤ N) (hc : cn (rt m N C) J = L) : Near m t W (xl W (tnS (rt m N C) J N)) ∧ wt (xl W (xl W (tnS (rt m N C) J N))) = L := by
  have hT := tnS_len (rt m N C) J N
  have hll : W.length = (tnS (rt m N C) J N).length := by omega
  have hw : wt (tnS (rt m N C) J N) = L := by rw [wt_tnS, Nat.min_eq_left hJ, hc]
  have hx : xl W (xl W (tnS (rt m N C) J N)) = tnS (rt m N C) J N := xl_self _ _ hll
  refine ⟨⟨by rw [xl_len hll], ?_, by rw [hx, hw]; exact hLt⟩, by rw [hx, hw]⟩
  rw [xl_rev hll]
  refine dec_sound h (bits_rev hW) (bits_rev (bits_tnS _ _ _)) (by simp; omega) (by simp; omega) hR hL hLt (fun i hi he => ?_) (by rw [wt_rev, hw])
  rw [List.length_reverse] at hi
  rw [nth_rev (by omega), hT, nth_tnS _ _ (by omega)] at he
  have hr : rt m N C (N - 1 - i) = true := by
    by_cases a : N - 1 - i < J ∧ rt m N C (N - 1 - i) = true
    · exact a.2
    · rw [if_neg a] at he; omega
  unfold rt at hr
  rw [show -((N : Int) - ((N - 1 - i : Nat) : Int) - 1) = -(i : Int) by omega] at hr
  exact (root_iff h hC hR.top i).1 (by simpa using hr)
theorem near_all {m t N L : Nat} {W C : List Nat} (h : Em m) (hW : Bits W) (hN : W.length = N) (hz : N ≤ sz m) (hC : Els m C) (hR : Rec m (fun i => ev m (pw m (i + 1)) W.reverse) (nth C) L (2 * t)) (hL : ∀ D K, Rec m (fun i => ev m (pw m (i + 1)) W.reverse) D K (2 * t) → L ≤ K) {V : List Nat} (hV : Near m t W V) : L ≤ t ∧ cn (rt m N C) N = L := by
  have hlr : W.reverse.length = V.reverse.length := by simp [hV.1]
  have hwr : wt (xl W.reverse V.reverse) = wt (xl W V) := by rw [← xl_rev hV.1.symm, wt_rev]
  obtain ⟨h1, h2⟩ := dec_complete h (bits_rev hW) hV.2.1 hlr (by simp; omega) hR hL (by rw [hwr]; exact hV.2.2)
  rw [hwr] at h1
  refine ⟨by have := hV.2.2; omega, ?_⟩
  have hE : tnS (rt m N C) N N = xl W V := by
    have hxl := xl_len hV.1.symm
    apply List.ext_getElem
    · rw [tnS_len, hxl, hN]
    · intro i a1 a2
      have hi : i < N := by rwa [tnS_len] at a1
      have e : nth (tnS (rt m N C) N N) i = nth (xl W V) i := by
        rw [nth_tnS _ _ hi]
        have h3 := h2 (N - 1 - i) (by simp; omega)
        rw [← xl_rev hV.1.symm, nth_rev (by omega), hxl, show W.length - 1 - (N - 1 - i) = i by omega, ← root_iff h hC hR.top] at h3
        have hbit : nth (xl W V) i ≤ 1 := bits_xl hV.1.symm hW (fun k => by
          have := bits_rev hV.2.1.1
          rw [List.reverse_reverse] at this
          exact this k) i
        have hrt : rt m N C i = true ↔ nth (xl W V) i = 1 := by
          rw [← h3]
          unfold rt
          rw [show -((N : Int) - (i : Int) - 1) = -((N - 1 - i : Nat) : Int) by omega]
          simp
        by_cases a : i < N ∧ rt m N C i = true
        · rw [if_pos a, hrt.1 a.2]
        · rw [if_neg a]
          have : ¬ nth (xl W V) i = 1 := fun e => a ⟨hi, hrt.2 e⟩
          omega
      rwa [nth_of a1, nth_of a2] at e
  have := wt_tnS (rt m N C) N N
  rw [Nat.min_self, hE] at this
  omega
/-- Bytes whose other bits are 0. -/
theorem clean_bytes {r : Nat} {ps : List Nat} (hp : ps.length = (r + 7) / 8) (hle : ∀ k, nth ps k ≤ 255) (hz : ∀ i, r ≤ i → nth (bitsS ps) i = 0) : bytesS ((bitsS ps).take r) = ps := by
  have hbl := bitsS_len ps
  refine bytes_eq (by rw [bytesS_len, List.length_take, hbl]; omega) (bytesS_le _) hle fun k => ?_
  rw [nth_bits_bytes (bits_take (bits_bitsS ps) r)]
  by_cases hk : k < r
  · rw [nth_take _ hk]
  · rw [nth_over _ (by simp; omega), hz k (by omega)]
end Gf
end Go.Proofs.YtiojdoehlooibaaDoor
