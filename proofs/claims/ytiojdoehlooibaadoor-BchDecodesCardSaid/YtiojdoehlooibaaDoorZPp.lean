/- Where bits are turned, by the document's own equations: what their answer is worth. -/
import Derived.Test.YtiojdoehlooibaaDoorZDk
import Derived.Test.YtiojdoehlooibaaDoorZPa
import Derived.Test.YtiojdoehlooibaaDoorZBe
namespace Go.Proofs.YtiojdoehlooibaaDoor
open Go.RowKit
namespace Gf
/-- The polynomial of an answer: 1 and the unknowns, the last one first. -/
def plq (v : Nat) (x : Nat → Nat) : List Nat := 1 :: (List.range v).map fun j => x (v - 1 - j)
theorem plq_len (v : Nat) (x : Nat → Nat) : (plq v x).length = v + 1 := by simp [plq]
theorem nth_plq {v : Nat} (x : Nat → Nat) {j : Nat} (hj : j < v) : nth (plq v x) (j + 1) = x (v - 1 - j) := by
  rw [nth_of (by rw [plq_len]; omega)]; simp [plq]
theorem els_plq {m v : Nat} (h : Em m) {x : Nat → Nat} (hx : ∀ c, x c ≤ sz m) : Els m (plq v x) := fun k => by
  have hz := sz_bd h
  cases k with
  | zero => show 1 ≤ sz m; omega
  | succ k =>
    by_cases hk : k < v
    · rw [nth_plq x hk]; exact hx _
    · rw [nth_over _ (by rw [plq_len]; omega)]; exact Nat.zero_le _
/-- The unknowns and 1. -/
def yv (v : Nat) (x : Nat → Nat) : Nat → Nat := fun c => if c < v then x c else if c = v then 1 else 0
theorem yv_le {m v : Nat} (h : Em m) {x : Nat → Nat} (hx : ∀ c, x c ≤ sz m) (c : Nat) : yv v x c ≤ sz m := by
  have hz := sz_bd h
  unfold yv
  split
  · exact hx c
  · split <;> omega
theorem rl_plq (v : Nat) (x : Nat → Nat) : rl v (nth (plq v x)) = yl v (yv v x) := by
  unfold rl yl
  apply List.map_congr_left
  intro k hk
  rw [List.mem_range] at hk
  unfold yv
  by_cases h1 : k < v
  · rw [if_pos h1, show v - k = (v - 1 - k) + 1 by omega, nth_plq x (by omega), show v - 1 - (v - 1 - k) = k by omega]
  · rw [if_neg h1, if_pos (by omega), show v - k = 0 by omega]; rfl
theorem root_plq {m v : Nat} (h : Em m) {x : Nat → Nat} (hx : ∀ c, x c ≤ sz m) (k : Nat) : ev m (xp m (-(k : Int))) (plq v x) = 0 ↔ ev m (pw m k) (yl v (yv v x)) = 0 := by
  rw [root_iff h (els_plq h hx) (L := v) (fun i hi => nth_over _ (by rw [plq_len]; omega)) k, rl_plq]
/-- If a word is near, as many bits away as are asked for, the equations have one answer, and it is found by it. -/
theorem pet_all {m t v N : Nat} {W V : List Nat} (h : Em m) (hW : Bits W) (hN : W.length = N) (hz : N ≤ sz m) (hV : Near m t W V) (hv : wt (xl W V) = v) :
    ∃ M', gss m v v 0 (hnk fun e => ev m (pw m e) W.reverse) = some M' ∧ xl W (tnS (rt m N (plq v fun r => M' r v)) N N) = V := by
  have hlr : W.reverse.length = V.reverse.length := by simp [hV.1]
  have hwr : wt (xl W.reverse V.reverse) = v := by rw [← xl_rev hV.1.symm, wt_rev, hv]
  have hvt : v ≤ t := by have := hV.2.2; omega
  have hxl := xl_len hlr
  rw [List.length_reverse, hN] at hxl
  have hXn := locs_nodup h (w := xl W.reverse V.reverse) (by omega)
  have hXb := locs_bd h (xl W.reverse V.reverse)
  have hXl : (locs m (xl W.reverse V.reverse)).length = v := by rw [locs, List.length_map]; exact hwr
  have hS : ∀ e, 1 ≤ e → e ≤ 2 * v → ev m (pw m e) W.reverse = ps m (locs m (xl W.reverse V.reverse)) (fun _ => 1) e := fun e e1 e2 => syn_err h hlr (bits_rev hW) hV.2.1 e e1 (by omega)
  have hmem : ∀ i, i < N → (pw m i ∈ locs m (xl W.reverse V.reverse) ↔ nth (xl W.reverse V.reverse) i = 1) := fun i hi => by
    rw [locs, List.mem_map]
    constructor
    · rintro ⟨j, hj, e⟩
      rw [mem_supp] at hj
      have : j = i := by
        have h4 : ((j : Int) - i) % (sz m : Int) = 0 := (xp_inj h j i).1 (by rw [xp_nat h, xp_nat h]; exact e)
        obtain ⟨q, hq⟩ := Int.dvd_of_emod_eq_zero h4
        have : q = 0 := by
          apply Classical.byContradiction
          intro hq0
          rcases Int.lt_or_gt_of_ne hq0 with hlt0 | hgt0
          · have : (sz m : Int) * q ≤ (sz m : Int) * (-1) := Int.mul_le_mul_of_nonneg_left (by omega) (by omega)
            omega
          · have : (sz m : Int) * 1 ≤ (sz m : Int) * q := Int.mul_le_mul_of_nonneg_left (by omega) (by omega)
            omega
        subst this
        omega
      subst this
      exact hj.2
    · intro e
      exact ⟨i, by rw [mem_supp]; exact ⟨by omega, e⟩, rfl⟩
  rcases gss_spec (n := v) h v 0 (hnk fun e => ev m (pw m e) W.reverse) (by omega) (fun r c => ev_le h _ _) (fun r j _ hj => absurd hj (Nat.not_lt_zero _)) with ⟨_, y, hy, h0, ⟨c, hc, hcn⟩, hs⟩ | ⟨M', hM, hE, hiff⟩
  · exact absurd (pet_one h hXn hXb hXl hS hy hs h0 c hc) hcn
  · refine ⟨M', hM, ?_⟩
    have hx : ∀ c, (fun r => M' r v) c ≤ sz m := fun c => hE c v
    have hy := yv_le (v := v) h hx
    have h1 : yv v (fun r => M' r v) v = 1 := by unfold yv; rw [if_neg (by omega), if_pos rfl]
    have hsol : Sol m v (hnk fun e => ev m (pw m e) W.reverse) (yv v fun r => M' r v) := (hiff _ hy).2 fun r hr => by
      rw [h1, mul_one h (hE r v)]
      show (if r < v then M' r v else _) = _
      rw [if_pos hr]
    have hroot : ∀ i, i < N → (rt m N (plq v fun r => M' r v) i = true ↔ nth (xl W V) i = 1) := fun i hi => by
      have e1 := root_plq (v := v) h hx (N - 1 - i)
      rw [pet_roots h hXn hXb hXl hS hy hsol h1 (pw_bd h _).2, hmem _ (by omega), ← xl_rev hV.1.symm, nth_rev (by rw [xl_len hV.1.symm]; omega), xl_len hV.1.symm, hN, show N - 1 - (N - 1 - i) = i by omega] at e1
      rw [← e1]
      unfold rt
      rw [show -((N : Int) - (i : Int) - 1) = -((N - 1 - i : Nat) : Int) by omega]
      simp
    have hE2 : tnS (rt m N (plq v fun r => M' r v)) N N = xl W V := by
      have hl2 := xl_len hV.1.symm
      apply List.ext_getElem
      · rw [tnS_len, hl2, hN]
      · intro i a1 a2
        have hi : i < N := by rwa [tnS_len] at a1
        have e : nth (tnS (rt m N (plq v fun r => M' r v)) N N) i = nth (xl W V) i := by
          rw [nth_tnS _ _ hi]
          have hbit : nth (xl W V) i ≤ 1 := bits_xl hV.1.symm hW (fun k => by
            have := bits_rev hV.2.1.1
            rw [List.reverse_reverse] at this
            exact this k) i
          by_cases a : i < N ∧ rt m N (plq v fun r => M' r v) i = true
          · rw [if_pos a, (hroot i hi).1 a.2]
          · rw [if_neg a]
            have : ¬ nth (xl W V) i = 1 := fun e => a ⟨hi, (hroot i hi).2 e⟩
            omega
        rwa [nth_of a1, nth_of a2] at e
    rw [hE2]
    exact xl_self _ _ hV.1.symm
/-! ### Places, one by one -/
/-- The places of the first k powers at which a polynomial's zeros stand. -/
def plS (m N : Nat) (C : List Nat) : Nat → List Nat
  | 0 => []
  | k + 1 => plS m N C k ++ if ev m (xp m (-(k : Int))) C = 0 then [N - 1 - k] else []
theorem plS_mem {m N : Nat} {C : List Nat} : ∀ {k : Nat}, k ≤ N → ∀ i, i ∈ plS m N C k ↔ i < N ∧ N - k ≤ i ∧ rt m N C i = true
  | 0, _, i => by simp [plS]; omega
  | k + 1, hk, i => by
    have hr : rt m N C (N - 1 - k) = true ↔ ev m (xp m (-(k : Int))) C = 0 := by
      unfold rt
      rw [show -((N : Int) - ((N - 1 - k : Nat) : Int) - 1) = -(k : Int) by omega]
      simp
    rw [plS, List.mem_append, plS_mem (by omega)]
    by_cases e : ev m (xp m (-(k : Int))) C = 0
    · rw [if_pos e]
      simp only [List.mem_singleton]
      constructor
      · rintro (⟨h1, h2, h3⟩ | rfl)
        · exact ⟨h1, by omega, h3⟩
        · exact ⟨by omega, by omega, hr.2 e⟩
      · rintro ⟨h1, h2, h3⟩
        by_cases e2 : i = N - 1 - k
        · exact .inr e2
        · exact .inl ⟨h1, by omega, h3⟩
    · rw [if_neg e]
      simp only [List.not_mem_nil, or_false]
      constructor
      · rintro ⟨h1, h2, h3⟩
        exact ⟨h1, by omega, h3⟩
      · rintro ⟨h1, h2, h3⟩
        refine ⟨h1, ?_, h3⟩
        apply Classical.byContradiction
        intro hn
        obtain rfl : i = N - 1 - k := by omega
        exact e (hr.1 h3)
theorem plS_nodup {m N : Nat} {C : List Nat} : ∀ {k : Nat}, k ≤ N → (plS m N C k).Nodup
  | 0, _ => List.nodup_nil
  | k + 1, hk => by
    rw [plS]
    split
    · rw [List.nodup_append]
      refine ⟨plS_nodup (by omega), by simp, fun a ha b hb => ?_⟩
      rw [plS_mem (by omega)] at ha
      simp only [List.mem_singleton] at hb
      omega
    · rw [List.append_nil]; exact plS_nodup (by omega)
theorem plS_len (m N : Nat) (C : List Nat) : ∀ k, (plS m N C k).length ≤ k
  | 0 => Nat.le_refl _
  | k + 1 => by
    have := plS_len m N C k
    rw [plS, List.length_append]
    split <;> simp <;> omega
/-- Bits turned at places, one behind the other. -/
def trS (W : List Nat) (P : List Nat) : List Nat := P.foldl (fun k p => put k p 1) W
theorem trS_len (W : List Nat) : ∀ P, (trS W P).length = W.length := by
  intro P
  induction P generalizing W with
  | nil => rfl
  | cons p P ih =>
    show (trS (put W p 1) P).length = _
    rw [ih, put_len]
theorem trS_snoc (W P : List Nat) (p : Nat) : trS W (P ++ [p]) = put (trS W P) p 1 := by unfold trS; rw [List.foldl_append]; rfl
theorem bits_trS {W : List Nat} (hW : Bits W) : ∀ (P : List Nat), (∀ p ∈ P, p < W.length) → Bits (trS W P) := by
  intro P
  induction P generalizing W with
  | nil => intro _; exact hW
  | cons p P ih =>
    intro hP
    refine ih (W := put W p 1) (fun k => ?_) (fun q hq => by rw [put_len]; exact hP q (List.mem_cons_of_mem _ hq))
    rw [nth_put _ _ _ _ (hP p (List.mem_cons_self ..))]
    split
    · exact bit_xor (hW p) (by omega)
    · exact hW k
theorem nth_trS {W : List Nat} : ∀ (P : List Nat), P.Nodup → (∀ p ∈ P, p < W.length) → ∀ i, nth (trS W P) i = nth W i ^^^ if i ∈ P then 1 else 0 := by
  intro P
  induction P generalizing W with
  | nil => intro _ _ i; simp [trS]
  | cons p P ih =>
    intro hn hP i
    rw [List.nodup_cons] at hn
    show nth (trS (put W p 1) P) i = _
    rw [ih hn.2 (fun q hq => by rw [put_len]; exact hP q (List.mem_cons_of_mem _ hq)), nth_put _ _ _ _ (hP p (List.mem_cons_self ..))]
    by_cases e : i = p
    · subst e
      rw [if_pos rfl, if_neg hn.1, if_pos (List.mem_cons_self ..), Nat.xor_zero]
    · rw [if_neg e]
      congr 1
      simp [e]
theorem wt_put {l : List Nat} {p : Nat} (hp : p < l.length) (h0 : nth l p = 0) : wt (put l p 1) = wt l + 1 := by
  rw [wt_eq, wt_eq, put, h0, Nat.zero_xor, List.countP_set hp]
  rw [nth_of hp] at h0
  simp [h0]
theorem wt_trS {W : List Nat} : ∀ (P : List Nat), P.Nodup → (∀ p ∈ P, p < W.length) → wt (xl W (trS W P)) = P.length := by
  have key : ∀ (Q : List Nat) (n : Nat), n ≤ Q.length → Q.Nodup → (∀ p ∈ Q, p < W.length) → wt (xl W (trS W (Q.take n))) = n := by
    intro Q n
    induction n with
    | zero => intro _ _ _; rw [List.take_zero]; exact wt_self W
    | succ n ih =>
      intro hn hd hQ
      have ihn := ih (by omega) hd hQ
      have hq : nth Q n < W.length := hQ _ (by rw [nth_of (by omega)]; exact List.getElem_mem _)
      have hl := trS_len W (Q.take n)
      rw [take_snoc' (by omega), trS_snoc]
      have hnd : (Q.take n).Nodup := hd.sublist (List.take_sublist ..)
      have hbd : ∀ p ∈ Q.take n, p < W.length := fun p hp => hQ p (List.mem_of_mem_take hp)
      have hnm : nth Q n ∉ Q.take n := fun hm => by
        have h3 : (Q.take (n + 1)).Nodup := hd.sublist (List.take_sublist ..)
        rw [take_snoc' (by omega), List.nodup_append] at h3
        exact h3.2.2 _ hm _ (List.mem_singleton.2 rfl) rfl
      have e : xl W (put (trS W (Q.take n)) (nth Q n) 1) = put (xl W (trS W (Q.take n))) (nth Q n) 1 := by
        have l1 : (xl W (put (trS W (Q.take n)) (nth Q n) 1)).length = W.length := xl_len (by rw [put_len, hl])
        have l2 : (put (xl W (trS W (Q.take n))) (nth Q n) 1).length = W.length := by rw [put_len, xl_len hl.symm]
        apply List.ext_getElem (by rw [l1, l2])
        intro i h1 h2
        have e : nth (xl W (put (trS W (Q.take n)) (nth Q n) 1)) i = nth (put (xl W (trS W (Q.take n))) (nth Q n) 1) i := by
          rw [nth_xl (by rw [put_len, hl]), nth_put _ _ _ _ (by rw [hl]; exact hq), nth_put _ _ _ _ (by rw [xl_len hl.symm]; exact hq), nth_xl hl.symm, nth_xl hl.symm]
          by_cases e : i = nth Q n
          · rw [if_pos e, if_pos e, e, Nat.xor_assoc]
          · rw [if_neg e, if_neg e]
        rwa [nth_of h1, nth_of h2] at e
      rw [e, wt_put (by rw [xl_len hl.symm]; exact hq) (by rw [nth_xl hl.symm, nth_trS _ hnd hbd, if_neg hnm, Nat.xor_zero, Nat.xor_self]), ihn]
  intro P hn hP
  have := key P P.length (Nat.le_refl _) hn hP
  rwa [List.take_length] at this
/-- All places turned are the zeros turned. -/
theorem trS_all {m N : Nat} {C W : List Nat} (hN : W.length = N) : trS W (plS m N C N) = xl W (tnS (rt m N C) N N) := by
  have hl := trS_len W (plS m N C N)
  have hll : W.length = (tnS (rt m N C) N N).length := by rw [tnS_len, hN]
  apply List.ext_getElem (by rw [hl, xl_len hll])
  intro i h1 h2
  have hi : i < N := by omega
  have e : nth (trS W (plS m N C N)) i = nth (xl W (tnS (rt m N C) N N)) i := by
    rw [nth_trS _ (plS_nodup (Nat.le_refl _)) (fun p hp => by rw [plS_mem (Nat.le_refl _)] at hp; omega), nth_xl hll, nth_tnS _ _ hi]
    congr 1
    by_cases a : i < N ∧ rt m N C i = true
    · rw [if_pos a, if_pos ((plS_mem (Nat.le_refl _) i).2 ⟨a.1, by omega, a.2⟩)]
    · rw [if_neg a, if_neg fun c => a ⟨hi, ((plS_mem (Nat.le_refl _) i).1 c).2.2⟩]
  rwa [nth_of h1, nth_of h2] at e
/-- What is found by v places, if it is a word, is near. -/
theorem pet_near {m t v N : Nat} {C W : List Nat} (hN : W.length = N) (hvt : v ≤ t) (hv : (plS m N C N).length = v) (hw : IsW m t (trS W (plS m N C N)).reverse) : Near m t W (trS W (plS m N C N)) ∧ wt (xl W (trS W (plS m N C N))) = v := by
  have h1 := wt_trS (W := W) (plS m N C N) (plS_nodup (Nat.le_refl _)) (fun p hp => by rw [plS_mem (Nat.le_refl _)] at hp; omega)
  exact ⟨⟨trS_len _ _, hw, by omega⟩, by omega⟩
/-- The zeros of the equations' answer, where a word is so many bits away: so many, and turned they make it. -/
theorem pet_found {m t v N : Nat} {W V : List Nat} (h : Em m) (hW : Bits W) (hN : W.length = N) (hz : N ≤ sz m) (hV : Near m t W V) (hv : wt (xl W V) = v) :
    ∃ M', gss m v v 0 (hnk fun e => ev m (pw m e) W.reverse) = some M' ∧ (plS m N (plq v fun r => M' r v) N).length = v ∧ trS W (plS m N (plq v fun r => M' r v) N) = V := by
  obtain ⟨M', h1, h2⟩ := pet_all h hW hN hz hV hv
  rw [← trS_all hN] at h2
  refine ⟨M', h1, ?_, h2⟩
  rw [← wt_trS (W := W) (plS m N (plq v fun r => M' r v) N) (plS_nodup (Nat.le_refl _)) (fun p hp => by rw [plS_mem (Nat.le_refl _)] at hp; omega), h2, hv]
/-- Nothing is turned: it is the word itself. -/
theorem near_zero {W V : List Nat} (hl : V.length = W.length) (hb : Bits W) (hv : Bits V) (h : wt (xl W V) = 0) : V = W := by
  refine (xl_self_eq hl.symm fun k => ?_).symm
  rw [← nth_xl hl.symm]
  have h1 := bits_xl hl.symm hb hv k
  apply Classical.byContradiction
  intro hne
  have hk : k < (xl W V).length := by
    apply Classical.byContradiction
    intro hn
    exact hne (nth_over _ (by omega))
  have : 0 < wt (xl W V) := by
    rw [wt_eq, List.countP_pos_iff]
    refine ⟨(xl W V)[k], List.getElem_mem hk, ?_⟩
    rw [← nth_of hk]
    have : nth (xl W V) k = 1 := by omega
    rw [this]; rfl
  omega
end Gf
end Go.Proofs.YtiojdoehlooibaaDoor
