/- syndromes: the values at the root's powers. -/
import Derived.Test.YtiojdoehlooibaaDoorZDa
import Derived.Test.YtiojdoehlooibaaDoorZDc
import Derived.Test.YtiojdoehlooibaaDoorZPa
import Derived.Deep.RegionWith
namespace Go.Proofs.YtiojdoehlooibaaDoor
open Go.RowKit
namespace Gf
/-- The syndromes. -/
def synS (m n : Nat) (l : List Nat) : List Nat := (List.range n).map fun i => ev m (pw m (i + 1)) l
theorem synS_len (m n : Nat) (l : List Nat) : (synS m n l).length = n := by simp [synS]
theorem nth_synS {m n : Nat} {l : List Nat} {i : Nat} (hi : i < n) : nth (synS m n l) i = ev m (pw m (i + 1)) l := by
  rw [nth_of (by rw [synS_len]; exact hi)]; simp [synS]
theorem els_synS {m : Nat} (h : Em m) (n : Nat) (l : List Nat) : Els m (synS m n l) := mem_le fun x hx => by
  simp [synS] at hx
  obtain ⟨i, _, rfl⟩ := hx
  exact ev_le h _ _
/-- The first k of a row of numbers, noughts behind, as they lie. -/
def fstN (P : List Nat) (k : Nat) : List Nat := P.take k ++ List.replicate (P.length - k) 0
theorem fstN_len (P : List Nat) {k : Nat} (h : k ≤ P.length) : (fstN P k).length = P.length := by simp [fstN]; omega
theorem fstN_zero (P : List Nat) : fstN P 0 = List.replicate P.length 0 := by simp [fstN]
theorem fstN_all (P : List Nat) : fstN P P.length = P := by simp [fstN]
theorem fstN_set (P : List Nat) {k : Nat} (h : k < P.length) : (fstN P k).set k (nth P k) = fstN P (k + 1) := by
  unfold fstN
  rw [List.set_append_right _ _ (by simp; omega), take_snoc' h, List.append_assoc]
  congr 1
  rw [List.length_take, Nat.min_eq_left (by omega), Nat.sub_self, show P.length - k = P.length - (k + 1) + 1 by omega, List.replicate_succ]
  rfl
theorem evS_ints (m x : Nat) (l : List Nat) : evS m x (ints l) = ev m x l := rfl
set_option maxHeartbeats 3200000 in
set_option maxRecDepth 4000 in
theorem syndromes_ok {w : World} {c b m bytes t : Nat} (h : Cod w c b m bytes t) (ar : Option Addr) (cr : Nat) (l : List Nat) (hl : Rd b w ar (ints l)) (hn : l.length ≤ 100000) :
    Calls Tryd.prog 40 #[ptr c, .slice ar l.length cr] w fun e w' => ∃ g, e = .returned (.slice (some ⟨g, 0, none⟩) (2 * t) (2 * t)) ∧ w.heap.size ≤ g ∧ Own b w' g (vals (synS m (2 * t) l)) ∧ Cod w' c b m bytes t ∧ Step b w w' := by
  obtain ⟨i0, hi, hz0, hz1, hz2⟩ := info_parts Tryd.info3
  have hem := h.em
  have hz := sz_bd hem
  have c2 := h.c2
  have ht2 := h.t2
  have hsl := synS_len m (2 * t) l
  have hS1 : Step b w (w.alloc (.cells (zs (2 * t)).toArray 3)) := Step.alloc h.fld _
  have hO1 : Own b (w.alloc (.cells (zs (2 * t)).toArray 3)) w.heap.size (vals (fstN (synS m (2 * t) l) 0)) := by
    rw [fstN_zero, hsl, ← vals_zeros]; exact Own.new h.fld _
  have hC1 := h.more (World.grownBy_alloc w (.cells (zs (2 * t)).toArray 3) none)
  have b0 : (t : Int) ≤ 8 := by omega
  go_enter Tryd.func40, Tryd.ntmps40
  go_wp2_with (first | (at_make; go_must (refine wpList_make_own0 _ rfl _ _ 27 rfl 3 i0 Tryd.underlying27 hi hz0 hz1 hz2 .i64 .i64 _ _ (2 * t) rfl rfl (by omega) (by omega) (by omega) ?_)))
  have hgb : w.heap.size ≠ b := (h.fld.free_new (Nat.le_refl _)).1
  go_loopw [15] (fun i wr => ∃ k : Nat, k ≤ 2 * t ∧ i = num k ∧ Own b wr w.heap.size (vals (fstN (synS m (2 * t) l) k)) ∧ Cod wr c b m bytes t ∧ Since b w wr) (fun i _ => 2 * t - (intOf i).toNat)
  case atStart => exact ⟨0, Nat.zero_le _, rfl, hO1, hC1, ⟨hS1.grown, hS1.free⟩⟩
  case round =>
    clear hO1 hC1 hS1 c2
    obtain ⟨k, hk, rfl, hO, hC, hI⟩ := hrel
    by_cases hlt : k < 2 * t
    · have b1 : (k : Int) < 2 * (t : Int) := by omega
      have HE : Hid _ := nth_synS (m := m) (l := l) hlt
      have HF : Hid _ := fstN_set (synS m (2 * t) l) (k := k) (by omega)
      have hfl := fstN_len (synS m (2 * t) l) (k := k) (by omega)
      have hCd := hC.more (grownBy_drew (World.grownBy.refl wr none))
      have c0 := hC.c0
      have hx := exp_x hCd.fld ((k : Int) + 1)
      rw [show ((k : Int) + 1) = ((k + 1 : Nat) : Int) by omega, xp_nat hem] at hx
      have hpb := pw_bd hem (k + 1)
      obtain ⟨X, hX⟩ : ∃ X, X = pw m (k + 1) := ⟨_, rfl⟩
      rw [← hX] at hx HE hpb
      have HX : Hid (Calls Tryd.prog 48 #[ptr b, num (((k + 1 : Nat)) : Int)] wr.drew _) := hx
      have HK : Hid (((k + 1 : Nat) : Int) = (k : Int) + 1) := by rw [Hid]; omega
      rw [HK.out] at HX
      have HEl : Hid (el m (X : Int) = X) := el_of hpb.2
      have hle := ev_le hem X l
      obtain ⟨E, hE⟩ : ∃ E, E = ev m X l := ⟨_, rfl⟩
      have HEv : Hid (evS m X (ints l) = E) := hE.symm
      rw [← hE] at HE hle
      have HIl : Hid ((ints l).length = l.length) := ints_len l
      clear hx hX hE
      have w1 : IntKind.i64.wrap ((k : Int) + 1) = (k : Int) + 1 := by rw [IntKind.wrap_i64]; omega
      have hRd := hl.step hI.toStep
      go_wp2_with fail
      go_region_with (first | (go_at_call 48; refine HX.out.mono ?_; rintro e w5 ⟨rfl, hF5, hs5⟩; (have hc5 := hCd.step hs5 hF5); (have c05 := hc5.c0)) | (go_at_call 47; (have hev := eval_ok hF5 ar cr (ints l) (X : Int) ((hRd.step (Step.refl b wr).drew).step hs5) (by rw [HIl.out]; omega)); rw [HIl.out, HEl.out, HEv.out] at hev; refine hev.mono ?_; rintro e w6 ⟨rfl, hF6, hs6⟩; (have hO6 := (hO.step ((Step.refl b wr).drew)).step (hs5.trans hs6)); (have cc : w6.cell? ⟨w.heap.size, k, none⟩ = some (num (nth (fstN (synS m (2 * t) l) k) k : Nat)) := by rw [hO6.cell, vals_at (by omega)]); (have zz : w6.frozen? ⟨w.heap.size, k, none⟩ = false := hO6.frozen k)))
      all_goals
        have hc6 := hc5.step hs6 hF6
        have hI6 := (hI.step (Step.refl b wr).drew).step (hs5.trans hs6)
        have hO7 := hO6.store k (num (E : Nat))
        rw [vals_set, ← HE.out, HF.out] at hO7
        rw [← HE.out]
        have hc7 : Cod (w6.setCell ⟨w.heap.size, k, none⟩ (num (nth (synS m (2 * t) l) k : Nat))) c b m bytes t := hc6.of_block (hc6.fld.store hO6.free k _) (Free.store hgb hc6.free k _) (setCell_else (by have := h.lt; omega) _)
        have hI7 := hI6.store (Nat.le_refl _) hgb k (num (nth (synS m (2 * t) l) k : Nat))
        clear hev cc zz c05 hO6 hc6 hI6
        go_wp2
        go_roundw
        case rel => exact ⟨k + 1, by omega, by go_num, hO7, hc7, hI7⟩
        case measure => simp [intOf]; omega
    · obtain rfl : k = 2 * t := by omega
      have b1 : ¬ ((2 * t : Nat) : Int) < 2 * (t : Int) := by omega
      have HA := fstN_all (synS m (2 * t) l)
      rw [hsl] at HA
      rw [HA] at hO
      clear HA
      go_wp2_with fail
      go_ret
      exact ⟨w.heap.size, rfl, Nat.le_refl _, hO, hC, hI.toStep⟩
end Gf
end Go.Proofs.YtiojdoehlooibaaDoor
