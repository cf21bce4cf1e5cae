/- Layer 7 (blocks): the document's pool: Count. -/
import Derived.Test.YtoakokpeomlkjaaDoorBx
import Derived.BigQuiet
namespace Go.Proofs.YtoakokpeomlkjaaDoor
open Go.RowKit Go.Maps
namespace Bk
theorem cnt_succ (r : Nat → Blk) (s : Int) (k : Nat) : cnt r (k + 1) s = cnt r k s + (if (r k).st = s then 1 else 0) := by
  unfold cnt
  rw [List.finRange_succ_last, cntL_snoc]
  have : cntL r s ((List.finRange k).map Fin.castSucc) = cntL r s (List.finRange k) := by
    unfold cntL
    rw [List.filter_map, List.length_map]
    rfl
  rw [this]
  rfl
theorem cnt_zero (r : Nat → Blk) (s : Int) : cnt r 0 s = 0 := rfl
theorem cnt_le (r : Nat → Blk) (s : Int) : ∀ k, cnt r k s ≤ k
  | 0 => Nat.le_refl _
  | k + 1 => by
    rw [cnt_succ]
    have := cnt_le r s k
    split <;> omega
theorem kIn_zero {w : World} {R : Ref} {f : Pool} (h : RefM w R f) {i : Nat} (hi : i < R.n) (hm : 1 ≤ R.m) : Calls Tryd.prog 29 #[ptr R.r 0, num i, num 0] w fun e w' => e = .returned (.bool true) ∧ w' = w := kIn_in (k := 0) h hi hm
set_option maxHeartbeats 1600000 in
set_option maxRecDepth 8000 in
theorem kCount_in {w : World} {R : Ref} {f : Pool} (h : RefM w R f) {i : Nat} (hi : i < R.n) (hm : 1 ≤ R.m) (s : Int) : Calls Tryd.prog 33 #[ptr R.r 0, num i, num s] w fun e w' => e = .returned (num (cnt (f i) R.m s : Nat)) ∧ w.grownBy w' none := by
  have HI := hide (kIn_zero h hi hm)
  have c1 : w.cell? ⟨R.r, 1, none⟩ = some (num R.m) := cell_at h.box rfl
  have HM := hide h
  have m64 := h.m64
  have mm : (R.m : Int) ≤ 64 := by omega
  clear h
  go_enter Tryd.func33, Tryd.ntmps33
  go_wp2_with fail
  refine HI.out.mono ?_
  rintro e w' ⟨rfl, rfl⟩
  go_wp2_with fail
  go_loopw [7, 9] (fun a b wr => ∃ k : Nat, k ≤ R.m ∧ b = num k ∧ a = num (cnt (f i) k s : Nat) ∧ RefM wr R f ∧ w'.grownBy wr none) (fun _ b _ => R.m - (intOf b).toNat)
  case atStart => exact ⟨0, Nat.zero_le _, rfl, by rw [cnt_zero]; rfl, HM.out, grownBy_refl _ none⟩
  case round =>
    clear c1 HM HI
    obtain ⟨k, hk, rfl, rfl, hR, hg⟩ := hrel
    have c1 : wr.cell? ⟨R.r, 1, none⟩ = some (num R.m) := cell_at hR.box rfl
    by_cases hkm : k < R.m
    · have p1 : (k : Int) < (R.m : Int) := by omega
      obtain ⟨z, j, hz, hj, ej, q1, q2, q3⟩ := hR.flat hi hkm
      have c2 : wr.cell? ⟨R.r, 2, none⟩ = some (.slice (some ⟨R.sb, 0, none⟩) R.l R.sc) := cell_at hR.box rfl
      have c3 : wr.cell? ⟨R.sb, j, none⟩ = some (num (f i k).st) := by rw [ej]; exact hR.st i k hi hkm
      have HC := hide (cnt_succ (f i) s k)
      have hle := cnt_le (f i) s k
      have hle' : (cnt (f i) k s : Int) ≤ 64 := by omega
      have HN : Hid (∀ n, RefM (wr.drewN n) R f ∧ w'.grownBy (wr.drewN n) none) := fun n => ⟨hR.stp (K := No) ((Stp.refl _ _).drewN n) (fun x => x) (fun x => x) fun x => x, ((Stp.of_grown (K := No) hg).drewN n).grown⟩
      clear hR hg ej
      generalize cnt (f i) k s = n at HC hle hle'
      generalize (f i k).st = t at c3 HC
      by_cases ht : t = s
      · subst ht
        have HC' : Hid (cnt (f i) (k + 1) t = n + 1) := by have h := HC.out; rw [if_pos rfl] at h; exact h
        clear HC
        go_wp2_with fail
        go_quiet (fail)
        go_wp2
        go_roundw
        case rel => exact ⟨k + 1, by omega, by go_num, by rw [HC'.out]; rfl, (HN.out _).1, (HN.out _).2⟩
        case measure => simp [intOf]; omega
      · have HC' : Hid (cnt (f i) (k + 1) s = n) := by have := HC.out; rw [if_neg ht] at this; exact this
        clear HC
        have ht' : (t == s) = false := by simpa using ht
        go_wp2_with fail
        go_quiet (fail)
        go_wp2
        go_roundw
        case rel => exact ⟨k + 1, by omega, by go_num, by rw [HC'.out], (HN.out _).1, (HN.out _).2⟩
        case measure => simp [intOf]; omega
    · obtain rfl : k = R.m := by omega
      have p1 : ¬ (R.m : Int) < (R.m : Int) := by omega
      have HG := hide hg
      clear hg hR
      go_wp2
      go_ret
      exact ⟨rfl, HG.out⟩
end Bk
end Go.Proofs.YtoakokpeomlkjaaDoor
