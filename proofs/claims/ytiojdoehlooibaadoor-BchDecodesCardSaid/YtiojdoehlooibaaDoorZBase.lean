/- The contracts of gf's small functions: New, M, Size, none, element, wrap, on a field and on nil. -/
import Derived.Test.YtiojdoehlooibaaDoorZWld
import Derived.Test.YtiojdoehlooibaaDoorRows
namespace Go.Proofs.YtiojdoehlooibaaDoor
open Go.RowKit
namespace Gf
theorem ret_int {k : IntKind} {a b : Int} (h : a = b) : Ending.returned (.int k a) = .returned (.int k b) := by rw [h]
abbrev ptr (b : Nat) : Value := .pointer (some ⟨b, 0, none⟩)
abbrev num (n : Int) : Value := .int .i64 n
theorem shl_one {m : Nat} (h : Em m) : wrap64 (2 ^ m) = (2 ^ m : Nat) := by
  have := two_pow_le h
  have e : ((2 : Int) ^ m) = ((2 ^ m : Nat) : Int) := by simp
  rw [e]
  exact IntWalk.wrap64_in _ ⟨by omega, by omega⟩
theorem sz_int {m : Nat} (h : Em m) : wrap64 (wrap64 (2 ^ m) - 1) = (sz m : Int) := by
  have := two_pow_le h
  have := sz_succ m
  rw [shl_one h, IntWalk.wrap64_in _ ⟨by omega, by omega⟩]
  omega

set_option maxHeartbeats 400000 in
theorem new_ok (m : Nat) (h : Em m) (w : World) :
    Calls Tryd.prog 24 #[num m] w fun e w' => e = .returned (.tuple #[ptr w.heap.size, num 0]) ∧ w' = w.alloc (blk m 0 (.slice none 0 0) (.slice none 0 0)) := by
  have h1 : (2 : Int) ≤ m := by have := h.1; omega
  have h2 : (m : Int) ≤ 13 := by have := h.2; omega
  go_enter Tryd.func24, Tryd.ntmps24
  go_wp2
  go_ret2
  exact ⟨rfl, rfl⟩
set_option maxHeartbeats 400000 in
theorem new_no (m : Int) (h : m < 2 ∨ 13 < m) (w : World) :
    Calls Tryd.prog 24 #[num m] w fun e w' => e = .returned (.tuple #[.pointer none, num 1]) ∧ w' = w := by
  rcases h with h | h
  · go_enter Tryd.func24, Tryd.ntmps24
    go_wp2
    go_ret2
    exact ⟨rfl, rfl⟩
  · have h' : ¬ m < 2 := by omega
    go_enter Tryd.func24, Tryd.ntmps24
    go_wp2
    go_ret2
    exact ⟨rfl, rfl⟩
set_option maxHeartbeats 400000 in
theorem m_cell {b m : Nat} {w : World} (hc : w.cell? ⟨b, 0, none⟩ = some (.int .i64 m)) :
    Calls Tryd.prog 30 #[ptr b] w fun e w' => e = .returned (num m) ∧ w' = w := by
  go_enter Tryd.func30, Tryd.ntmps30
  go_wp2
  go_ret
  exact ⟨rfl, rfl⟩
theorem m_ok {b m : Nat} {w : World} (h : Fld w b m) :
    Calls Tryd.prog 30 #[ptr b] w fun e w' => e = .returned (num m) ∧ w' = w := m_cell h.cellM
set_option maxHeartbeats 400000 in
theorem m_nil (w : World) : Calls Tryd.prog 30 #[.pointer none] w fun e w' => e = .returned (num 0) ∧ w' = w := by
  go_enter Tryd.func30, Tryd.ntmps30
  go_wp2
  go_ret
  exact ⟨rfl, rfl⟩
set_option maxHeartbeats 400000 in
theorem size_cell {b m : Nat} {w : World} (hm : Em m) (hc : w.cell? ⟨b, 0, none⟩ = some (.int .i64 m)) :
    Calls Tryd.prog 46 #[ptr b] w fun e w' => e = .returned (num (sz m)) ∧ w' = w := by
  have h1 : (2 : Int) ≤ m := by have := hm.1; omega
  have h2 : (m : Int) ≤ 13 := by have := hm.2; omega
  have HS : Hid (wrap64 (wrap64 (2 ^ m) - 1) = (sz m : Int)) := sz_int hm
  go_enter Tryd.func46, Tryd.ntmps46
  go_wp2_with (go_at_call 30; refine (m_cell hc).mono ?_; rintro e w' ⟨rfl, rfl⟩)
  go_ret
  exact ⟨ret_int (by simpa using HS.out), rfl⟩
theorem size_ok {b m : Nat} {w : World} (h : Fld w b m) :
    Calls Tryd.prog 46 #[ptr b] w fun e w' => e = .returned (num (sz m)) ∧ w' = w := size_cell h.em h.cellM
set_option maxHeartbeats 400000 in
theorem size_nil (w : World) : Calls Tryd.prog 46 #[.pointer none] w fun e w' => e = .returned (num 0) ∧ w' = w := by
  go_enter Tryd.func46, Tryd.ntmps46
  go_wp2_with (go_at_call 30; refine (m_nil _).mono ?_; rintro e w' ⟨rfl, rfl⟩)
  go_ret
  exact ⟨rfl, rfl⟩
set_option maxHeartbeats 400000 in
theorem none_ok {b m : Nat} {w : World} (h : Fld w b m) :
    Calls Tryd.prog 68 #[ptr b] w fun e w' => e = .returned (.bool false) ∧ w' = w := by
  have h1 : ((m : Int) == 0) = false := by have := h.em.1; simp; omega
  go_enter Tryd.func68, Tryd.ntmps68
  go_wp2_with (go_at_call 30; refine (m_ok h).mono ?_; rintro e w' ⟨rfl, rfl⟩)
  go_ret
  exact ⟨rfl, rfl⟩
set_option maxHeartbeats 400000 in
theorem none_nil (w : World) : Calls Tryd.prog 68 #[.pointer none] w fun e w' => e = .returned (.bool true) ∧ w' = w := by
  go_enter Tryd.func68, Tryd.ntmps68
  go_wp2_with (go_at_call 30; refine (m_nil _).mono ?_; rintro e w' ⟨rfl, rfl⟩)
  go_ret
  exact ⟨rfl, rfl⟩
set_option maxHeartbeats 400000 in
theorem element_ok {b m : Nat} {w : World} (h : Fld w b m) (a : Int) :
    Calls Tryd.prog 76 #[ptr b, num a] w fun e w' => e = .returned (num (el m a)) ∧ w' = w := by
  have HE : Hid (∀ x : Int, ((a < 0 ∨ (sz m : Int) < a) → x = 0) → (¬ (a < 0 ∨ (sz m : Int) < a) → x = a) → Ending.returned (num x) = .returned (num (el m a))) := fun x h1 h2 => ret_int (by
    unfold el
    split
    · rename_i hh; rw [h1 hh]; rfl
    · rename_i hh; rw [h2 hh]; omega)
  by_cases h1 : a < 0
  · go_enter Tryd.func76, Tryd.ntmps76
    go_wp2
    go_ret
    exact ⟨HE.out _ (fun _ => rfl) (fun hh => absurd (.inl h1) hh), rfl⟩
  · by_cases h2 : (sz m : Int) < a
    · go_enter Tryd.func76, Tryd.ntmps76
      go_wp2_with (go_at_call 46; refine (size_ok h).mono ?_; rintro e w' ⟨rfl, rfl⟩)
      go_ret
      exact ⟨HE.out _ (fun _ => rfl) (fun hh => absurd (.inr h2) hh), rfl⟩
    · go_enter Tryd.func76, Tryd.ntmps76
      go_wp2_with (go_at_call 46; refine (size_ok h).mono ?_; rintro e w' ⟨rfl, rfl⟩)
      go_ret
      exact ⟨HE.out _ (fun hh => by omega) (fun _ => rfl), rfl⟩
set_option maxHeartbeats 400000 in
theorem element_nil (a : Int) (w : World) : Calls Tryd.prog 76 #[.pointer none, num a] w fun e w' => e = .returned (num 0) ∧ w' = w := by
  by_cases h1 : a < 0
  · go_enter Tryd.func76, Tryd.ntmps76
    go_wp2
    go_ret
    exact ⟨rfl, rfl⟩
  · by_cases h2 : (0 : Int) < a
    · go_enter Tryd.func76, Tryd.ntmps76
      go_wp2_with (go_at_call 46; refine (size_nil _).mono ?_; rintro e w' ⟨rfl, rfl⟩)
      go_ret
      exact ⟨rfl, rfl⟩
    · obtain rfl : a = 0 := by omega
      go_enter Tryd.func76, Tryd.ntmps76
      go_wp2_with (go_at_call 46; refine (size_nil _).mono ?_; rintro e w' ⟨rfl, rfl⟩)
      go_ret
      exact ⟨rfl, rfl⟩
/-- A number by Size, from 0 on. -/
def wrapS (m : Nat) (n : Int) : Nat := (n % (sz m : Int)).toNat
theorem wrapS_lt {m : Nat} (h : Em m) (n : Int) : wrapS m n < sz m := by
  have := sz_bd h
  have h1 := Int.emod_nonneg n (show (sz m : Int) ≠ 0 by omega)
  have h2 := Int.emod_lt_of_pos n (show (0 : Int) < sz m by omega)
  unfold wrapS; omega
theorem wrapS_cast {m : Nat} (h : Em m) (n : Int) : (wrapS m n : Int) = n % (sz m : Int) := by
  have := sz_bd h
  have h1 := Int.emod_nonneg n (show (sz m : Int) ≠ 0 by omega)
  unfold wrapS; omega
theorem tmod_form (n s : Int) (hs : 0 < s) : (0 ≤ n.tmod s → n.tmod s = n % s) ∧ (n.tmod s < 0 → n.tmod s + s = n % s) ∧ n.tmod s < s ∧ - s < n.tmod s := by
  have e : n % s = if 0 ≤ n.tmod s then n.tmod s else n.tmod s + s := by
    rw [Int.emod_eq_tmod]
    have h1 := Int.tmod_lt_of_pos n hs
    by_cases h0 : 0 ≤ n
    · have := Int.tmod_nonneg s h0
      simp [h0, this]
    · by_cases hd : n.tmod s = 0
      · have := Int.dvd_of_tmod_eq_zero hd
        simp [hd, this]
      · have h2 : n.tmod s < 0 := by
          have : 0 ≤ (-n).tmod s := Int.tmod_nonneg s (by omega)
          rw [Int.neg_tmod] at this; omega
        have hnd : ¬ s ∣ n := fun hh => hd (Int.tmod_eq_zero_of_dvd hh)
        have : (s.natAbs : Int) = s := by omega
        simp [h0, hnd, this]
        omega
  have h1 := Int.tmod_lt_of_pos n hs
  have h2 : - s < n.tmod s := by
    have := Int.tmod_lt_of_pos (-n) hs
    rw [Int.neg_tmod] at this; omega
  refine ⟨fun h => by rw [e, if_pos h], fun h => by rw [e, if_neg (by omega)], h1, h2⟩
set_option maxHeartbeats 400000 in
theorem wrap_ok {b m : Nat} {w : World} (h : Fld w b m) (n : Int) :
    Calls Tryd.prog 71 #[ptr b, num n] w fun e w' => e = .returned (num (wrapS m n)) ∧ w' = w := by
  have hs := sz_bd h.em
  have h1 : (3 : Int) ≤ sz m := by omega
  have h2 : (sz m : Int) ≤ 8191 := by omega
  have HW : Hid _ := wrapS_cast h.em n
  obtain ⟨t1, t2, t3, t4⟩ := tmod_form n (sz m) (by omega)
  have T1 : Hid _ := t1
  have T2 : Hid _ := t2
  clear t1 t2 hs
  by_cases hneg : n.tmod (sz m) < 0
  · go_enter Tryd.func71, Tryd.ntmps71
    go_wp2_with (go_at_call 46; refine (size_ok h).mono ?_; rintro e w' ⟨rfl, rfl⟩)
    go_ret
    exact ⟨ret_int (by rw [HW.out]; exact T2.out (by omega)), rfl⟩
  · go_enter Tryd.func71, Tryd.ntmps71
    go_wp2_with (go_at_call 46; refine (size_ok h).mono ?_; rintro e w' ⟨rfl, rfl⟩)
    go_ret
    exact ⟨ret_int (by rw [HW.out]; exact T1.out (by omega)), rfl⟩
end Gf
end Go.Proofs.YtiojdoehlooibaaDoor
