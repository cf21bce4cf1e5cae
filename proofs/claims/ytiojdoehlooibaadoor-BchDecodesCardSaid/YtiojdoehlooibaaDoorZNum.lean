/- The contracts of Add, Mul, Log, Exp, Inv, Pow on a field. -/
import Derived.Test.YtiojdoehlooibaaDoorZDo
import Derived.Deep.QuietTactic
import Derived.BigQuiet
namespace Go.Proofs.YtiojdoehlooibaaDoor
open Go.RowKit
namespace Gf
theorem el_bd {m : Nat} (h : Em m) (a : Int) : el m a ≤ 8191 := by have := el_le m a; have := sz_bd h; omega
theorem add_cast {m : Nat} (h : Em m) (a b : Int) : bits .xor .i64 (el m a : Int) (el m b : Int) = ((el m a ^^^ el m b : Nat) : Int) :=
  xor_i64 _ _ (by have := el_bd h a; omega) (by have := el_bd h b; omega)
set_option maxHeartbeats 400000 in
theorem add_ok {b m : Nat} {w : World} (h : Fld w b m) (x y : Int) :
    Calls Tryd.prog 66 #[ptr b, num x, num y] w fun e w' => e = .returned (num (el m x ^^^ el m y : Nat)) ∧ w' = w := by
  have HX : Hid _ := add_cast h.em x y
  go_enter Tryd.func66, Tryd.ntmps66
  go_wp2_with fail
  refine (element_ok h x).mono ?_
  rintro e w' ⟨rfl, rfl⟩
  go_wp2_with fail
  refine (element_ok h y).mono ?_
  rintro e w' ⟨rfl, rfl⟩
  go_wp2_with fail
  go_ret
  exact ⟨ret_int HX.out, rfl⟩
/-- The logarithm as it is answered. -/
def logS (m : Nat) (a : Nat) : Int := if a = 0 then -1 else lg m a
set_option maxHeartbeats 400000 in
theorem log_ok {b m : Nat} {w : World} (h : Fld w b m) (x : Int) :
    Calls Tryd.prog 77 #[ptr b, num x] w fun e w' => e = .returned (num (logS m (el m x))) ∧ Fld w' b m ∧ Step b w w' := by
  by_cases h0 : el m x = 0
  · have h0' : ((el m x : Int) == 0) = true := by simp [h0]
    have HL : Hid (logS m (el m x) = -1) := by simp [logS, h0, Hid]
    clear h0
    go_enter Tryd.func77, Tryd.ntmps77
    go_wp2_with (first | (go_at_call 68; refine (none_ok h).mono ?_; rintro e w' ⟨rfl, rfl⟩) | (go_at_call 76; refine (element_ok h x).mono ?_; rintro e w' ⟨rfl, rfl⟩))
    go_ret
    exact ⟨ret_int HL.out.symm, h, Step.refl _ _⟩
  · have h0' : ((el m x : Int) == 0) = false := by simp [h0]
    have HL : Hid (logS m (el m x) = lg m (el m x)) := by simp [logS, h0, Hid]
    have h1 : 1 ≤ el m x := by omega
    have h2 := el_le m x
    have h3 := sz_bd h.em
    have h1' : (1 : Int) ≤ (el m x : Int) := by omega
    have h2' : (el m x : Int) < (sz m : Int) + 1 := by omega
    have h3' : (sz m : Int) ≤ 8191 := by omega
    clear h0
    go_enter Tryd.func77, Tryd.ntmps77
    go_wp2_with (first | (go_at_call 68; refine (none_ok h).mono ?_; rintro e w' ⟨rfl, rfl⟩) | (go_at_call 76; refine (element_ok h x).mono ?_; rintro e w' ⟨rfl, rfl⟩) | (go_at_call 69; refine (do_fld h).mono ?_; rintro e w1 ⟨rfl, ⟨gp, gl, hd⟩, hs⟩; have c5 : w1.cell? ⟨b, 5, none⟩ = some (lvOf m gl) := (by rw [cell_blk hd.at_]; rfl); have cl : w1.cell? ⟨gl, el m x, none⟩ = some (num (lg m (el m x))) := hd.tabs.logs _ h1 h2))
    go_ret
    exact ⟨ret_int HL.out.symm, .inr ⟨gp, gl, hd⟩, hs⟩
set_option maxHeartbeats 400000 in
theorem exp_ok {b m : Nat} {w : World} (h : Fld w b m) (n : Int) :
    Calls Tryd.prog 48 #[ptr b, num n] w fun e w' => e = .returned (num (pw m (wrapS m n))) ∧ Fld w' b m ∧ Step b w w' := by
  have h3 := sz_bd h.em
  have h3' : (sz m : Int) ≤ 8191 := by omega
  have h4 := wrapS_lt h.em n
  have h4' : (wrapS m n : Int) < 2 * (sz m : Int) := by omega
  go_enter Tryd.func48, Tryd.ntmps48
  go_wp2_with (first | (go_at_call 68; refine (none_ok h).mono ?_; rintro e w' ⟨rfl, rfl⟩) | (go_at_call 69; refine (do_fld h).mono ?_; rintro e w1 ⟨rfl, ⟨gp, gl, hd⟩, hs⟩; have c4 : w1.cell? ⟨b, 4, none⟩ = some (pvOf m gp) := (by rw [cell_blk hd.at_]; rfl); have cl : w1.cell? ⟨gp, wrapS m n, none⟩ = some (num (pw m (wrapS m n))) := hd.tabs.pows _ (by omega); have hF : Fld w1 b m := .inr ⟨gp, gl, hd⟩))
  go_quiet ((go_at_call 71; exact Calls.quiet_of_same (wrap_ok (hF.drewN _) n)))
  go_wp2
  go_ret
  exact ⟨rfl, hF.drewN _, hs.drewN _⟩
set_option maxHeartbeats 400000 in
theorem mul_ok {b m : Nat} {w : World} (h : Fld w b m) (x y : Int) :
    Calls Tryd.prog 67 #[ptr b, num x, num y] w fun e w' => e = .returned (num (mul m (el m x) (el m y))) ∧ Fld w' b m ∧ Step b w w' := by
  by_cases h0 : el m x = 0
  · have h0' : ((el m x : Int) == 0) = true := by simp [h0]
    have HL : Hid (mul m (el m x) (el m y) = 0) := by simp [mul, h0, Hid]
    clear h0
    go_enter Tryd.func67, Tryd.ntmps67
    go_wp2_with fail
    refine (element_ok h x).mono ?_
    rintro e w' ⟨rfl, rfl⟩
    go_wp2_with fail
    refine (element_ok h y).mono ?_
    rintro e w' ⟨rfl, rfl⟩
    go_wp2
    go_ret
    exact ⟨ret_int (by rw [HL.out]; rfl), h, Step.refl _ _⟩
  by_cases h1 : el m y = 0
  · have h0' : ((el m x : Int) == 0) = false := by simp [h0]
    have h1' : ((el m y : Int) == 0) = true := by simp [h1]
    have HL : Hid (mul m (el m x) (el m y) = 0) := by simp [mul, h1, Hid]
    clear h0 h1
    go_enter Tryd.func67, Tryd.ntmps67
    go_wp2_with fail
    refine (element_ok h x).mono ?_
    rintro e w' ⟨rfl, rfl⟩
    go_wp2_with fail
    refine (element_ok h y).mono ?_
    rintro e w' ⟨rfl, rfl⟩
    go_wp2
    go_ret
    exact ⟨ret_int (by rw [HL.out]; rfl), h, Step.refl _ _⟩
  · have h0' : ((el m x : Int) == 0) = false := by simp [h0]
    have h1' : ((el m y : Int) == 0) = false := by simp [h1]
    have HL : Hid (mul m (el m x) (el m y) = pw m (lg m (el m x) + lg m (el m y))) := by simp [mul, h0, h1, Hid]
    have a1 : 1 ≤ el m x := by omega
    have a2 : 1 ≤ el m y := by omega
    have a3 := el_le m x
    have a4 := el_le m y
    have h3 := sz_bd h.em
    have l1 := (lg_spec h.em a1 a3).1
    have l2 := (lg_spec h.em a2 a4).1
    have h3' : (sz m : Int) ≤ 8191 := by omega
    have a1' : (1 : Int) ≤ (el m x : Int) := by omega
    have a2' : (1 : Int) ≤ (el m y : Int) := by omega
    have a3' : (el m x : Int) < (sz m : Int) + 1 := by omega
    have a4' : (el m y : Int) < (sz m : Int) + 1 := by omega
    have l1' : (lg m (el m x) : Int) < (sz m : Int) := by omega
    have l2' : (lg m (el m y) : Int) < (sz m : Int) := by omega
    clear h0 h1
    go_enter Tryd.func67, Tryd.ntmps67
    go_wp2_with fail
    refine (element_ok h x).mono ?_
    rintro e w' ⟨rfl, rfl⟩
    go_wp2_with fail
    refine (element_ok h y).mono ?_
    rintro e w' ⟨rfl, rfl⟩
    go_wp2_with fail
    refine (do_fld h).mono ?_
    rintro e w1 ⟨rfl, ⟨gp, gl, hd⟩, hs⟩
    have c4 : w1.cell? ⟨b, 4, none⟩ = some (pvOf m gp) := by rw [cell_blk hd.at_]; rfl
    have c5 : w1.cell? ⟨b, 5, none⟩ = some (lvOf m gl) := by rw [cell_blk hd.at_]; rfl
    have cx : w1.cell? ⟨gl, el m x, none⟩ = some (num (lg m (el m x))) := hd.tabs.logs _ a1 a3
    have cy : w1.cell? ⟨gl, el m y, none⟩ = some (num (lg m (el m y))) := hd.tabs.logs _ a2 a4
    have cp : w1.cell? ⟨gp, lg m (el m x) + lg m (el m y), none⟩ = some (num (pw m (lg m (el m x) + lg m (el m y)))) := hd.tabs.pows _ (by omega)
    have hF : Fld w1 b m := .inr ⟨gp, gl, hd⟩
    go_wp2_with fail
    go_quiet (fail)
    go_wp2
    go_ret
    exact ⟨ret_int (by rw [HL.out]), hF.drewN _, hs.drewN _⟩
/-- The inverse. -/
def invS (m a : Nat) : Nat := if a = 0 then 0 else pw m (wrapS m (-(lg m a : Int)))
/-- An element n times multiplied. -/
def powS (m a : Nat) (n : Int) : Nat := if n = 0 then 1 else if a = 0 then 0 else pw m (wrapS m ((lg m a : Int) * wrapS m n))
set_option maxHeartbeats 400000 in
theorem inv_ok {b m : Nat} {w : World} (h : Fld w b m) (x : Int) :
    Calls Tryd.prog 63 #[ptr b, num x] w fun e w' => e = .returned (num (invS m (el m x))) ∧ Fld w' b m ∧ Step b w w' := by
  by_cases h0 : el m x = 0
  · have h0' : ((el m x : Int) == 0) = true := by simp [h0]
    have HL : Hid (invS m (el m x) = 0) := by simp [invS, h0, Hid]
    clear h0
    go_enter Tryd.func63, Tryd.ntmps63
    go_wp2_with (go_at_call 76; refine (element_ok h x).mono ?_; rintro e w' ⟨rfl, rfl⟩)
    go_ret
    exact ⟨ret_int (by rw [HL.out]; rfl), h, Step.refl _ _⟩
  · have h0' : ((el m x : Int) == 0) = false := by simp [h0]
    have HL : Hid (invS m (el m x) = pw m (wrapS m (-(lg m (el m x) : Int)))) := by simp [invS, h0, Hid]
    have HG : Hid (logS m (el m x) = lg m (el m x)) := by simp [logS, h0, Hid]
    have l1 := (lg_spec h.em (by omega) (el_le m x)).1
    have h3 := sz_bd h.em
    have h3' : (sz m : Int) ≤ 8191 := by omega
    have l1' : (lg m (el m x) : Int) < (sz m : Int) := by omega
    clear h0
    go_enter Tryd.func63, Tryd.ntmps63
    go_wp2_with (first | (go_at_call 76; refine (element_ok h x).mono ?_; rintro e w' ⟨rfl, rfl⟩) | (go_at_call 77; refine (log_ok h x).mono ?_; rintro e w1 ⟨rfl, hF, hs⟩; rw [HG.out]))
    refine (exp_ok hF _).mono ?_
    rintro e w2 ⟨rfl, hF2, hs2⟩
    go_wp2
    go_ret
    exact ⟨ret_int (by rw [HL.out]), hF2, hs.trans hs2⟩
end Gf
end Go.Proofs.YtiojdoehlooibaaDoor
