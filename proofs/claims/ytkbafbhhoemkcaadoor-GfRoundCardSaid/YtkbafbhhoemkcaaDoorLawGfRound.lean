/- The walk of GfRound. -/
import Derived.Test.YtkbafbhhoemkcaaDoorLay
import Derived.Test.YtkbafbhhoemkcaaDoorAlg
namespace Go.Proofs.YtkbafbhhoemkcaaDoor
open Go.RowKit Gf
theorem same_round {m : Nat} (h : Em m) (n k : Int) : ((xp m n : Int) == (xp m k : Int)) = ((n - k).tmod (sz m : Int) == 0) := by
  have hs := sz_bd h
  have e := xp_inj h n k
  rw [Bool.eq_iff_iff, beq_iff_eq, beq_iff_eq]
  constructor
  · intro h1
    have := e.1 (by omega)
    exact Int.tmod_eq_zero_of_dvd (Int.dvd_of_emod_eq_zero this)
  · intro h1
    have := e.2 (Int.emod_eq_zero_of_dvd (Int.dvd_of_tmod_eq_zero h1))
    omega
set_option maxHeartbeats 1600000 in
theorem law_GfRound (c : Int) (hc : I64 c) (n : Int) (_hn : I64 n) (k : Int) (_hk : I64 k) (w : World) (hG : Glob w) (h0 : 0 < w.heap.size) :
    Calls Tryd.prog 6 #[num c, num n, num k] w fun e w' => e = .returned (.bool true) ∧ w.grownBy w' none := by
  have hn := hnot
  have hem := pick_em c
  obtain ⟨m, hm⟩ : ∃ m, m = pickS c := ⟨_, rfl⟩
  have HM : Hid (m = pickS c) := hm
  rw [← hm] at hem
  clear hm
  have hsz := sz_bd hem
  have t1 := Int.tmod_lt_of_pos n (show (0 : Int) < 1000000 by decide)
  have t2 := Int.tmod_lt_of_pos k (show (0 : Int) < 1000000 by decide)
  have t3 := (tmod_form n 1000000 (by decide)).2.2.2
  have t4 := (tmod_form k 1000000 (by decide)).2.2.2
  have hE := same_round hem (n.tmod 1000000) (k.tmod 1000000)
  have L1 : Hid (xp m (n.tmod 1000000 + sz m) = xp m (n.tmod 1000000)) := xp_period hem _
  have L0 : Hid (xp m 0 = 1) := xp_zero hem
  go_enter Tryd.func6, Tryd.ntmps6
  go_wp2_with fail
  refine (awake_ok w hG h0).mono ?_
  rintro e w1 ⟨rfl, hg1⟩
  have hF := Fld_new hem (hG.kept (hg1.block 0 h0 (by simp))) (show 0 < w1.heap.size by have := hg1.size; omega)
  go_wp2_with fail
  refine (field_ok c hc _).mono ?_
  rintro e w2 ⟨rfl, rfl⟩
  rw [← HM.out]
  go_wp2_with fail
  refine (size_ok hF).mono ?_
  rintro e w2 ⟨rfl, rfl⟩
  go_wp2_with fail
  refine (exp_x hF _).mono ?_
  rintro e w2 ⟨rfl, hF2, hs2⟩
  go_wp2_with fail
  refine (exp_x hF2 _).mono ?_
  rintro e w3 ⟨rfl, hF3, hs3⟩
  go_wp2_with fail
  all_goals refine (exp_x hF3 _).mono ?_
  all_goals rintro e w4 ⟨rfl, hF4, hs4⟩
  all_goals rw [L1.out]
  all_goals go_wp2_with fail
  all_goals refine (exp_x hF4 _).mono ?_
  all_goals rintro e w5 ⟨rfl, hF5, hs5⟩
  all_goals go_wp2_with fail
  all_goals refine (exp_x hF5 _).mono ?_
  all_goals rintro e w6 ⟨rfl, hF6, hs6⟩
  all_goals rw [L0.out]
  all_goals go_wp2_with fail
  all_goals go_ret
  all_goals exact ⟨rfl, grownBy_trans hg1 ((((hs2.trans hs3).trans hs4).trans hs5).trans hs6).since⟩
end Go.Proofs.YtkbafbhhoemkcaaDoor
