/- The walk of GfReckons. -/
import Derived.Test.YtnpfjjnkbhkpaaaDoorLay
import Derived.Test.YtnpfjjnkbhkpaaaDoorRef
namespace Go.Proofs.YtnpfjjnkbhkpaaaDoor
open Go.RowKit Gf
set_option maxHeartbeats 1600000 in
theorem law_GfReckons (c : Int) (hc : I64 c) (a : Int) (_ha : I64 a) (b : Int) (_hb : I64 b) (n : Int) (_hn : I64 n) (w : World) (hG : Glob w) (h0 : 0 < w.heap.size) :
    Calls Tryd.prog 4 #[num c, num a, num b, num n] w fun e w' => e = .returned (.bool true) ∧ w.grownBy w' none := by
  have hn := hnot
  have hem := pick_em c
  obtain ⟨m, hm⟩ : ∃ m, m = pickS c := ⟨_, rfl⟩
  have HM : Hid (m = pickS c) := hm
  rw [← hm] at hem
  clear hm
  have hsz := sz_bd hem
  have hX := add_cast hem a b
  go_enter Tryd.func4, Tryd.ntmps4
  go_wp2_with fail
  refine (awake_ok w hG h0).mono ?_
  rintro e w1 ⟨rfl, hg1⟩
  have hF := Fld_new hem (hG.kept (hg1.block 0 h0 (by simp))) (show 0 < w1.heap.size by have := hg1.size; omega)
  go_wp2_with fail
  refine (field_ok c hc _).mono ?_
  rintro e w2 ⟨rfl, rfl⟩
  rw [← HM.out]
  go_wp2_with fail
  refine (rIn_ok hem _ _).mono ?_
  rintro e w2 ⟨rfl, rfl⟩
  go_wp2_with fail
  refine (rIn_ok hem _ _).mono ?_
  rintro e w2 ⟨rfl, rfl⟩
  go_wp2_with fail
  refine (add_ok hF _ _).mono ?_
  rintro e w2 ⟨rfl, rfl⟩
  go_wp2_with fail
  refine (mul_ok hF _ _).mono ?_
  rintro e w2 ⟨rfl, hF2, hs2⟩
  go_wp2_with fail
  refine (rMul_ok hem _ _ _).mono ?_
  rintro e w2' ⟨rfl, rfl⟩
  go_wp2_with fail
  refine (inv_ok hF2 _).mono ?_
  rintro e w3 ⟨rfl, hF3, hs3⟩
  go_wp2_with fail
  refine (rInv_ok hem _ _).mono ?_
  rintro e w3' ⟨rfl, rfl⟩
  go_wp2_with fail
  refine (pow_ok hF3 _ _).mono ?_
  rintro e w4 ⟨rfl, hF4, hs4⟩
  go_wp2_with fail
  refine (rPow_ok hem _ _ _).mono ?_
  rintro e w4' ⟨rfl, rfl⟩
  go_wp2_with fail
  refine (log_ok hF4 _).mono ?_
  rintro e w5 ⟨rfl, hF5, hs5⟩
  go_wp2_with fail
  refine (rLog_ok hem _ _).mono ?_
  rintro e w5' ⟨rfl, rfl⟩
  go_wp2_with fail
  refine (exp_x hF5 _).mono ?_
  rintro e w6 ⟨rfl, hF6, hs6⟩
  go_wp2_with fail
  refine (rExp_ok hem _ _).mono ?_
  rintro e w6' ⟨rfl, rfl⟩
  go_wp2_with fail
  go_ret
  exact ⟨rfl, grownBy_trans hg1 ((((hs2.trans hs3).trans hs4).trans hs5).trans hs6).since⟩
end Go.Proofs.YtnpfjjnkbhkpaaaDoor
