/- The walk of GfMakes. -/
import Derived.Test.YtnpfjjnkbhkpaaaDoorLay
namespace Go.Proofs.YtnpfjjnkbhkpaaaDoor
open Go.RowKit Gf
set_option maxHeartbeats 800000 in
theorem law_GfMakes (m : Int) (_hm : I64 m) (w : World) (hG : Glob w) (h0 : 0 < w.heap.size) :
    Calls Tryd.prog 3 #[num m] w fun e w' => e = .returned (.bool true) ∧ w.grownBy w' none := by
  have hn := hnot
  by_cases h1 : m < 2
  · go_enter Tryd.func3, Tryd.ntmps3
    go_wp2_with (first | (go_at_call 9; refine (awake_ok w hG h0).mono ?_; rintro e w1 ⟨rfl, hg1⟩) | (go_at_call 10; refine (new_no m (.inl h1) _).mono ?_; rintro e w2 ⟨rfl, rfl⟩))
    go_ret
    exact ⟨rfl, hg1⟩
  by_cases h2 : 13 < m
  · go_enter Tryd.func3, Tryd.ntmps3
    go_wp2_with (first | (go_at_call 9; refine (awake_ok w hG h0).mono ?_; rintro e w1 ⟨rfl, hg1⟩) | (go_at_call 10; refine (new_no m (.inr h2) _).mono ?_; rintro e w2 ⟨rfl, rfl⟩))
    go_ret
    exact ⟨rfl, hg1⟩
  · obtain ⟨k, rfl⟩ := Int.eq_ofNat_of_zero_le (show 0 ≤ m by omega)
    have hem : Em k := ⟨by omega, by omega⟩
    have hs := sz_bd hem
    have HS : Hid _ := sz_int hem
    go_enter Tryd.func3, Tryd.ntmps3
    go_wp2_with fail
    refine (awake_ok w hG h0).mono ?_
    rintro e w1 ⟨rfl, hg1⟩
    have hF := Fld_new hem (hG.kept (hg1.block 0 h0 (by simp))) (show 0 < w1.heap.size by have := hg1.size; omega)
    go_wp2_with fail
    refine (new_ok k hem _).mono ?_
    rintro e w2 ⟨rfl, rfl⟩
    go_wp2_with fail
    refine (m_ok hF).mono ?_
    rintro e w2 ⟨rfl, rfl⟩
    go_wp2_with fail
    refine (size_ok hF).mono ?_
    rintro e w2 ⟨rfl, rfl⟩
    go_wp2_with fail
    go_ret
    exact ⟨ret_bool (by simpa using HS.out.symm), grownBy_trans hg1 (World.grownBy_alloc _ _ none)⟩
end Go.Proofs.YtnpfjjnkbhkpaaaDoor
