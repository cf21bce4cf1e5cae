/- The walk of GfNothing. -/
import Derived.Test.YtkbafbhhoemkcaaDoorNil
namespace Go.Proofs.YtkbafbhhoemkcaaDoor
open Go.RowKit Gf
set_option maxHeartbeats 1600000 in
theorem law_GfNothing (a : Int) (_ha : I64 a) (n : Int) (_hn : I64 n) (ao : Option Addr) (len cap : Nat) (xs : List Int) {w : World} (hx : Arg w ao len xs) (hl : len ≤ 17592186044416) (hG : Glob w) (h0 : 0 < w.heap.size) :
    Calls Tryd.prog 8 #[num a, num n, .slice ao len cap] w fun e w' => e = .returned (.bool true) ∧ w.grownBy w' none := by
  have hn := hnot
  obtain rfl : xs.length = len := hx.1
  go_enter Tryd.func8, Tryd.ntmps8
  go_wp2_with fail
  refine (awake_ok w hG h0).mono ?_
  rintro e w1 ⟨rfl, hg1⟩
  have hx1 := hx.kept hg1
  have h1 : 0 < w1.heap.size := by have := hg1.size; omega
  go_wp2_with fail
  refine (generator_nil n _).mono ?_
  rintro e w2 ⟨rfl, rfl⟩
  go_wp2_with fail
  refine (m_nil _).mono ?_
  rintro e w2 ⟨rfl, rfl⟩
  go_wp2_with fail
  refine (size_nil _).mono ?_
  rintro e w2 ⟨rfl, rfl⟩
  go_wp2_with fail
  refine (add_nil _ _ _).mono ?_
  rintro e w2 ⟨rfl, rfl⟩
  go_wp2_with fail
  refine (mul_nil _ _ _).mono ?_
  rintro e w2 ⟨rfl, rfl⟩
  go_wp2_with fail
  refine (inv_nil _ _).mono ?_
  rintro e w2 ⟨rfl, rfl⟩
  go_wp2_with fail
  refine (pow_nil _ _ _).mono ?_
  rintro e w2 ⟨rfl, rfl⟩
  go_wp2_with fail
  refine (log_nil _ _).mono ?_
  rintro e w2 ⟨rfl, rfl⟩
  go_wp2_with fail
  refine (exp_nil _ _).mono ?_
  rintro e w2 ⟨rfl, rfl⟩
  go_wp2_with fail
  refine (eval_nil ao cap xs _ _ hx1 hl).mono ?_
  rintro e w3 ⟨rfl, hg3⟩
  have hx3 := hx1.kept hg3
  have h3 : 0 < w3.heap.size := by have := hg3.size; omega
  go_wp2_with fail
  refine (times_nil ao ao cap cap xs xs _ h3 hx3 hx3 hl hl).mono ?_
  rintro e w4 ⟨rfl, hg4⟩
  have hx4 := hx3.kept hg4
  have h4 : 0 < w4.heap.size := by have := hg4.size; omega
  go_wp2_with fail
  refine (rest_nil ao ao cap cap xs xs _ h4 hx4 hx4 hl hl).mono ?_
  rintro e w5 ⟨rfl, hg5⟩
  go_wp2_with fail
  refine (minimal_nil _ _).mono ?_
  rintro e w6 ⟨rfl, rfl⟩
  go_wp2_with fail
  go_ret
  exact ⟨rfl, grownBy_trans hg1 (grownBy_trans hg3 (grownBy_trans hg4 hg5))⟩
end Go.Proofs.YtkbafbhhoemkcaaDoor
