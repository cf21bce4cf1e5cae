/- Layer 4 (nand): the small functions: none, find, Next, Erases, Marked, Power, On, Load, Add. -/
import Derived.Test.YtojamicakkecbabNa
namespace Go.Proofs.Ytojamicakkecbab
open Go.RowKit Go.Maps
namespace Nd
theorem hnot (x : Bool) (w : World) : (Op.unary .not (.bool x)).run Try.prog w = .ok (.bool (!x)) w := rfl
abbrev wr (x : Int) : Int := IntKind.i64.wrap x
theorem wr_in {x : Int} (h1 : -9223372036854775808 ≤ x) (h2 : x ≤ 9223372036854775807) : wr x = x := by
  unfold wr; rw [IntKind.wrap_i64]; omega
set_option maxHeartbeats 400000 in
theorem load_ok {w : World} {g o : Nat} {x : Int} (hc : w.cell? ⟨g, o, none⟩ = some (num x)) :
    Calls Try.prog 30 #[ptr g o] w fun e w' => e = .returned (num x) ∧ w' = w := by
  have hl := run_call_load (P := Try.prog) Try.func37 (by kernel_rfl) (by kernel_rfl) (by kernel_rfl) .i64 (by kernel_rfl) hc
  go_enter Try.func30, Try.ntmps30
  go_wp2
  go_ret
  exact ⟨rfl, rfl⟩
set_option maxHeartbeats 400000 in
theorem add_ok {w : World} {g o : Nat} {x : Int} (y : Int) (hc : w.cell? ⟨g, o, none⟩ = some (num x)) (hz : w.frozen? ⟨g, o, none⟩ = false) :
    Calls Try.prog 33 #[ptr g o, num y] w fun e w' => e = .returned (num (wr (x + y))) ∧ w' = w.setCell ⟨g, o, none⟩ (num (wr (x + y))) := by
  have hadd := run_call_add (P := Try.prog) Try.func39 (by kernel_rfl) (by kernel_rfl) (by kernel_rfl) .i64 (by kernel_rfl) (y := y) (s := wr (x + y)) hc hz (by simp [go_sem])
  go_enter Try.func33, Try.ntmps33
  go_wp2
  go_ret
  exact ⟨rfl, rfl⟩
theorem D_ne {A : St} (h : Dims A) : ((A.D : Int) == 0) = false := by have := h.d1; simp; omega
set_option maxHeartbeats 400000 in
theorem none_ok {w : World} {M : Lay} {A : St} {lab : Lab} (h : Arr w M A lab) :
    Calls Try.prog 19 #[ptr M.a 0] w fun e w' => e = .returned (.bool false) ∧ w' = w := by
  have h1 := D_ne h.dims
  have c0 := h.cD.1
  go_enter Try.func19, Try.ntmps19
  go_wp2
  go_ret
  exact ⟨rfl, rfl⟩
set_option maxHeartbeats 400000 in
theorem power_ok {w : World} {M : Lay} {A : St} {lab : Lab} (h : Arr w M A lab) :
    Calls Try.prog 7 #[ptr M.a 0] w fun e w' => e = .returned (.bool A.on) ∧ w' = w := by
  have c4 := h.cOn.1
  have hn := hnot
  go_enter Try.func7, Try.ntmps7
  go_wp2_with (go_at_call 19; refine (none_ok h).mono ?_; rintro e w' ⟨rfl, rfl⟩)
  go_ret
  exact ⟨rfl, rfl⟩
set_option maxHeartbeats 400000 in
theorem on_ok {w : World} {M : Lay} {A : St} {lab : Lab} (h : Arr w M A lab) :
    Calls Try.prog 12 #[ptr M.a 0] w fun e w' => e = .returned (.tuple #[]) ∧ Arr w' M (A.setOn true) lab ∧ Stp lab lab w w' := by
  obtain ⟨c4, z4⟩ := h.cOn
  have hn := hnot
  go_enter Try.func12, Try.ntmps12
  go_wp2_with (go_at_call 19; refine (none_ok h).mono ?_; rintro e w' ⟨rfl, rfl⟩)
  go_end0
  exact ⟨rfl, h.power true, (Stp.refl _ _).set (.inl (by rw [h.la]; simp)) _⟩
set_option maxHeartbeats 800000 in
theorem find_ok {w : World} {M : Lay} {A : St} {lab : Lab} (h : Arr w M A lab) (d b : Nat) (hd : d < A.D) (hb : b < A.B) :
    Calls Try.prog 20 #[ptr M.a 0, num d, num b] w fun e w' => e = .returned (ptr (M.bk d) (b * 7)) ∧ w' = w := by
  have c0 := h.cD.1
  have c1 := h.cB.1
  have c5 := h.cDs.1
  have cd := (h.die d hd).2.1
  have b1 : (d : Int) < (A.D : Int) := by omega
  have b2 : (b : Int) < (A.B : Int) := by omega
  have b3 : (A.D : Int) ≤ 8 := by have := h.dims.d2; omega
  have b4 : (A.B : Int) ≤ 64 := by have := h.dims.b2; omega
  go_enter Try.func20, Try.ntmps20
  go_wp2_with (go_at_call 19; refine (none_ok h).mono ?_; rintro e w' ⟨rfl, rfl⟩)
  go_ret
  exact ⟨rfl, rfl⟩
end Nd
end Go.Proofs.Ytojamicakkecbab
