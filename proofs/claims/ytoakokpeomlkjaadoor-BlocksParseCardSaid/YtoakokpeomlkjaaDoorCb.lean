/- Layer 7 (blocks): the document's pool: Spread of no die, New's refusals. -/
import Derived.Test.YtoakokpeomlkjaaDoorCa
namespace Go.Proofs.YtoakokpeomlkjaaDoor
open Go.RowKit Go.Maps
namespace Bk
set_option maxHeartbeats 1600000 in
set_option maxRecDepth 8000 in
theorem kSpread_out {w : World} {R : Ref} {f : Pool} (h : RefM w R f) {d : Int} (hd : ¬ (0 ≤ d ∧ d < R.n)) : Calls Tryd.prog 34 #[ptr R.r 0, num d] w fun e w' => e = .returned (num 0) ∧ w' = w := by
  have HI := hide (kIn_none h hd)
  have c1 : w.cell? ⟨R.r, 1, none⟩ = some (num R.m) := cell_at h.box rfl
  clear h hd
  go_enter Tryd.func34, Tryd.ntmps34
  go_wp2_with fail
  refine HI.out.mono ?_
  rintro e w' ⟨rfl, rfl⟩
  go_wp2_with fail
  go_loopw [5, 6, 8] (fun a c b wr => wr = w' ∧ b = num 0 ∧ a = num (-1) ∧ c = num (-1)) (fun _ _ _ _ => 0)
  case atStart => exact ⟨rfl, rfl, rfl, rfl⟩
  case round =>
    obtain ⟨rfl, rfl, rfl, rfl⟩ := hrel
    by_cases p : (0 : Int) < (R.m : Int)
    · go_wp2
      go_ret
      exact ⟨rfl, rfl⟩
    · go_wp2
      go_ret
      exact ⟨rfl, rfl⟩
set_option maxHeartbeats 800000 in
theorem kNew_no (n m : Int) (h : ¬ InNew n m) (w : World) : Calls Tryd.prog 8 #[num n, num m] w fun e w' => e = .returned (.tuple #[.pointer none, num 1]) ∧ w' = w := by
  have HH := hide h
  clear h
  by_cases q1 : n < 1
  · go_enter Tryd.func8, Tryd.ntmps8
    go_wp2
    go_ret2
    exact ⟨rfl, rfl⟩
  · by_cases q2 : 8 < n
    · go_enter Tryd.func8, Tryd.ntmps8
      go_wp2
      go_ret2
      exact ⟨rfl, rfl⟩
    · by_cases q3 : m < 1
      · go_enter Tryd.func8, Tryd.ntmps8
        go_wp2
        go_ret2
        exact ⟨rfl, rfl⟩
      · have q4 : 64 < m := by have := HH.out; unfold InNew at this; omega
        go_enter Tryd.func8, Tryd.ntmps8
        go_wp2
        go_ret2
        exact ⟨rfl, rfl⟩
end Bk
end Go.Proofs.YtoakokpeomlkjaaDoor
