/- Calls that are refused: Decode of no code, Encode of another length. -/
import Derived.Test.YtiojdoehlooibabDoorZCo
namespace Go.Proofs.YtiojdoehlooibabDoor
open Go.RowKit
namespace Gf
set_option maxHeartbeats 400000 in
theorem cDecode_nil (v u : Value) (w : World) :
    Calls Tryd.prog 11 #[.pointer none, v, u] w fun e w' => e = .returned (.tuple #[.slice none 0 0, .slice none 0 0, num 0, num 1]) ∧ w' = w := by
  go_enter Tryd.func11, Tryd.ntmps11
  go_wp2_with fail
  refine (cnone_nil w).mono ?_
  rintro e w1 ⟨rfl, rfl⟩
  go_wp2_with fail
  refine bodyPost_ret (v := .tuple #[.slice none 0 0, .slice none 0 0, num 0, num 1]) (by simp [results, Tryd.f11, go_sem]) rfl ⟨rfl, rfl⟩
end Gf
end Go.Proofs.YtiojdoehlooibabDoor
