/- Calls that are refused: Decode of no code, Encode of another length. -/
import Derived.Test.YtiojdoehlooibaaDoorZCo
namespace Go.Proofs.YtiojdoehlooibaaDoor
open Go.RowKit
namespace Gf
set_option maxHeartbeats 400000 in
theorem cDecode_nil (v u : Value) (w : World) :
    Calls Tryd.prog 21 #[.pointer none, v, u] w fun e w' => e = .returned (.tuple #[.slice none 0 0, .slice none 0 0, num 0, num 1]) ∧ w' = w := by
  go_enter Tryd.func21, Tryd.ntmps21
  go_wp2_with fail
  refine (cnone_nil w).mono ?_
  rintro e w1 ⟨rfl, rfl⟩
  go_wp2_with fail
  refine bodyPost_ret (v := .tuple #[.slice none 0 0, .slice none 0 0, num 0, num 1]) (by simp [results, Tryd.f21, go_sem]) rfl ⟨rfl, rfl⟩
set_option maxHeartbeats 400000 in
theorem sEncode_no (m bytes t : Int) (v : Value) (ad : Option Addr) (len cd : Nat) (hne : (len : Int) ≠ bytes) (w : World) :
    Calls Tryd.prog 19 #[codeV m bytes t v, .slice ad len cd] w fun e w' => e = .returned (.tuple #[.slice none 0 0, num 1]) ∧ w.grownBy w' none := by
  have hne' : ((len : Int) != bytes) = true := by simpa using hne
  clear hne
  go_enter Tryd.func19, Tryd.ntmps19
  go_wp2_with fail
  go_ret2
  exact ⟨rfl, World.grownBy_alloc _ _ none⟩
end Gf
end Go.Proofs.YtiojdoehlooibaaDoor
