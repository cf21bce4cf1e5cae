/- Index and Contains of numbers. -/
import Derived.Test.YtiojdoehlooibaaDoorZPd
namespace Go.Proofs.YtiojdoehlooibaaDoor
open Go.RowKit
namespace Gf
def IndexPost (w : World) (l : List Nat) (e : Ending) (w' : World) : Prop := ∃ i : Int, e = .returned (num i) ∧ (0 ≤ i ↔ 1 ∈ l) ∧ w' = w
set_option maxHeartbeats 800000 in
set_option maxRecDepth 4000 in
theorem index_ok {w : World} (ao : Option Addr) (cap : Nat) (l : List Nat) (hx : RdN w ao l) (hl : l.length ≤ 100000) :
    Calls Tryd.prog 60 #[.slice ao l.length cap, num 1] w fun e w' => IndexPost w l e w' := by
  go_enter Tryd.func60, Tryd.ntmps60
  go_wp2
  go_loop [8] (fun v => ∃ k : Nat, k ≤ l.length ∧ v = num k ∧ ∀ j, j < k → nth l j ≠ 1) (fun v => l.length - (intOf v).toNat)
  case atStart => exact ⟨0, Nat.zero_le _, rfl, fun j hj => by omega⟩
  case round =>
    obtain ⟨k, hk, rfl, hno⟩ := hrel
    have HN : Hid _ := hno
    clear hno
    by_cases hlt : k < l.length
    · have b1 : (k : Int) < (l.length : Int) := by omega
      obtain ⟨g, off, rfl, hc⟩ := hx.resolve_left (fun e => by rw [e] at hlt; simp at hlt)
      have ck := hc k hlt
      by_cases h1 : nth l k = 1
      · have h1' : ((1 : Int) == (nth l k : Int)) = true := by rw [h1]; rfl
        have HM : Hid (1 ∈ l) := by
          rw [Hid, ← h1, nth_of hlt]; exact List.getElem_mem hlt
        clear hc h1
        go_wp2
        go_ret
        exact ⟨_, rfl, ⟨fun _ => HM.out, fun _ => by omega⟩, rfl⟩
      · have h1' : ((1 : Int) == (nth l k : Int)) = false := by simp; omega
        have HN2 : Hid (∀ j, j < k + 1 → nth l j ≠ 1) := fun j hj => by
          by_cases e : j = k
          · subst e; exact h1
          · exact HN.out j (by omega)
        clear hc h1
        go_wp2
        go_round
        case rel => exact ⟨k + 1, by omega, by go_num, HN2.out⟩
        case measure => simp [intOf]; omega
    · obtain rfl : k = l.length := by omega
      have b1 : ¬ ((l.length : Int) < (l.length : Int)) := by omega
      have HM : Hid (¬ 1 ∈ l) := fun hm => by
        obtain ⟨j, hj, e⟩ := List.mem_iff_getElem.1 hm
        exact HN.out j hj (by rw [nth_of hj]; exact e)
      go_wp2
      go_ret
      exact ⟨_, rfl, ⟨fun h => by omega, fun h => absurd h HM.out⟩, rfl⟩
def ContPost (w : World) (l : List Nat) (e : Ending) (w' : World) : Prop := ∃ c : Bool, e = .returned (.bool c) ∧ (c = true ↔ 1 ∈ l) ∧ w' = w
set_option maxHeartbeats 400000 in
theorem contains_ok {w : World} (ao : Option Addr) (cap : Nat) (l : List Nat) (hx : RdN w ao l) (hl : l.length ≤ 100000) :
    Calls Tryd.prog 38 #[.slice ao l.length cap, num 1] w fun e w' => ContPost w l e w' := by
  go_enter Tryd.func38, Tryd.ntmps38
  go_wp2_with fail
  refine (index_ok ao cap l hx hl).mono ?_
  rintro e w1 ⟨i, rfl, hi, rfl⟩
  have HI : Hid _ := hi
  clear hi
  go_wp2_with fail
  go_ret
  exact ⟨_, rfl, by simpa using HI.out, rfl⟩
end Gf
end Go.Proofs.YtiojdoehlooibaaDoor
