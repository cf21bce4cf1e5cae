/- The m of a code's field: leastM. -/
import Derived.Test.YtiojdoehlooibaaDoorZBase
namespace Go.Proofs.YtiojdoehlooibaaDoor
open Go.RowKit
namespace Gf
/-- The least m, from 4 on, that is wide enough. -/
structure IsM (bytes t m : Nat) : Prop where
  lo : 4 ≤ m
  hi : m ≤ 13
  fits : 8 * bytes + m * t ≤ sz m
  least : ∀ k, 4 ≤ k → k < m → sz k < 8 * bytes + k * t
theorem IsM.one {bytes t m m' : Nat} (h : IsM bytes t m) (h' : IsM bytes t m') : m = m' := by
  rcases Nat.lt_trichotomy m m' with c | c | c
  · have := h'.least m h.lo c
    have := h.fits
    omega
  · exact c
  · have := h.least m' h'.lo c
    have := h'.fits
    omega
theorem IsM.em {bytes t m : Nat} (h : IsM bytes t m) : Em m := ⟨by have := h.lo; omega, h.hi⟩
/-- What stands when m is asked. -/
def MGo (bytes t m : Nat) : Prop := 4 ≤ m ∧ m ≤ 13 ∧ ∀ k, 4 ≤ k → k < m → sz k < 8 * bytes + k * t
theorem MGo.next {bytes t m : Nat} (h : MGo bytes t m) (h1 : m < 13) (h2 : sz m < 8 * bytes + m * t) : MGo bytes t (m + 1) :=
  ⟨by have := h.1; omega, by omega, fun k k1 k2 => by
    by_cases e : k = m
    · subst e; exact h2
    · exact h.2.2 k k1 (by omega)⟩
theorem MGo.stop {bytes t m : Nat} (h : MGo bytes t m) (h2 : 8 * bytes + m * t ≤ sz m) : IsM bytes t m := ⟨h.1, h.2.1, h2, h.2.2⟩
theorem szs : sz 4 = 15 ∧ sz 5 = 31 ∧ sz 6 = 63 ∧ sz 7 = 127 ∧ sz 8 = 255 ∧ sz 9 = 511 ∧ sz 10 = 1023 ∧ sz 11 = 2047 ∧ sz 12 = 4095 ∧ sz 13 = 8191 := by decide
set_option maxHeartbeats 3200000 in
theorem leastM_ok (bytes t : Nat) (h2 : bytes ≤ 512) (h4 : t ≤ 8) (w : World) :
    Calls Tryd.prog 25 #[num bytes, num t] w fun e w' => ∃ m, IsM bytes t m ∧ e = .returned (num m) ∧ w' = w := by
  go_enter Tryd.func25, Tryd.ntmps25
  go_wp2
  go_loop [5] (fun v => ∃ m : Nat, v = num m ∧ MGo bytes t m) (fun v => 14 - (intOf v).toNat)
  case atStart => exact ⟨4, rfl, by omega, by omega, fun k h1 h2 => by omega⟩
  case round =>
    obtain ⟨m, rfl, hm⟩ := hrel
    obtain ⟨z4, z5, z6, z7, z8, z9, z10, z11, z12, z13⟩ := szs
    have hc : m = 4 ∨ m = 5 ∨ m = 6 ∨ m = 7 ∨ m = 8 ∨ m = 9 ∨ m = 10 ∨ m = 11 ∨ m = 12 ∨ m = 13 := by have := hm.1; have := hm.2.1; omega
    by_cases hf : 8 * bytes + m * t ≤ sz m
    · have hS := hm.stop hf
      have HS : Hid _ := hS
      clear hm hS
      rcases hc with rfl | rfl | rfl | rfl | rfl | rfl | rfl | rfl | rfl | rfl
      all_goals
        simp only [z4, z5, z6, z7, z8, z9, z10, z11, z12, z13] at hf
        clear z4 z5 z6 z7 z8 z9 z10 z11 z12 z13
        go_wp2
        go_ret
        exact ⟨_, HS.out, rfl, rfl⟩
    · have h13 : m < 13 := by
        rcases Nat.lt_or_ge m 13 with h | h
        · exact h
        · exfalso
          have : m = 13 := by have := hm.2.1; omega
          subst this
          rw [z13] at hf; omega
      have hS := hm.next h13 (by omega)
      have HS : Hid _ := hS
      clear hm hS
      rcases hc with rfl | rfl | rfl | rfl | rfl | rfl | rfl | rfl | rfl | rfl
      all_goals try (exfalso; omega; done)
      all_goals
        simp only [z4, z5, z6, z7, z8, z9, z10, z11, z12] at hf
        clear z4 z5 z6 z7 z8 z9 z10 z11 z12 z13
        go_wp2
        go_round
        case rel => exact ⟨_, rfl, HS.out⟩
        case measure => simp [intOf]
end Gf
end Go.Proofs.YtiojdoehlooibaaDoor
