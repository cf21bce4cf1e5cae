/- Layer 7 (blocks): what Parse asks of bytes; poolFor's refusals. -/
import Derived.Test.YtoakokpeomlkjaaDoorCh
namespace Go.Proofs.YtoakokpeomlkjaaDoor
open Go.RowKit Go.Maps
namespace Bk
open Cr (RdB)
/-- Bytes are a pool's. -/
def FitsD (d : List Nat) : Prop := ∃ n m, InNew (n : Nat) (m : Nat) ∧ 2 ≤ d.length ∧ n = Cr.nth d 0 ∧ m = Cr.nth d 1 ∧ d.length = 2 + 5 * (n * m) ∧ ∀ x, x < n * m → GoodAt d x
/-- Bytes are as long as a pool's. -/
def LongD (d : List Nat) : Prop := InNew (Cr.nth d 0 : Nat) (Cr.nth d 1 : Nat) ∧ 2 ≤ d.length ∧ d.length = 2 + 5 * (Cr.nth d 0 * Cr.nth d 1)
theorem FitsD.long {d : List Nat} (h : FitsD d) : LongD d := by
  obtain ⟨n, m, h1, h2, rfl, rfl, h3, _⟩ := h
  exact ⟨h1, h2, h3⟩
theorem PoolM.congr {w : World} {P : Lay} {f g : Pool} (h : PoolM w P f) (e : ∀ i k, i < P.n → k < P.m → g i k = f i k) : PoolM w P g :=
  { h with
    st := fun i k hi hk => by rw [e i k hi hk]; exact h.st i k hi hk
    er := fun i k hi hk => by rw [e i k hi hk]; exact h.er i k hi hk
    s1 := fun i k hi hk => by rw [e i k hi hk]; exact h.s1 i k hi hk
    s4 := fun i k hi hk => by rw [e i k hi hk]; exact h.s4 i k hi hk
    e1 := fun i k hi hk => by rw [e i k hi hk]; exact h.e1 i k hi hk }
set_option maxHeartbeats 1600000 in
theorem poolFor_no {w : World} (g off cap : Nat) (d : List Nat) (hR : RdB w (some ⟨g, off, none⟩) d) (hl : d.length ≤ 140737488355328) (hno : ¬ LongD d) :
    Calls Tryd.prog 38 #[.slice (some ⟨g, off, none⟩) d.length cap] w fun e w' => e = .returned (.pointer none) ∧ w.grownBy w' none := by
  by_cases h2 : d.length < 2
  · have q1 : (d.length : Int) < 2 := by omega
    clear hR hno
    go_enter Tryd.func38, Tryd.ntmps38
    go_wp2
    go_ret
    exact ⟨rfl, World.grownBy.refl _ _⟩
  · have q1 : ¬ (d.length : Int) < 2 := by omega
    obtain ⟨g', o', e', hc⟩ := hR.2.resolve_left (fun e => by rw [e] at h2; simp at h2)
    cases e'
    have b0 := hc 0 (by omega)
    have b1 := hc 1 (by omega)
    rw [Nat.add_zero] at b0
    have u0 := hR.1 0
    have u1 := hR.1 1
    have hno' : ∀ n m : Nat, n = Cr.nth d 0 → m = Cr.nth d 1 → InNew (n : Int) (m : Int) → d.length ≠ 2 + 5 * (n * m) := fun n m h3 h4 h5 h6 => hno ⟨by rw [← h3, ← h4]; exact h5, by omega, by rw [← h3, ← h4]; exact h6⟩
    have HNo := hide hno'
    clear hno' hno hR hc
    unfold Hid at HNo
    have HNo : Hid (∀ n m : Nat, n = Cr.nth d 0 → m = Cr.nth d 1 → InNew (n : Int) (m : Int) → d.length ≠ 2 + 5 * (n * m)) := HNo
    generalize hN : Cr.nth d 0 = N at b0 u0
    generalize hM : Cr.nth d 1 = M at b1 u1
    have HN := hide hN
    have HM := hide hM
    clear hN hM
    obtain ⟨q, hq⟩ : ∃ q : Nat, q = N * M := ⟨_, rfl⟩
    have hq5 : q ≤ 65025 := by rw [hq]; exact Nat.mul_le_mul u0 u1
    have e1 : (N : Int) * (M : Int) = (q : Int) := by rw [hq]; simp
    have i5 : (q : Int) ≤ 65025 := by omega
    have i6 : (0 : Int) ≤ (q : Int) := by omega
    have i7 : (N : Int) ≤ 255 := by omega
    have i8 : (M : Int) ≤ 255 := by omega
    have e4 : (2 : Int) ≤ (d.length : Int) := by omega
    have e5 : (1 : Int) < (d.length : Int) := by omega
    have HQ := hide hq
    clear hq u0 u1 hq5
    by_cases hlen : d.length = 2 + q * 5
    · have e3 : ((d.length : Int) != 2 + (q : Int) * 5) = false := by simp; omega
      have hin : ¬ InNew (N : Int) (M : Int) := fun h => HNo.out N M HN.out.symm HM.out.symm h (by rw [hlen, HQ.out]; omega)
      have HNw := hide (fun n => New_no (N : Int) (M : Int) hin (w.drewN n))
      clear hin hlen HNo HN HM HQ
      go_enter Tryd.func38, Tryd.ntmps38
      go_wp2_with fail
      go_quiet (fail)
      revert nq
      intro n1
      go_wp2_with fail
      refine (HNw.out n1).mono ?_
      rintro e w2 ⟨rfl, rfl⟩
      go_wp2
      go_ret
      exact ⟨rfl, Cr.grownBy_drewN (World.grownBy.refl _ _) _⟩
    · have e3 : ((d.length : Int) != 2 + (q : Int) * 5) = true := by simp; omega
      clear hlen HNo HN HM HQ
      go_enter Tryd.func38, Tryd.ntmps38
      go_wp2_with fail
      go_quiet (fail)
      revert nq
      intro n1
      go_wp2
      go_ret
      exact ⟨rfl, Cr.grownBy_drewN (World.grownBy.refl _ _) _⟩
end Bk
end Go.Proofs.YtoakokpeomlkjaaDoor
