/- Eval: a polynomial's value. -/
import Derived.Test.YtiojdoehlooibaaDoorZSl
import Derived.Deep.RegionHeld3
namespace Go.Proofs.YtiojdoehlooibaaDoor
open Go.RowKit
namespace Gf
theorem xor_le {m a b : Nat} (ha : a ≤ sz m) (hb : b ≤ sz m) : a ^^^ b ≤ sz m := by
  have := sz_succ m
  have := Nat.xor_lt_two_pow (n := m) (x := a) (y := b) (by omega) (by omega)
  omega
/-- A polynomial's value, the last coefficient first. -/
def evS (m x : Nat) : List Int → Nat
  | [] => 0
  | a :: p => mul m (evS m x p) x ^^^ el m a
theorem evS_le {m : Nat} (h : Em m) (x : Nat) : ∀ p, evS m x p ≤ sz m
  | [] => Nat.zero_le _
  | a :: _ => xor_le (mul_le h _ _) (el_le m a)
theorem evS_drop (m x : Nat) (p : List Int) {k : Nat} (h : k < p.length) : evS m x (p.drop k) = mul m (evS m x (p.drop (k + 1))) x ^^^ el m (nthI p k) := by
  rw [List.drop_eq_getElem_cons h, evS, nthI_of h]
theorem ev_keep {b m : Nat} {wr w' w1 : World} {a : Addr} {v : Value} (hb : a.block ≠ b) (ha : a.block < wr.heap.size) (h : Fld w' b m ∧ Step b wr w' ∧ w'.cell? a = some v) (h1 : Fld w1 b m) (h2 : Step b w' w1) :
    Fld w1 b m ∧ Step b wr w1 ∧ w1.cell? a = some v := by
  refine ⟨h1, h.2.1.trans h2, ?_⟩
  rw [World.cell?_of_block (w := w') (h2.grown.block a.block (Nat.lt_of_lt_of_le ha h.2.1.size) (by simpa using hb))]
  exact h.2.2
set_option maxHeartbeats 800000 in
theorem eval_ok {b m : Nat} {w : World} (h : Fld w b m) (ao : Option Addr) (cap : Nat) (xs : List Int) (x : Int) (hx : Rd b w ao xs) (hm : xs.length ≤ 35184372088832) :
    Calls Tryd.prog 47 #[ptr b, .slice ao xs.length cap, num x] w fun e w' => e = .returned (num (evS m (el m x) xs)) ∧ Fld w' b m ∧ Step b w w' := by
  have hem := h.em
  have hs := sz_bd hem
  go_enter Tryd.func47, Tryd.ntmps47
  go_wp2_with fail
  go_loopw [7, 8] (fun s i wr => ∃ k : Nat, k ≤ xs.length ∧ i = num ((k : Int) - 1) ∧ s = num (evS m (el m x) (xs.drop k)) ∧ Fld wr b m ∧ Step b w wr) (fun _ i _ => (intOf i + 1).toNat)
  case atStart => exact ⟨xs.length, Nat.le_refl _, rfl, by rw [List.drop_length]; rfl, h, Step.refl _ _⟩
  case round =>
    obtain ⟨k, hk, rfl, rfl, hF, hS⟩ := hrel
    cases k with
    | zero =>
      go_wp2
      go_ret
      exact ⟨rfl, hF, hS⟩
    | succ k =>
      have hR := hx.step hS
      rcases hR with rfl | ⟨g, off, rfl, hgb, hcell⟩
      · simp at hk
      have ck : wr.cell? ⟨g, off + k, none⟩ = some (num (nthI xs k)) := hcell k (by omega)
      have hgl : g < wr.heap.size := lt_of_cell ck
      have HE : Hid _ := evS_drop m (el m x) xs (show k < xs.length by omega)
      have he1 := evS_le hem (el m x) (xs.drop (k + 1))
      have HL : Hid _ := @el_of m _ he1
      have HM : Hid _ := @el_of m _ (mul_le hem (evS m (el m x) (xs.drop (k + 1))) (el m x))
      clear hcell he1
      obtain ⟨S1, hS1⟩ : ∃ S1, S1 = evS m (el m x) (xs.drop (k + 1)) := ⟨_, rfl⟩
      rw [← hS1] at HE HL HM
      rw [← hS1]
      clear hS1
      rw [show (((k + 1 : Nat) : Int) - 1) = (k : Int) by omega]
      have k0 : (0 : Int) ≤ (k : Int) := by omega
      have k1 : (k : Int) < (xs.length : Int) := by omega
      go_wp2_with fail
      go_region_held3 (fun w' => Fld w' b m ∧ Step b wr w' ∧ w'.cell? ⟨g, off + k, none⟩ = some (num (nthI xs k))) (first | assumption | exact ⟨hF.drew, (Step.refl _ _).drew, by simpa using ck⟩ | exact ev_keep hgb hgl ‹_› ‹_› ‹_›)
        (first | (go_at_call 67; refine (mul_ok (‹Fld _ b m ∧ _›).1 _ _).mono ?_; rintro e w1 ⟨rfl, hF1, hs1⟩) | (go_at_call 66; refine (add_ok (‹Fld _ b m ∧ _›).1 _ _).mono ?_; rintro e w1 ⟨rfl, rfl⟩))
      all_goals
        have hG : Fld w1 b m ∧ Step b wr w1 ∧ _ := ‹Fld w1 b m ∧ Step b wr w1 ∧ _›
        have hS2 := hS.trans hG.2.1
        clear hG
        go_wp2
        go_roundw
        case rel => exact ⟨k, by omega, rfl, by rw [HL.out, HM.out, HE.out], hF1, hS2⟩
        case measure => simp [intOf]
end Gf
end Go.Proofs.YtiojdoehlooibaaDoor
