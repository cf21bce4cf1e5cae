/- Layer 10 (lru): a link is taken out of its ring, or hung into it. -/
import Derived.Test.YtlgomaohfhgkpaaLb
import Derived.StillTailTactics
namespace Go.Proofs.Ytlgomaohfhgkpaa
open Go.RowKit Go.Maps
namespace Lr
theorem follows_mixed : Try.prog.follows .mixedOrders = true := by kernel_rfl
abbrev In (ns : List Nat) : Nat → Prop := fun b => b ∈ ns
set_option maxRecDepth 8000 in
set_option maxHeartbeats 1600000 in
theorem takeOut_ok {w : World} {ns : List Nat} {ent : Nat → Ent} {pv nx : Nat → Nat} (h : LinksM w ns ent pv nx) {l : Nat} (hl : l ∈ ns) (hp : pv l ∈ ns) (hn : nx l ∈ ns) (hpl : pv l ≠ l) :
    Calls Try.prog 36 #[ptr l] w fun e w' => (∃ v, e = .returned v) ∧ LinksM w' ns ent (up pv (nx l) (pv l)) (up nx (pv l) (nx l)) ∧ Stp (In ns) w w' := by
  have c1 := (h l hl).ahead
  have c2 := (h l hl).behind
  have c3 := (h _ hp).behind
  have f3 := (h _ hp).free 4
  obtain ⟨W1, hW1⟩ : ∃ W1, W1 = (w.setCell ⟨pv l, 4, none⟩ (ptr (nx l))).drew := ⟨_, rfl⟩
  have h1 : LinksM W1 ns ent pv (up nx (pv l) (nx l)) := by rw [hW1]; exact (h.setN hp _).drew
  have d1 := (h1 l hl).ahead
  have d2 := (h1 l hl).behind
  rw [up_other hpl.symm] at d2
  have d3 := (h1 _ hn).ahead
  have e3 := (h1 _ hn).free 3
  obtain ⟨W2, hW2⟩ : ∃ W2, W2 = (W1.setCell ⟨nx l, 3, none⟩ (ptr (pv l))).drew := ⟨_, rfl⟩
  have h2 : LinksM W2 ns ent (up pv (nx l) (pv l)) (up nx (pv l) (nx l)) := by rw [hW2]; exact (h1.setP hn _).drew
  have hs : Stp (In ns) w W2 := by
    rw [hW2]
    refine Stp.drew (Stp.set ?_ (.inl hn) _)
    rw [hW1]
    exact ((Stp.refl _ _).set (.inl hp) _).drew
  have HP : Hid (LinksM W2 ns ent (up pv (nx l) (pv l)) (up nx (pv l) (nx l)) ∧ Stp (In ns) w W2) := ⟨h2, hs⟩
  have HFo : Hid (Try.prog.follows .mixedOrders = true) := follows_mixed
  generalize pv l = p at *
  generalize nx l = n at *
  have HW1 := hide hW1
  have HW2 := hide hW2
  clear hW1 hW2 h h1 h2 hs hpl
  go_enter Try.func36, Try.ntmps36
  go_wp2_with fail
  go_still_tail 10, HFo.out
  change wpList _ _ _ _ _ (w.drew)
  go_wp2_with fail
  rw [← HW1.out]
  go_still_tail 10, HFo.out
  change wpList _ _ _ _ _ (W1.drew)
  go_wp2_with fail
  rw [← HW2.out]
  go_end0
  exact ⟨⟨_, rfl⟩, HP.out⟩
end Lr
end Go.Proofs.Ytlgomaohfhgkpaa
