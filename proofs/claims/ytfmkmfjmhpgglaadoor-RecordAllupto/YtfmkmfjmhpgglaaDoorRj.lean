/- Layer 8 (record): a row of bytes taken over; the readers' closures. -/
import Derived.Test.YtfmkmfjmhpgglaaDoorRh
import Derived.Deep.QuietTactic
namespace Go.Proofs.YtfmkmfjmhpgglaaDoor
open Go.RowKit
namespace Rc
open Cr
theorem nil_no (a : Addr) (n c : Nat) (w : World) : (binOp .eql 25 (.slice (some a) n c) (.slice none 0 0)).run Tryd.prog w = .ok (.bool false) w := by kernel_rfl
theorem nil_yes (w : World) : (binOp .eql 25 (.slice none 0 0) (.slice none 0 0)).run Tryd.prog w = .ok (.bool true) w := by kernel_rfl
set_option maxHeartbeats 1600000 in
theorem Clone_ok {w : World} (ao : Option Addr) (cap : Nat) (bs : List Nat) (hx : RdB w ao bs) (hc : bs.length ≤ cap) (hcap : ao = none → cap = 0) (hl : bs.length ≤ 140737488355328) :
    Calls Tryd.prog 28 #[.slice ao bs.length cap] w fun e w' => ∃ ao' cap', e = .returned (.slice ao' bs.length cap') ∧ bs.length ≤ cap' ∧ (ao' = none → cap' = 0) ∧ RdB w' ao' bs ∧ w.grownBy w' none ∧ (∀ a, ao' = some a → w.heap.size ≤ a.block ∧ a.block < w'.heap.size) := by
  cases ao with
  | none =>
    obtain rfl : cap = 0 := hcap rfl
    have h0 : bs.length = 0 := by omega
    obtain rfl : bs = [] := List.eq_nil_of_length_eq_zero h0
    have hy := nil_yes
    go_enter Tryd.func28, Tryd.ntmps28
    go_wp2
    go_ret
    exact ⟨none, 0, rfl, fun _ => rfl, rd_nil _, grownBy_refl _ _, fun a e => by cases e⟩
  | some a =>
    obtain ⟨V, hV⟩ : ∃ V, V = w.alloc (.cells #[] 5) := ⟨_, rfl⟩
    have hgV : w.grownBy V none := by rw [hV]; exact World.grownBy_alloc w _ none
    have hbV : V.heap[w.heap.size]? = some (.cells (valsB []).toArray 5) := by rw [hV]; exact heap_alloc_new w _
    have hO : OwnF w V (.slice (some ⟨w.heap.size, 0, none⟩) 0 0) [] := OwnF.laid (bs := []) hgV (Nat.le_refl _) hbV (by simp) (fun i => by simp [nth])
    have HO := hide hO
    have HX := hide (hx.more hgV)
    have HV := hide hV
    have hle := hx.le
    have hno := nil_no a bs.length cap
    clear hV hgV hbV hO hx
    go_enter Tryd.func28, Tryd.ntmps28
    go_wp2_with (first | (rw [← HV.out]) | (at_builtin; refine wpList_append_more rfl _ _ rfl _ [] rfl HO.out.own HO.out.gr.size (some a) bs cap rfl HX.out (by simpa using hl) (fun e => by cases e) ?_; intro v1 w1 hown1 hg1; rw [List.nil_append] at hown1))
    obtain ⟨ao', cap', rfl, hrd, hcp⟩ := rd_cap hown1 hle
    have hgw := own_step HO.out.gr HO.out.own hg1
    have hbl := hown1.2
    go_ret
    refine ⟨ao', cap', rfl, hcp, fun e => ?_, hrd, hgw, fun a e => ?_⟩
    · subst e
      rcases hbl with ⟨e, _⟩ | ⟨g, c, cur, e, _⟩
      · injection e
      · injection e with e1; cases e1
    · subst e
      rcases hbl with ⟨e, _⟩ | ⟨g, c, cur, e, hb, hh, _⟩
      · injection e with e1; cases e1
      · injection e with e1; injection e1 with e2; rw [e2]; exact ⟨hb, lt_of_heap hh⟩
theorem rd_drop {w : World} {ao : Option Addr} {b : List Nat} {cap : Nat} (h : RdB w ao b) (hc : b.length ≤ cap) (hn : ao = none → cap = 0) (k : Nat) (hk : k ≤ b.length) : RdB w (if cap = k then ao else ao.map fun x => x.add k) (b.drop k) := by
  rcases h.2 with rfl | ⟨g, off, rfl, hcd⟩
  · simp; exact ⟨h.1, .inl rfl⟩
  · have hn : ∀ j, j < (b.drop k).length → nth (b.drop k) j = nth b (k + j) := fun j hj => by rw [nth_drop]
    have hle : ∀ i, nth (b.drop k) i ≤ 255 := fun i => by rw [nth_drop]; exact h.1 _
    by_cases hck : cap = k
    · rw [if_pos hck]
      have : b.drop k = [] := List.drop_of_length_le (by omega)
      rw [this]; exact ⟨fun i => by simp [nth], .inl rfl⟩
    · rw [if_neg hck]
      refine ⟨hle, .inr ⟨g, off + k, by simp [addr_add'], fun i hi => ?_⟩⟩
      rw [hn i hi, Nat.add_assoc]
      exact hcd (k + i) (by simp at hi; omega)
end Rc
end Go.Proofs.YtfmkmfjmhpgglaaDoor
