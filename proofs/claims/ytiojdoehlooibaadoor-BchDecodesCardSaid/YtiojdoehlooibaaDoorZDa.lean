/- Bytes of one's own; Clone. -/
import Derived.Test.YtiojdoehlooibaaDoorZCo
namespace Go.Proofs.YtiojdoehlooibaaDoor
open Go.RowKit
namespace Gf
/-- A row of bytes of one's own, with more behind it. -/
structure OwnB (b : Nat) (w : World) (g : Nat) (bs : List Nat) (T : List Value) : Prop where
  at_ : w.heap[g]? = some (.cells (valsB bs ++ T).toArray 5)
  free : Free w b g
  le : ∀ i, nth bs i ≤ 255
theorem OwnB.lt {b : Nat} {w : World} {g : Nat} {bs : List Nat} {T : List Value} (h : OwnB b w g bs T) : g < w.heap.size := lt_of_heap h.at_
theorem OwnB.step {b : Nat} {w w' : World} {g : Nat} {bs : List Nat} {T : List Value} (h : OwnB b w g bs T) (hs : Step b w w') : OwnB b w' g bs T :=
  ⟨by rw [hs.heap h.lt h.free.1]; exact h.at_, hs.free g h.lt h.free, h.le⟩
theorem OwnB.cell {b : Nat} {w : World} {g : Nat} {bs : List Nat} {T : List Value} (h : OwnB b w g bs T) {k : Nat} (hk : k < bs.length) : w.cell? ⟨g, k, none⟩ = some (.int .u8 (nth bs k : Nat)) := by
  rw [cell_row h.at_, List.getElem?_append_left (by rw [valsB_len]; exact hk), valsB_at hk]
theorem OwnB.frozen {b : Nat} {w : World} {g : Nat} {bs : List Nat} {T : List Value} (h : OwnB b w g bs T) (k : Nat) : w.frozen? ⟨g, k, none⟩ = false := frozen_row h.at_
theorem OwnB.rdB {b : Nat} {w : World} {g : Nat} {bs : List Nat} {T : List Value} (h : OwnB b w g bs T) : RdB w (some ⟨g, 0, none⟩) bs :=
  ⟨h.le, .inr ⟨g, 0, rfl, fun i hi => by rw [Nat.zero_add]; exact h.cell hi⟩⟩
theorem nth_set_le {bs : List Nat} (h : ∀ i, nth bs i ≤ 255) (k : Nat) {v : Nat} (hv : v ≤ 255) : ∀ i, nth (bs.set k v) i ≤ 255 := fun i => by
  unfold nth
  rw [List.getD_eq_getElem?_getD, List.getElem?_set]
  split
  · split
    · exact hv
    · exact Nat.zero_le _
  · rw [← List.getD_eq_getElem?_getD]; exact h i
theorem OwnB.store {b : Nat} {w : World} {g : Nat} {bs : List Nat} {T : List Value} (h : OwnB b w g bs T) {k v : Nat} (hk : k < bs.length) (hv : v ≤ 255) : OwnB b (w.setCell ⟨g, k, none⟩ (.int .u8 (v : Nat))) g (bs.set k v) T :=
  ⟨by
    have := setCell_row (i := k) h.at_ (.int .u8 (v : Nat))
    rw [List.set_append_left _ _ (by rw [valsB_len]; exact hk), valsB_set] at this
    exact this, h.free.of_block (setCell_else h.free.1.symm _), nth_set_le h.le k hv⟩
theorem OwnB.other {b : Nat} {w : World} {g g' : Nat} {bs : List Nat} {T : List Value} (h : OwnB b w g bs T) (hne : g ≠ g') (hb : g' ≠ b) (i : Nat) (v : Value) : OwnB b (w.setCell ⟨g', i, none⟩ v) g bs T :=
  ⟨by rw [setCell_else hne]; exact h.at_, h.free.of_block (setCell_else hb.symm v), h.le⟩
theorem OwnB.drew {b : Nat} {w : World} {g : Nat} {bs : List Nat} {T : List Value} (h : OwnB b w g bs T) : OwnB b w.drew g bs T := ⟨h.at_, h.free, h.le⟩
theorem valsB_one (l : List Nat) : ∀ u ∈ valsB l, u.oneCell' = true := fun u hu => by
  simp [valsB] at hu
  obtain ⟨x, _, rfl⟩ := hu
  rfl
theorem eql_nil (a : Addr) (n c : Nat) (w : World) : (binOp .eql 35 (.slice (some a) n c) (.slice none 0 0)).run Tryd.prog w = .ok (.bool false) w := by kernel_rfl
/-- What Clone answers. -/
def ClonePost (w : World) (bs : List Nat) (e : Ending) (w' : World) : Prop := ∃ g T, e = .returned (.slice (some ⟨g, 0, none⟩) bs.length (bs.length + List.length T)) ∧ w.heap.size ≤ g ∧ w.grownBy w' none ∧ w'.heap[g]? = some (.cells (valsB bs ++ T).toArray 5)
set_option maxHeartbeats 800000 in
set_option maxRecDepth 4000 in
theorem clone_ok {w : World} (ao : Option Addr) (cap : Nat) (bs : List Nat) (hx : RdB w ao bs) (h1 : 1 ≤ bs.length) (hl : bs.length ≤ 100000) :
    Calls Tryd.prog 35 #[.slice ao bs.length cap] w fun e w' => ClonePost w bs e w' := by
  obtain ⟨i0, hi, hz0, hz1, hz2⟩ := info_parts Tryd.info5
  obtain ⟨gd, od, rfl, hc⟩ := hx.2.resolve_left (fun e => by rw [e] at h1; simp at h1)
  have hgd := lt_of_cell (hc 0 (by omega))
  have hg1 : w.grownBy (w.alloc (.cells #[] 5)) none := World.grownBy_alloc _ _ none
  have hown : (w.alloc (.cells #[] 5)).ownsRow w.heap.size 5 1 (.slice (some ⟨w.heap.size, 0, none⟩) 0 0) 0 [] := ⟨rfl, .inr ⟨w.heap.size, 0, #[], rfl, Nat.le_refl _, heap_alloc_new w _, Nat.le_refl _, by unfold maxLen; omega, rfl, rfl⟩⟩
  have HC : Hid (∀ j u, (valsB bs)[j]? = some u → (w.alloc (.cells #[] 5)).cell? ((⟨gd, od, none⟩ : Addr).add j) = some u) := by
    intro j u hj
    have hjl : j < bs.length := by
      have := (List.getElem?_eq_some_iff.1 hj).1
      rwa [valsB_len] at this
    rw [valsB_at hjl] at hj
    rw [addr_add', World.cell?_of_block (w := w) (a := ⟨gd, od + j, none⟩) (hg1.block gd hgd (by simp)), hc j hjl, hj]
  clear hc
  have hnil := eql_nil
  go_enter Tryd.func35, Tryd.ntmps35
  go_wp2_with (first | (at_builtin; refine wpList_append_own _ rfl _ _ 35 rfl w.heap.size 5 i0 (.int .u8 0) 1 1 Tryd.underlying35 hi hz0 hz1 hz2 rfl (by decide) _ _ _ rfl hown ⟨gd, od, none⟩ bs.length cap (valsB bs) rfl (by rw [valsB_len]; omega) ?c1 ?c2 ?c3 ?c4 ?c5 ?_))
  case c1 => exact HC.out
  case c2 => exact valsB_one bs
  case c3 => unfold maxLen; omega
  case c4 => omega
  case c5 => simp
  intro v1 w2 hown2 hgrow _
  rcases hown2.2 with ⟨rfl, hn0⟩ | ⟨g, cap', cur, rfl, hg, hh, hle, hq, hcs, ht⟩
  · exfalso; omega
  have hcur : cur = (valsB bs ++ cur.toList.drop bs.length).toArray := by
    rw [Nat.mul_one] at ht
    rw [← ht, List.take_append_drop]
  have hcap : cap' = bs.length + (cur.toList.drop bs.length).length := by simp; omega
  obtain ⟨T, hT⟩ : ∃ T, T = cur.toList.drop bs.length := ⟨_, rfl⟩
  rw [← hT] at hcur hcap
  subst hcap
  rw [hcur] at hh
  have hgw : w.grownBy w2 none := by
    have h2 := hgrow.size
    simp at h2
    refine ⟨hgrow.os, hgrow.tape, hgrow.output, by omega, fun k hk _ => ?_⟩
    rw [hgrow.block k (by simp; omega) (by simp [Value.ownBlock]; omega)]
    exact Below.heap_alloc _ _ _ hk
  clear hown2 hgrow hcur hT ht hcs hq hle cur HC hown
  go_wp2_with fail
  go_ret
  exact ⟨g, T, ret_slice2 (by omega) rfl, hg, hgw, hh⟩
end Gf
end Go.Proofs.YtiojdoehlooibaaDoor
