/- Layer 4 (nand): the walk of newBlocks. -/
import Derived.Test.YtojamicakkecbabNn
import Derived.Deep.MidRow
namespace Go.Proofs.Ytojamicakkecbab
open Go.RowKit Go.Maps
namespace Nd
theorem There.mid {w : World} {g n o k : Nat} (h : There w g n) (hk : o + k ≤ n) : w.there g o k := fun j hj => by
  obtain ⟨v, hv⟩ := h (o + j) (by omega)
  exact ⟨by rw [hv.1]; rfl, hv.2⟩
theorem sz104 : (Try.prog.info? 71).map (·.size) = some 7 := by kernel_rfl
theorem sz78 : (Try.prog.info? 64).map (·.size) = some 2 := by kernel_rfl
set_option maxHeartbeats 1000000 in
set_option maxRecDepth 4000 in
theorem newBlocks_ok {w : World} {lab : Lab} (hlt : ∀ x, lab x ≠ none → x < w.heap.size) (D B P Y d : Nat) (b2 : B ≤ 64) (p2 : P ≤ 64) :
    Calls Try.prog 17 #[shapeV D B P Y] w (BlksPost w lab B P Y d) := by
  have b2' : (B : Int) ≤ 64 := by omega
  have p2' : (P : Int) ≤ 64 := by omega
  obtain ⟨W, hW⟩ : ∃ W, W = w.alloc (.cells #[num D, num B, num P, num Y] 26) := ⟨_, rfl⟩
  obtain ⟨cur, hcs, hmk⟩ := make_blks W B b2
  have hgW : w.grownBy W none := by rw [hW]; exact World.grownBy_alloc w _ none
  have hbox : W.heap[w.heap.size]? = some (.cells #[num D, num B, num P, num Y] 26) := by rw [hW]; exact heap_alloc_new w _
  have k1 : W.cell? ⟨w.heap.size, 1, none⟩ = some (num B) := (At.of_row (o := 1) hbox rfl).1
  have Hw : Hid _ := hW
  have hgA := World.grownBy_alloc W (.cells cur 71) none
  have hrow : (W.alloc (.cells cur 71)).heap[W.heap.size]? = some (.cells cur 71) := heap_alloc_new W _
  have hfr : lab W.heap.size = none := by
    cases e : lab W.heap.size with
    | none => rfl
    | some r => have := hlt W.heap.size (by simp [e]); have := hgW.size; omega
  have h0 : BlksRel w (W.alloc (.cells cur 71)) lab (addLab lab W.heap.size (.bk d)) B P Y d W.heap.size 0 :=
    ⟨grownBy_trans hgW hgA, ⟨fun x r hr => by
      have : x ≠ W.heap.size := fun e => by rw [e, hfr] at hr; cases hr
      simp [addLab, this, hr], fun x hx => by
      by_cases e : x = W.heap.size
      · exact .inr (by rw [e]; exact hgW.size)
      · exact .inl (by simpa [addLab, e] using hx), fun x hx => by
      by_cases e : x = W.heap.size
      · rw [e]; exact lt_of_heap hrow
      · have h1 := hlt x (by simpa [addLab, e] using hx)
        have := hgW.size
        have := hgA.size
        omega⟩, by simp [addLab], hgW.size, There.of_row hrow (by omega), fun b hb => by omega⟩
  have hboxA : (W.alloc (.cells cur 71)).heap[w.heap.size]? = some (.cells #[num D, num B, num P, num Y] 26) := by rw [hgA.block _ (lt_of_heap hbox) (by simp)]; exact hbox
  have hne : w.heap.size ≠ W.heap.size := by have := lt_of_heap hbox; omega
  obtain ⟨V, hV⟩ : ∃ V, V = W.alloc (.cells cur 71) := ⟨_, rfl⟩
  obtain ⟨g, hg⟩ : ∃ g, g = W.heap.size := ⟨_, rfl⟩
  rw [← hV, ← hg] at h0 hmk
  rw [← hV] at hboxA
  rw [← hg] at hne
  clear hW hgW hrow hgA hfr hV hg
  go_enter Try.func17, Try.ntmps17
  go_wp2_with (rw [← Hw.out])
  go_loopw [10] (fun i wr => ∃ k lab', k ≤ B ∧ i = num k ∧ BlksRel w wr lab lab' B P Y d g k ∧ wr.heap[w.heap.size]? = some (.cells #[num D, num B, num P, num Y] 26)) (fun i _ => B - (intOf i).toNat)
  case atStart => exact ⟨0, _, Nat.zero_le _, rfl, h0, hboxA⟩
  case round =>
    clear hboxA h0 hmk Hw k1 hbox
    obtain ⟨k, lab', hk, rfl, hR, hbx⟩ := hrel
    by_cases hkB : k < B
    · have b1 : (k : Int) < (B : Int) := by omega
      have hmp := make_pages wr P p2
      have c2 : wr.cell? ⟨w.heap.size, 2, none⟩ = some (num P) := (At.of_row (o := 2) hbx rfl).1
      have hN := hR.next hkB
      have hgA := World.grownBy_alloc wr (.cells (nils P).toArray 33) none
      have hbx2 : ((wr.alloc (.cells (nils P).toArray 33)).setCells g (k * 7) (newBlkL wr.heap.size P)).heap[w.heap.size]? = some (.cells #[num D, num B, num P, num Y] 26) := by
        rw [setCells_else hne, hgA.block _ (lt_of_heap hbx) (by simp)]; exact hbx
      have hth := hR.there.of_heap (hgA.block g (hR.ext.lt g (by rw [hR.lg]; simp)) (by simp))
      have hmid := hth.mid (o := k * 7) (k := 7) (by omega)
      obtain ⟨V2, hV2⟩ : ∃ V2, V2 = wr.alloc (.cells (nils P).toArray 33) := ⟨_, rfl⟩
      rw [← hV2] at hmp hN hbx2 hmid
      obtain ⟨L, hL⟩ : ∃ L : Array Value, L = #[num 0, num 0, .bool false, num 9223372036854775807, num 9223372036854775807, .slice (some ⟨wr.heap.size, 0, none⟩) P P, .slice none 0 0] := ⟨_, rfl⟩
      have HM : Hid (V2.there g (k * 7) L.size) := by rw [hL]; exact hmid
      have HI : Hid ((Try.prog.info? 71).map (·.size) = some L.size) := by rw [hL]; exact sz104
      have HO : Hid (L.all (·.oneCell') = true) := by rw [hL]; simp [Hid, Value.oneCell']
      have HL : Hid _ := hL
      have HN : Hid _ := hN
      have HB : Hid _ := hbx2
      clear hN hbx2 hth hgA hR hV2 hbx hmid hcs hL
      go_wp2_with (first | (refine wpList_store_mid rfl 71 (.tmp 19) (.tmp 18) rfl g (k * 7) L rfl ?hy HM.out HI.out HO.out ?_))
      case hy => rw [HL.out]; rfl
      rw [HL.out]
      go_roundw
      case rel => exact ⟨k + 1, _, by omega, by go_num, HN.out, HB.out⟩
      case measure => simp [intOf]; omega
    · obtain rfl : k = B := by omega
      have b1 : ¬ (k : Int) < (k : Int) := by omega
      go_wp2
      go_ret
      exact ⟨g, lab', rfl, hR.grown, hR.ext, hR.lg, hR.ge, hR.blks⟩
end Nd
end Go.Proofs.Ytojamicakkecbab
