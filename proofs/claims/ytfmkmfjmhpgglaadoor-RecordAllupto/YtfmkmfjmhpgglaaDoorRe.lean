/- Layer 8 (record): the numbers in bytes, read again. -/
import Derived.Test.YtfmkmfjmhpgglaaDoorRd
namespace Go.Proofs.YtfmkmfjmhpgglaaDoor
open Go.RowKit
namespace Rc
open Cr
theorem follows_mixed : Tryd.prog.follows .mixedOrders = true := by kernel_rfl
theorem shl_u64 {x k : Nat} (hx : x ≤ 255) (h : k < 8) : (x : Int) * 2 ^ (8 * k) % 18446744073709551616 = ((x <<< (8 * k) : Nat) : Int) := by
  have h3 : (2 : Nat) ^ (8 * k) ≤ 2 ^ 56 := Nat.pow_le_pow_right (by decide) (by omega)
  have h5 : x <<< (8 * k) ≤ 255 * 2 ^ 56 := by rw [Nat.shiftLeft_eq]; exact Nat.mul_le_mul hx h3
  have e : (x : Int) * 2 ^ (8 * k) = ((x <<< (8 * k) : Nat) : Int) := by rw [Nat.shiftLeft_eq]; simp
  rw [e]
  generalize x <<< (8 * k) = z at h5 ⊢
  omega
theorem or_step8 {l : List Nat} (hl : ∀ x ∈ l, x ≤ 255) {k : Nat} (h : k < 8) (hk : k < l.length) :
    bits .or .u64 (nm (l.take k) : Int) ((nth l k <<< (8 * k) : Nat) : Int) = ((nm (l.take (k + 1)) : Nat) : Int) := by
  have h1 := nm_take_lt hl (show k ≤ l.length by omega)
  have h2 : nth l k ≤ 255 := by rw [nth_of (by omega)]; exact hl _ (List.getElem_mem _)
  have h3 : (2 : Nat) ^ (8 * k) ≤ 2 ^ 56 := Nat.pow_le_pow_right (by decide) (by omega)
  have h5 : nth l k <<< (8 * k) ≤ 255 * 2 ^ 56 := by rw [Nat.shiftLeft_eq]; exact Nat.mul_le_mul h2 h3
  rw [u64_or_nat _ _ (by omega) (by omega), or_xor _ h1, nm_snoc (by omega)]
/-- The number as far as k bytes are read, the j-th. -/
def p8 (b : List Nat) (k j : Nat) : Nat := nm ((b.drop (1 + 8 * j)).take (min 8 (k - 8 * j)))
theorem p8_all (b : List Nat) (j : Nat) (h : j < 4) : p8 b 32 j = n8 b j := by
  unfold p8 n8; rw [show min 8 (32 - 8 * j) = 8 by omega]
theorem p8_none (b : List Nat) (j : Nat) : p8 b 0 j = 0 := by
  unfold p8; rw [show min 8 (0 - 8 * j) = 0 by omega]; simp [nm]
theorem p8_else (b : List Nat) {k j : Nat} (h : k / 8 ≠ j) : p8 b (k + 1) j = p8 b k j := by
  unfold p8; rw [show min 8 (k + 1 - 8 * j) = min 8 (k - 8 * j) by omega]
theorem nth_drop (b : List Nat) (n i : Nat) : nth (b.drop n) i = nth b (n + i) := by
  simp [nth, List.getD_eq_getElem?_getD, List.getElem?_drop]
theorem p8_step {b : List Nat} (hb : ∀ x ∈ b, x ≤ 255) (hl : b.length = 33) {k j : Nat} (hk : k < 32) (h : k / 8 = j) :
    bits .or .u64 (p8 b k j : Int) ((nth b (1 + k) <<< (8 * (k % 8)) : Nat) : Int) = ((p8 b (k + 1) j : Nat) : Int) := by
  have e1 : p8 b k j = nm ((b.drop (1 + 8 * j)).take (k % 8)) := by unfold p8; rw [show min 8 (k - 8 * j) = k % 8 by omega]
  have e2 : p8 b (k + 1) j = nm ((b.drop (1 + 8 * j)).take (k % 8 + 1)) := by unfold p8; rw [show min 8 (k + 1 - 8 * j) = k % 8 + 1 by omega]
  rw [e1, e2, ← or_step8 (fun x hx => hb x (List.mem_of_mem_drop hx)) (show k % 8 < 8 by omega) (by simp; omega), nth_drop, show 1 + 8 * j + k % 8 = 1 + k by omega]
abbrev arrL (b : List Nat) (k : Nat) : Obj := .cells #[q64 (p8 b k 0), q64 (p8 b k 1), q64 (p8 b k 2), q64 (p8 b k 3)] 44
structure NumI (w : World) (b : List Nat) (k : Nat) (W : World) : Prop where
  gr : w.grownBy W none
  box : W.heap[w.heap.size]? = some (recL noR)
  arr : W.heap[w.heap.size + 1]? = some (arrL b k)
theorem NumI.next0 {w W : World} {b : List Nat} {k : Nat} (h : NumI w b k W) (hJ : k / 8 = 0) : NumI w b (k + 1) (W.drew.setCell ⟨w.heap.size + 1, 0, none⟩ (q64 (p8 b (k + 1) 0))) := by
  refine ⟨grownBy_set (grownBy_drew h.gr) (by omega) _, ?_, ?_⟩
  · rw [setCell_else (by omega)]; exact h.box
  · have h2 : W.drew.heap[w.heap.size + 1]? = some (.cells [q64 (p8 b k 0), q64 (p8 b k 1), q64 (p8 b k 2), q64 (p8 b k 3)].toArray 44) := h.arr
    have h3 := setCell_row (i := 0) h2 (q64 (p8 b (k + 1) 0))
    rw [h3, arrL, p8_else b (k := k) (j := 1) (by omega), p8_else b (k := k) (j := 2) (by omega), p8_else b (k := k) (j := 3) (by omega)]
    rfl
theorem NumI.next1 {w W : World} {b : List Nat} {k : Nat} (h : NumI w b k W) (hJ : k / 8 = 1) : NumI w b (k + 1) (W.drew.setCell ⟨w.heap.size + 1, 1, none⟩ (q64 (p8 b (k + 1) 1))) := by
  refine ⟨grownBy_set (grownBy_drew h.gr) (by omega) _, ?_, ?_⟩
  · rw [setCell_else (by omega)]; exact h.box
  · have h2 : W.drew.heap[w.heap.size + 1]? = some (.cells [q64 (p8 b k 0), q64 (p8 b k 1), q64 (p8 b k 2), q64 (p8 b k 3)].toArray 44) := h.arr
    have h3 := setCell_row (i := 1) h2 (q64 (p8 b (k + 1) 1))
    rw [h3, arrL, p8_else b (k := k) (j := 0) (by omega), p8_else b (k := k) (j := 2) (by omega), p8_else b (k := k) (j := 3) (by omega)]
    rfl
theorem NumI.next2 {w W : World} {b : List Nat} {k : Nat} (h : NumI w b k W) (hJ : k / 8 = 2) : NumI w b (k + 1) (W.drew.setCell ⟨w.heap.size + 1, 2, none⟩ (q64 (p8 b (k + 1) 2))) := by
  refine ⟨grownBy_set (grownBy_drew h.gr) (by omega) _, ?_, ?_⟩
  · rw [setCell_else (by omega)]; exact h.box
  · have h2 : W.drew.heap[w.heap.size + 1]? = some (.cells [q64 (p8 b k 0), q64 (p8 b k 1), q64 (p8 b k 2), q64 (p8 b k 3)].toArray 44) := h.arr
    have h3 := setCell_row (i := 2) h2 (q64 (p8 b (k + 1) 2))
    rw [h3, arrL, p8_else b (k := k) (j := 0) (by omega), p8_else b (k := k) (j := 1) (by omega), p8_else b (k := k) (j := 3) (by omega)]
    rfl
theorem NumI.next3 {w W : World} {b : List Nat} {k : Nat} (h : NumI w b k W) (hJ : k / 8 = 3) : NumI w b (k + 1) (W.drew.setCell ⟨w.heap.size + 1, 3, none⟩ (q64 (p8 b (k + 1) 3))) := by
  refine ⟨grownBy_set (grownBy_drew h.gr) (by omega) _, ?_, ?_⟩
  · rw [setCell_else (by omega)]; exact h.box
  · have h2 : W.drew.heap[w.heap.size + 1]? = some (.cells [q64 (p8 b k 0), q64 (p8 b k 1), q64 (p8 b k 2), q64 (p8 b k 3)].toArray 44) := h.arr
    have h3 := setCell_row (i := 3) h2 (q64 (p8 b (k + 1) 3))
    rw [h3, arrL, p8_else b (k := k) (j := 0) (by omega), p8_else b (k := k) (j := 1) (by omega), p8_else b (k := k) (j := 2) (by omega)]
    rfl
theorem info24 : (Tryd.prog.info? 24).map (·.size) = some 5 := by kernel_rfl
theorem grown_row {w W : World} (h : w.grownBy W none) {g : Nat} (hg : w.heap.size ≤ g) (cs : Array Value) : w.grownBy (W.setRow g cs) none :=
  ⟨h.os, h.tape, h.output, by have := h.size; simp [World.setRow]; omega, fun x hx _ => by
    rw [setRow_other _ _ _ _ (by omega)]; exact h.block x hx (by simp)⟩
theorem wpList_store_rec {w : World} {ops : Array Oper} {rest : List Oper} {o : Oper} {a : Act} {Q : Exit → Act → World → Prop} (hgd : o.guard = none) (x y : Operand) (ho : o.op = .store 24 x y)
    (g : Nat) (r0 r : Rec) (hx : a.eval x = .pointer (some ⟨g, 0, none⟩)) (hy : a.eval y = recV r) (hg : w.heap[g]? = some (recL r0))
    (h : ∀ w', w'.heap[g]? = some (recL r) → (∀ w0 : World, w0.grownBy w none → w0.heap.size ≤ g → w0.grownBy w' none) → (∀ k, k ≠ g → w'.heap[k]? = w.heap[k]?) → wpList Tryd.prog ops Q rest (a.put o.dst undef) w') : wpList Tryd.prog ops Q (o :: rest) a w :=
  wpList_store_row hgd _ x y ho g _ hx hy 24 _ hg info24 rfl (by simp [Value.oneCell']) (h _ (setRow_heap _ _ _ _ _ _ hg) (fun _ h1 h2 => grown_row h1 h2 _) fun k hk => setRow_other _ _ _ _ hk)
theorem cells5 {w : World} {g : Nat} {r : Rec} (h : w.heap[g]? = some (recL r)) : w.cell? ⟨g, 0, none⟩ = some (num r.kind) ∧ w.cell? ⟨g, 1, none⟩ = some (q64 r.seq) ∧ w.cell? ⟨g, 2, none⟩ = some (q64 r.a) ∧ w.cell? ⟨g, 3, none⟩ = some (q64 r.b) ∧ w.cell? ⟨g, 4, none⟩ = some (q64 r.c) :=
  ⟨cell_at h rfl, cell_at h rfl, cell_at h rfl, cell_at h rfl, cell_at h rfl⟩
set_option maxHeartbeats 3200000 in
theorem recordOf_ok {w : World} (g off cap : Nat) (b : List Nat) (hx : RdB w (some ⟨g, off, none⟩) b) (hl : b.length = 33) (hc : 33 ≤ cap) :
    Calls Tryd.prog 21 #[.slice (some ⟨g, off, none⟩) 33 cap] w fun e w' => e = .returned (recV (recOf b)) ∧ w.grownBy w' none := by
  obtain ⟨g', o', e', hcd⟩ := hx.2.resolve_left (fun e => by rw [e] at hl; simp at hl)
  simp at e'
  obtain ⟨rfl, rfl⟩ := e'
  have HFo : Hid (Tryd.prog.follows .mixedOrders = true) := follows_mixed
  obtain ⟨V, hV⟩ : ∃ V, V = (w.alloc (recL noR)).alloc (.cells #[q64 0, q64 0, q64 0, q64 0] 44) := ⟨_, rfl⟩
  have hgV : w.grownBy V none := by rw [hV]; exact grownBy_alloc' (World.grownBy_alloc w _ none) _
  have b1 : V.heap[w.heap.size]? = some (recL noR) := by rw [hV]; exact obj_more (heap_alloc_new w _) (World.grownBy_alloc _ _ none)
  have b2 : V.heap[w.heap.size + 1]? = some (arrL b 0) := by
    have := heap_alloc_new (w.alloc (recL noR)) (.cells #[q64 0, q64 0, q64 0, q64 0] 44)
    rw [hV]; simp only [arrL, p8_none]; simpa using this
  have hI0 : NumI w b 0 V := ⟨hgV, b1, b2⟩
  have HI0 : Hid _ := hI0
  have HV : Hid _ := hV
  have c33 : (33 : Int) ≤ (cap : Int) := by omega
  clear hV hgV b1 b2 hI0
  go_enter Tryd.func21, Tryd.ntmps21
  go_wp2_with (rw [← HV.out])
  go_loopw [9] (fun i wr => ∃ k : Nat, k ≤ 32 ∧ i = num k ∧ NumI w b k wr) (fun i _ => 32 - (intOf i).toNat)
  case atStart => exact ⟨0, Nat.zero_le _, rfl, by have := HI0.out; rw [HV.out] at this; exact this⟩
  case round =>
    obtain ⟨k, hk, rfl, hI⟩ := hrel
    by_cases hk32 : k < 32
    · have q1 : (k : Int) < 32 := by omega
      have ck : wr.cell? ⟨g, off + (1 + k), none⟩ = some (q8 (nth b (1 + k))) := by
        have := hcd (1 + k) (by omega)
        rw [cell_of_block (hI.gr.block g (lt_of_cell this) (by simp))]; exact this
      rw [show off + (1 + k) = off + 1 + k by omega] at ck
      have hX : nth b (1 + k) ≤ 255 := hx.1 _
      have hst := fun j => p8_step hx.le hl (k := k) (j := j) hk32
      have hi8 : (k : Int) % 8 = ((k % 8 : Nat) : Int) := by omega
      have i8 : k % 8 < 8 := by omega
      have sh := shl_u64 hX i8
      have HX : Hid _ := hX
      have HI : Hid _ := hI
      have Hst : Hid _ := hst
      have H8 : Hid _ := hi8
      clear hI hst hi8 hX
      rcases (show k / 8 = 0 ∨ k / 8 = 1 ∨ k / 8 = 2 ∨ k / 8 = 3 by omega) with hJ | hJ | hJ | hJ
      · have hj : (k : Int) / 8 = 0 := by omega
        have hz : IntKind.i64.wrap 0 = 0 := by rw [IntKind.wrap_i64]; rfl
        have cj : wr.drew.cell? ⟨w.heap.size + 1, 0, none⟩ = some (q64 (p8 b k 0)) := cell_at (w := wr.drew) HI.out.arr rfl
        have fj : wr.drew.frozen? ⟨w.heap.size + 1, 0, none⟩ = false := free_at (w := wr.drew) HI.out.arr
        have hw := Hst.out 0 hJ
        have hr : (k : Int).tmod 8 = ((k % 8 : Nat) : Int) := (Int.ofNat_tmod k 8).symm
        have hXX := HX.out
        have HN : Hid _ := HI.out.next0 hJ
        clear hJ
        generalize nth b (1 + k) = X at *
        generalize k % 8 = i at *
        have hm : IntKind.i64.wrap (8 * (i : Int)) = 8 * (i : Int) := by rw [IntKind.wrap_i64]; omega
        have hu : IntKind.u64.wrap (X : Int) = (X : Int) := by rw [IntKind.wrap_u64]; omega
        have h0 : 0 ≤ 8 * (i : Int) := by omega
        have h1 : 8 * (i : Int) ≤ 64 := by omega
        have ht : (8 * (i : Int)).toNat = 8 * i := by omega
        have hs : IntKind.u64.wrap ((X : Int) * 2 ^ (8 * i)) = ((X <<< (8 * i) : Nat) : Int) := by rw [IntKind.wrap_u64]; exact sh
        generalize X <<< (8 * i) = Z at *
        clear hXX i8 sh
        go_wp2_with fail
        go_still_tail 12, HFo.out
        change wpList _ _ _ _ _ (wr.drew)
        clear hj hz hw hr hm hu h0 h1 ht hs
        go_wp2
        go_roundw
        case rel => exact ⟨k + 1, by omega, by go_num, HN.out⟩
        case measure => simp [intOf]; omega
      · have hj : (k : Int) / 8 = 1 := by omega
        have hz : IntKind.i64.wrap 1 = 1 := by rw [IntKind.wrap_i64]; rfl
        have cj : wr.drew.cell? ⟨w.heap.size + 1, 1, none⟩ = some (q64 (p8 b k 1)) := cell_at (w := wr.drew) HI.out.arr rfl
        have fj : wr.drew.frozen? ⟨w.heap.size + 1, 1, none⟩ = false := free_at (w := wr.drew) HI.out.arr
        have hw := Hst.out 1 hJ
        have hr : (k : Int).tmod 8 = ((k % 8 : Nat) : Int) := (Int.ofNat_tmod k 8).symm
        have hXX := HX.out
        have HN : Hid _ := HI.out.next1 hJ
        clear hJ
        generalize nth b (1 + k) = X at *
        generalize k % 8 = i at *
        have hm : IntKind.i64.wrap (8 * (i : Int)) = 8 * (i : Int) := by rw [IntKind.wrap_i64]; omega
        have hu : IntKind.u64.wrap (X : Int) = (X : Int) := by rw [IntKind.wrap_u64]; omega
        have h0 : 0 ≤ 8 * (i : Int) := by omega
        have h1 : 8 * (i : Int) ≤ 64 := by omega
        have ht : (8 * (i : Int)).toNat = 8 * i := by omega
        have hs : IntKind.u64.wrap ((X : Int) * 2 ^ (8 * i)) = ((X <<< (8 * i) : Nat) : Int) := by rw [IntKind.wrap_u64]; exact sh
        generalize X <<< (8 * i) = Z at *
        clear hXX i8 sh
        go_wp2_with fail
        go_still_tail 12, HFo.out
        change wpList _ _ _ _ _ (wr.drew)
        clear hj hz hw hr hm hu h0 h1 ht hs
        go_wp2
        go_roundw
        case rel => exact ⟨k + 1, by omega, by go_num, HN.out⟩
        case measure => simp [intOf]; omega
      · have hj : (k : Int) / 8 = 2 := by omega
        have hz : IntKind.i64.wrap 2 = 2 := by rw [IntKind.wrap_i64]; rfl
        have cj : wr.drew.cell? ⟨w.heap.size + 1, 2, none⟩ = some (q64 (p8 b k 2)) := cell_at (w := wr.drew) HI.out.arr rfl
        have fj : wr.drew.frozen? ⟨w.heap.size + 1, 2, none⟩ = false := free_at (w := wr.drew) HI.out.arr
        have hw := Hst.out 2 hJ
        have hr : (k : Int).tmod 8 = ((k % 8 : Nat) : Int) := (Int.ofNat_tmod k 8).symm
        have hXX := HX.out
        have HN : Hid _ := HI.out.next2 hJ
        clear hJ
        generalize nth b (1 + k) = X at *
        generalize k % 8 = i at *
        have hm : IntKind.i64.wrap (8 * (i : Int)) = 8 * (i : Int) := by rw [IntKind.wrap_i64]; omega
        have hu : IntKind.u64.wrap (X : Int) = (X : Int) := by rw [IntKind.wrap_u64]; omega
        have h0 : 0 ≤ 8 * (i : Int) := by omega
        have h1 : 8 * (i : Int) ≤ 64 := by omega
        have ht : (8 * (i : Int)).toNat = 8 * i := by omega
        have hs : IntKind.u64.wrap ((X : Int) * 2 ^ (8 * i)) = ((X <<< (8 * i) : Nat) : Int) := by rw [IntKind.wrap_u64]; exact sh
        generalize X <<< (8 * i) = Z at *
        clear hXX i8 sh
        go_wp2_with fail
        go_still_tail 12, HFo.out
        change wpList _ _ _ _ _ (wr.drew)
        clear hj hz hw hr hm hu h0 h1 ht hs
        go_wp2
        go_roundw
        case rel => exact ⟨k + 1, by omega, by go_num, HN.out⟩
        case measure => simp [intOf]; omega
      · have hj : (k : Int) / 8 = 3 := by omega
        have hz : IntKind.i64.wrap 3 = 3 := by rw [IntKind.wrap_i64]; rfl
        have cj : wr.drew.cell? ⟨w.heap.size + 1, 3, none⟩ = some (q64 (p8 b k 3)) := cell_at (w := wr.drew) HI.out.arr rfl
        have fj : wr.drew.frozen? ⟨w.heap.size + 1, 3, none⟩ = false := free_at (w := wr.drew) HI.out.arr
        have hw := Hst.out 3 hJ
        have hr : (k : Int).tmod 8 = ((k % 8 : Nat) : Int) := (Int.ofNat_tmod k 8).symm
        have hXX := HX.out
        have HN : Hid _ := HI.out.next3 hJ
        clear hJ
        generalize nth b (1 + k) = X at *
        generalize k % 8 = i at *
        have hm : IntKind.i64.wrap (8 * (i : Int)) = 8 * (i : Int) := by rw [IntKind.wrap_i64]; omega
        have hu : IntKind.u64.wrap (X : Int) = (X : Int) := by rw [IntKind.wrap_u64]; omega
        have h0 : 0 ≤ 8 * (i : Int) := by omega
        have h1 : 8 * (i : Int) ≤ 64 := by omega
        have ht : (8 * (i : Int)).toNat = 8 * i := by omega
        have hs : IntKind.u64.wrap ((X : Int) * 2 ^ (8 * i)) = ((X <<< (8 * i) : Nat) : Int) := by rw [IntKind.wrap_u64]; exact sh
        generalize X <<< (8 * i) = Z at *
        clear hXX i8 sh
        go_wp2_with fail
        go_still_tail 12, HFo.out
        change wpList _ _ _ _ _ (wr.drew)
        clear hj hz hw hr hm hu h0 h1 ht hs
        go_wp2
        go_roundw
        case rel => exact ⟨k + 1, by omega, by go_num, HN.out⟩
        case measure => simp [intOf]; omega
    · obtain rfl : k = 32 := by omega
      have c0 : wr.drew.cell? ⟨g, off, none⟩ = some (q8 (nth b 0)) := by
        have := hcd 0 (by omega)
        rw [Nat.add_zero] at this
        exact (cell_of_block (w := w) (w' := wr.drew) (hI.gr.block g (lt_of_cell this) (by simp))).trans this
      have hX : nth b 0 ≤ 255 := hx.1 _
      have d0 : wr.drew.cell? ⟨w.heap.size + 1, 0, none⟩ = some (q64 (n8 b 0)) := by rw [← p8_all b 0 (by omega)]; exact cell_at (w := wr.drew) hI.arr rfl
      have d1 : wr.drew.cell? ⟨w.heap.size + 1, 1, none⟩ = some (q64 (n8 b 1)) := by rw [← p8_all b 1 (by omega)]; exact cell_at (w := wr.drew) hI.arr rfl
      have d2 : wr.drew.cell? ⟨w.heap.size + 1, 2, none⟩ = some (q64 (n8 b 2)) := by rw [← p8_all b 2 (by omega)]; exact cell_at (w := wr.drew) hI.arr rfl
      have d3 : wr.drew.cell? ⟨w.heap.size + 1, 3, none⟩ = some (q64 (n8 b 3)) := by rw [← p8_all b 3 (by omega)]; exact cell_at (w := wr.drew) hI.arr rfl
      have hbx : wr.drew.heap[w.heap.size]? = some (recL noR) := hI.box
      have HG : Hid _ := hI.gr
      have HB : Hid _ := hbx
      have hu : IntKind.i64.wrap ((nth b 0 : Nat) : Int) = ((nth b 0 : Nat) : Int) := by rw [IntKind.wrap_i64]; omega
      have HVal : Hid (recV (recOf b) = recV ⟨(nth b 0 : Nat), n8 b 0, n8 b 1, n8 b 2, n8 b 3⟩) := rfl
      clear hI hX hbx
      generalize nth b 0 = X0 at *
      generalize n8 b 0 = X1 at *
      generalize n8 b 1 = X2 at *
      generalize n8 b 2 = X3 at *
      generalize n8 b 3 = X4 at *
      go_wp2_with fail
      go_still_tail 13, HFo.out
      change wpList _ _ _ _ _ (wr.drew)
      clear c0 d0 d1 d2 d3 hu
      refine wpList_store_rec rfl (.tmp 2) (.tmp 39) rfl w.heap.size noR ⟨(X0 : Nat), X1, X2, X3, X4⟩ rfl rfl HB.out fun w5 h5 hg5 _ => ?_
      have hg6 := hg5 w (grownBy_drew HG.out) (Nat.le_refl _)
      obtain ⟨x0, x1, x2, x3, x4⟩ := cells5 h5
      clear h5 hg5
      go_wp2
      exact bodyPost_ret (v := recV ⟨(X0 : Nat), X1, X2, X3, X4⟩) (by simp [results, Tryd.f21, go_sem, x0, x1, x2, x3, x4]) rfl ⟨by rw [HVal.out], hg6⟩
end Rc
end Go.Proofs.YtfmkmfjmhpgglaaDoor
