/- The register's functions: restsBy. -/
import Derived.Test.YtiojdoehlooibabDoorZRc
namespace Go.Proofs.YtiojdoehlooibabDoor
open Go.RowKit
namespace Gf
/-- The table's first n entries are right. -/
def Table (b : Reg) (T : List Value) (n : Nat) : Prop := T.length = 512 ∧ (∀ v ∈ T, v.oneCell' = true) ∧ ∀ q, q < n → ∃ th tl, Ent8 b q th tl ∧ T[2 * q]? = some (.int .u64 (th : Nat)) ∧ T[2 * q + 1]? = some (.int .u64 (tl : Nat))
theorem zone61 : ∀ v ∈ Tryd.zeroCells50.toList, v.oneCell' = true := List.all_eq_true.1 (by kernel_rfl)
theorem zlen61 : Tryd.zeroCells50.toList.length = 512 := by kernel_rfl
theorem Table.start (b : Reg) : Table b Tryd.zeroCells50.toList 0 := ⟨zlen61, zone61, fun q hq => by omega⟩
theorem Table.store {b : Reg} {T : List Value} {k th tl : Nat} (h : Table b T k) (hk : k < 256) (e : Ent8 b k th tl) : Table b ((T.set (2 * k) (.int .u64 (th : Nat))).set (2 * k + 1) (.int .u64 (tl : Nat))) (k + 1) := by
  refine ⟨by simp [h.1], fun v hv => ?_, fun q hq => ?_⟩
  · rcases List.mem_or_eq_of_mem_set hv with hv | rfl
    · rcases List.mem_or_eq_of_mem_set hv with hv | rfl
      · exact h.2.1 v hv
      · rfl
    · rfl
  · have hl := h.1
    by_cases eq : q = k
    · subst eq
      refine ⟨th, tl, e, ?_, ?_⟩
      · rw [List.getElem?_set_ne (by omega), List.getElem?_set_self (by omega)]
      · rw [List.getElem?_set_self (by simp; omega)]
    · obtain ⟨a, b', h1, h2, h3⟩ := h.2.2 q (by omega)
      refine ⟨a, b', h1, ?_, ?_⟩
      · rw [List.getElem?_set_ne (by omega), List.getElem?_set_ne (by omega)]; exact h2
      · rw [List.getElem?_set_ne (by omega), List.getElem?_set_ne (by omega)]; exact h3
set_option maxHeartbeats 1600000 in
set_option maxRecDepth 4000 in
theorem restsBy_ok {w : World} (ao : Option Addr) (cap : Nat) (g : List Nat) (hg : RdN w ao g) (hB : Bits g) (h2 : 2 ≤ g.length) (hl : g.length ≤ 128) (hcap : g.length ≤ cap) :
    Calls Tryd.prog 28 #[.slice ao g.length cap] w fun e w' => ∃ bh bl T, Low g (g.length - 1) bh bl ∧ e = .returned (.agg (List.toArray T)) ∧ Table (rb bh bl) T 256 ∧ w.grownBy w' none := by
  have hg2 : w.grownBy ((w.alloc (.cells Tryd.zeroCells50 50)).alloc (.cells Tryd.zeroCells50 50)) none := grownBy_trans (World.grownBy_alloc _ _ none) (World.grownBy_alloc _ _ none)
  have hr0 : ((w.alloc (.cells Tryd.zeroCells50 50)).alloc (.cells Tryd.zeroCells50 50)).heap[w.heap.size]? = some (.cells Tryd.zeroCells50.toList.toArray 50) := by
    rw [Below.heap_alloc _ _ _ (by simp)]; exact heap_alloc_new w _
  have hr1 : ((w.alloc (.cells Tryd.zeroCells50 50)).alloc (.cells Tryd.zeroCells50 50)).heap[w.heap.size + 1]? = some (.cells Tryd.zeroCells50.toList.toArray 50) := heap_alloc_at _ (by simp)
  have hlo := lower_ok ao cap g (hg.more hg2) hB h2 hl hcap
  have HLo : Hid (Calls Tryd.prog 42 #[.slice ao g.length cap] ((w.alloc (.cells Tryd.zeroCells50 50)).alloc (.cells Tryd.zeroCells50 50)) _) := hlo
  clear hlo
  go_enter Tryd.func28, Tryd.ntmps28
  go_wp2_with fail
  refine HLo.out.mono ?_
  rintro e w3 ⟨bh, bl, rfl, hLow, hg3⟩
  have hk1 : w3.heap[w.heap.size]? = some (.cells Tryd.zeroCells50.toList.toArray 50) := by rw [hg3.block _ (lt_of_heap hr0) (by simp)]; exact hr0
  have hk2 : w3.heap[w.heap.size + 1]? = some (.cells Tryd.zeroCells50.toList.toArray 50) := by rw [hg3.block _ (lt_of_heap hr1) (by simp)]; exact hr1
  have hgw3 : w.grownBy w3 none := grownBy_trans hg2 hg3
  have hs3 := lt_of_heap hk2
  clear hr0 hr1 HLo hg2 hg3 hg
  have hA1 : (w3.alloc (boxO bh bl)).heap[w.heap.size]? = some (.cells Tryd.zeroCells50.toList.toArray 50) := by rw [Below.heap_alloc _ _ _ (by omega)]; exact hk1
  have hA2 : (w3.alloc (boxO bh bl)).heap[w.heap.size + 1]? = some (.cells Tryd.zeroCells50.toList.toArray 50) := by rw [Below.heap_alloc _ _ _ (by omega)]; exact hk2
  have hA3 : (w3.alloc (boxO bh bl)).heap[w3.heap.size]? = some (boxO bh bl) := heap_alloc_new w3 _
  have hA4 : w.grownBy (w3.alloc (boxO bh bl)) none := grownBy_trans hgw3 (World.grownBy_alloc _ _ none)
  clear hk1 hk2 hgw3
  obtain ⟨Z, hZ⟩ : ∃ Z, Z = Tryd.zeroCells50.toList := ⟨_, rfl⟩
  have hT0 : Table (rb bh bl) Z 0 := by rw [hZ]; exact Table.start _
  have hZl : Z.length = 512 := hT0.1
  rw [← hZ] at hA1 hA2
  clear hZ
  go_wp2_with fail
  go_loopw [9] (fun i wr => ∃ k : Nat, k ≤ 256 ∧ i = num k ∧ w.grownBy wr none ∧ wr.heap[w.heap.size]? = some (.cells Z.toArray 50) ∧ wr.heap[w3.heap.size]? = some (boxO bh bl) ∧ ∃ T, Table (rb bh bl) T k ∧ wr.heap[w.heap.size + 1]? = some (.cells T.toArray 50)) (fun i _ => 256 - (intOf i).toNat)
  case atStart => exact ⟨0, by omega, rfl, hA4, hA1, hA3, Z, hT0, hA2⟩
  case round =>
    clear hA1 hA2 hA3 hA4
    obtain ⟨k, hk, rfl, hgr, hz, hbx, T, hT, hr⟩ := hrel
    have hTl : T.length = 512 := hT.1
    by_cases hlt : k < 256
    · have b1 : (k : Int) < 256 := by omega
      obtain ⟨Q0, hQ0⟩ : ∃ Q0, Q0 = k <<< 56 := ⟨_, rfl⟩
      have HS : Hid ((k : Int) * (72057594037927936 : Int) = ((Q0 : Nat) : Int)) := by rw [Hid, hQ0, Nat.shiftLeft_eq]; simp
      have hTm := Tm.start (rb bh bl) (q := k) (by omega)
      rw [← hQ0] at hTm
      clear hQ0
      have hs := lt_of_heap hbx
      have hs1 := lt_of_heap hr
      have hB1 : (wr.alloc (boxO Q0 0)).heap[w.heap.size]? = some (.cells Z.toArray 50) := by rw [Below.heap_alloc _ _ _ (by omega)]; exact hz
      have hB2 : (wr.alloc (boxO Q0 0)).heap[w3.heap.size]? = some (boxO bh bl) := by rw [Below.heap_alloc _ _ _ (by omega)]; exact hbx
      have hB3 : (wr.alloc (boxO Q0 0)).heap[w.heap.size + 1]? = some (.cells T.toArray 50) := by rw [Below.heap_alloc _ _ _ (by omega)]; exact hr
      have hB4 : (wr.alloc (boxO Q0 0)).heap[wr.heap.size]? = some (boxO Q0 0) := heap_alloc_new wr _
      have hB5 : w.grownBy (wr.alloc (boxO Q0 0)) none := grownBy_trans hgr (World.grownBy_alloc _ _ none)
      have hsz := hgr.size
      obtain ⟨X, hX⟩ : ∃ X, X = wr.heap.size := ⟨_, rfl⟩
      have HX : Hid (wr.heap.size = X) := hX.symm
      rw [← hX] at hs hs1 hB4 hsz
      clear hX hz hbx hr
      go_wp2_with fail
      rw [HS.out, HX.out]
      obtain ⟨W1, hW1⟩ : ∃ W1, W1 = wr.alloc (boxO Q0 0) := ⟨_, rfl⟩
      rw [← hW1] at hB1 hB2 hB3 hB4 hB5
      have HW1 : Hid (wr.alloc (.cells #[.int .u64 ((Q0 : Nat) : Int), .int .u64 0] 49) = W1) := hW1.symm
      rw [HW1.out]
      clear hgr hW1 HW1 HX HS
      go_loopw [16] (fun i ws => ∃ n : Nat, n ≤ 8 ∧ i = num n ∧ w.grownBy ws none ∧ ws.heap[w.heap.size]? = some (.cells Z.toArray 50) ∧ ws.heap[w3.heap.size]? = some (boxO bh bl) ∧ ws.heap[w.heap.size + 1]? = some (.cells T.toArray 50) ∧ ∃ h l, Tm (rb bh bl) k n h l ∧ ws.heap[X]? = some (boxO h l)) (fun i _ => 8 - (intOf i).toNat)
      case atStart => exact ⟨0, by omega, rfl, hB5, hB1, hB2, hB3, _, _, hTm, hB4⟩
      case round =>
        clear hB1 hB2 hB3 hB4 hB5 hTm
        obtain ⟨n, hn, rfl, hgr, hz, hbx, hr, h, l, hTm, hx⟩ := hrel
        by_cases hn8 : n < 8
        · have b2 : (n : Int) < 8 := by omega
          obtain ⟨c0, c1, z0, z1⟩ := box_facts hx
          obtain ⟨d0, d1, y0, y1⟩ := box_facts hbx
          have hTn := hTm.step (fun j => rfl) hLow.hi hLow.lo
          have htm := times_ok' (h := h) hTm.lo hLow.hi hLow.lo
          obtain ⟨H', hH'⟩ : ∃ H', H' = (if h >>> 63 = 0 then tH h l else tH h l ^^^ bh) := ⟨_, rfl⟩
          obtain ⟨L', hL'⟩ : ∃ L', L' = (if h >>> 63 = 0 then tL l else tL l ^^^ bl) := ⟨_, rfl⟩
          rw [← hH', ← hL'] at hTn
          rw [← hH', ← hL'] at htm
          have HTm : Hid (Calls Tryd.prog 43 #[rem h l, rem bh bl] wr _) := htm wr
          clear hH' hL' htm
          go_wp2_with fail
          refine HTm.out.mono ?_
          rintro e w5 ⟨rfl, hg5⟩
          have hgw := grownBy_trans hgr hg5
          have hz5 : w5.heap[w.heap.size]? = some (.cells Z.toArray 50) := by rw [hg5.block _ (lt_of_heap hz) (by simp)]; exact hz
          have hbx5 : w5.heap[w3.heap.size]? = some (boxO bh bl) := by rw [hg5.block _ (lt_of_heap hbx) (by simp)]; exact hbx
          have hr5 : w5.heap[w.heap.size + 1]? = some (.cells T.toArray 50) := by rw [hg5.block _ (lt_of_heap hr) (by simp)]; exact hr
          have hx5 : w5.heap[X]? = some (boxO h l) := by rw [hg5.block _ (lt_of_heap hx) (by simp)]; exact hx
          clear HTm hz hbx hr hx hg5 hgr c0 c1 z0 z1 d0 d1 y0 y1 hTm
          obtain ⟨c0, c1, z0, z1⟩ := box_facts hx5
          have hx6 := box_set hx5 H' L'
          have hg6 := grownBy_setCell (grownBy_setCell hgw (.inl hsz) (.int .u64 (H' : Nat)) (i := 0)) (.inl hsz) (.int .u64 (L' : Nat)) (i := 1)
          have hoth : ∀ {q : Nat} {o : Obj}, q ≠ X → w5.heap[q]? = some o → ((w5.setCell ⟨X, 0, none⟩ (.int .u64 (H' : Nat))).setCell ⟨X, 1, none⟩ (.int .u64 (L' : Nat))).heap[q]? = some o := fun hq e => by
            rw [setCell_else hq, setCell_else hq]; exact e
          have hz6 := hoth (by omega) hz5
          have hbx6 := hoth (by omega) hbx5
          have hr6 := hoth (by omega) hr5
          clear hoth hz5 hbx5 hr5 hx5 hgw
          go_wp2_with fail
          go_roundw
          case rel => exact ⟨n + 1, by omega, by go_num, hg6, hz6, hbx6, hr6, _, _, hTn, hx6⟩
          case measure => simp [intOf]; omega
        · obtain rfl : n = 8 := by omega
          obtain ⟨c0, c1, z0, z1⟩ := box_facts hx
          have t0 : ∃ v, wr.cell? ⟨w.heap.size + 1, k * 2, none⟩ = some v := ⟨T[k * 2]'(by omega), by rw [cell_row hr]; simp [show k * 2 < T.length by omega]⟩
          have t1 : ∃ v, wr.cell? ⟨w.heap.size + 1, k * 2 + 1, none⟩ = some v := ⟨T[k * 2 + 1]'(by omega), by rw [cell_row hr]; simp [show k * 2 + 1 < T.length by omega]⟩
          obtain ⟨v0, t0⟩ := t0
          obtain ⟨v1, t1⟩ := t1
          have f0 : wr.frozen? ⟨w.heap.size + 1, k * 2, none⟩ = false := frozen_row hr
          have f1 : wr.frozen? ⟨w.heap.size + 1, k * 2 + 1, none⟩ = false := frozen_row hr
          have hTN := hT.store hlt hTm.ent
          rw [Nat.mul_comm 2 k] at hTN
          have hr6 : ((wr.setCell ⟨w.heap.size + 1, k * 2, none⟩ (.int .u64 (h : Nat))).setCell ⟨w.heap.size + 1, k * 2 + 1, none⟩ (.int .u64 (l : Nat))).heap[w.heap.size + 1]? = some (.cells ((T.set (k * 2) (.int .u64 (h : Nat))).set (k * 2 + 1) (.int .u64 (l : Nat))).toArray 50) := setCell_row (setCell_row hr _) _
          have hg6 := grownBy_setCell (grownBy_setCell hgr (.inl (by omega : w.heap.size ≤ w.heap.size + 1)) (.int .u64 (h : Nat)) (i := k * 2)) (.inl (by omega : w.heap.size ≤ w.heap.size + 1)) (.int .u64 (l : Nat)) (i := k * 2 + 1)
          have hoth : ∀ {q : Nat} {o : Obj}, q ≠ w.heap.size + 1 → wr.heap[q]? = some o → ((wr.setCell ⟨w.heap.size + 1, k * 2, none⟩ (.int .u64 (h : Nat))).setCell ⟨w.heap.size + 1, k * 2 + 1, none⟩ (.int .u64 (l : Nat))).heap[q]? = some o := fun hq e => by
            rw [setCell_else hq, setCell_else hq]; exact e
          have hz6 := hoth (by omega) hz
          have hbx6 := hoth (by omega) hbx
          clear hoth hz hbx hr hx hgr hTm
          go_wp2_with fail
          go_roundw
          case rel => exact ⟨k + 1, by omega, by go_num, hg6, hz6, hbx6, _, hTN, hr6⟩
          case measure => simp [intOf]; omega
    · obtain rfl : k = 256 := by omega
      clear hbx
      have hsT : (Tryd.prog.info? 50).map (·.size) = some T.toArray.size := by
        rw [show T.toArray.size = 512 by simpa using hTl]; kernel_rfl
      have hun : Tryd.prog.underlying 50 = some (.array 256 49) := by kernel_rfl
      have hr9 := setRow_heap wr w.heap.size Z.toArray T.toArray 50 (0, 0) hz
      have hg9 : w.grownBy (wr.setRow w.heap.size T.toArray) none := ⟨hgr.os, hgr.tape, hgr.output, by have := hgr.size; simp [World.setRow]; exact this, fun k hk _ => by rw [setRow_other _ _ _ _ (by omega)]; exact hgr.block k hk (by simp)⟩
      have hsc := run_storeCells_from (P := Tryd.prog) w.heap.size 50 T 0 Z.toArray wr hz (by simp; omega) hT.2.1
      rw [List.take_zero, List.nil_append] at hsc
      have HS9 : Hid _ := hsT
      have HU : Hid _ := hun
      clear hsT hun
      go_wp2_with fail
      refine wp_load_row 50 _ rfl (w.heap.size + 1) rfl 50 T.toArray (0, 0) _ hr HU.out rfl HS9.out ?_
      go_wp2_with fail
      refine bodyPost_ret (v := .agg T.toArray) (results_cell_row rfl _ _ w.heap.size 50 T.toArray (0, 0) _ rfl hr9 HU.out rfl HS9.out) rfl ⟨bh, bl, T, hLow, rfl, hT, hg9⟩
end Gf
end Go.Proofs.YtiojdoehlooibabDoor
