/- restOf: what the generator leaves of a word that was handed in. -/
import Derived.Test.YtiojdoehlooibaaDoorZDe
namespace Go.Proofs.YtiojdoehlooibaaDoor
open Go.RowKit
namespace Gf
theorem fst_same (E : List Nat) {j : Nat} (hj : j < E.length) (h0 : nth E j = 0) : fst E (j + 1) = fst E j := by
  unfold fst
  rw [take_snoc' hj, List.append_assoc, h0, show E.length - j = E.length - (j + 1) + 1 by omega, List.replicate_succ]; rfl
theorem fst_over (E : List Nat) {j : Nat} (hj : E.length ≤ j) : fst E (j + 1) = fst E j := by
  unfold fst
  rw [List.take_of_length_le (by omega), List.take_of_length_le (by omega), show E.length - (j + 1) = 0 by omega, show E.length - j = 0 by omega]
theorem fst_zeros (E : List Nat) : ∀ n j, (∀ i, j ≤ i → i < j + n → nth E i = 0) → fst E (j + n) = fst E j
  | 0, _, _ => rfl
  | n + 1, j, h => by
    rw [← Nat.add_assoc]
    by_cases hj : j + n < E.length
    · rw [fst_same E hj (h _ (by omega) (by omega)), fst_zeros E n j fun i h1 h2 => h i h1 (by omega)]
    · rw [fst_over E (by omega), fst_zeros E n j fun i h1 h2 => h i h1 (by omega)]
theorem rev_set {l : List Nat} {k v : Nat} (hk : k < l.length) : (l.set k v).reverse = l.reverse.set (l.length - 1 - k) v := by
  apply List.ext_getElem (by simp)
  intro i h1 h2
  have hi : i < l.length := by simpa using h1
  simp only [List.getElem_reverse, List.length_set, List.getElem_set]
  by_cases e : k = l.length - 1 - i
  · rw [if_pos e, if_pos (by omega)]
  · rw [if_neg e, if_neg (by omega)]
theorem fst_rev_set (E : List Nat) {j : Nat} (hj : j < E.length) : (fst E j).reverse.set (E.length - 1 - j) (nth E j) = (fst E (j + 1)).reverse := by
  rw [← fst_set E hj, rev_set (by rw [fst_len E (by omega)]; exact hj), fst_len E (by omega)]
/-- A byte moved up, and what falls out. -/
theorem sh_top {x k : Nat} (hx : x ≤ 255) (hk : k < 8) : (x * 2 ^ k % 256) / 128 = x / 2 ^ (7 - k) % 2 := by
  have hk' : k = 0 ∨ k = 1 ∨ k = 2 ∨ k = 3 ∨ k = 4 ∨ k = 5 ∨ k = 6 ∨ k = 7 := by omega
  rcases hk' with rfl | rfl | rfl | rfl | rfl | rfl | rfl | rfl <;> simp <;> omega
theorem shl_zero {x k : Nat} (h : x * 2 ^ k % 256 = 0) {i : Nat} (h1 : k ≤ i) (h2 : i < 8) : x / 2 ^ (7 - i) % 2 = 0 := by
  have hk : k < 8 := by omega
  have hk' : k = 0 ∨ k = 1 ∨ k = 2 ∨ k = 3 ∨ k = 4 ∨ k = 5 ∨ k = 6 ∨ k = 7 := by omega
  have hi' : i = 0 ∨ i = 1 ∨ i = 2 ∨ i = 3 ∨ i = 4 ∨ i = 5 ∨ i = 6 ∨ i = 7 := by omega
  rcases hk' with rfl | rfl | rfl | rfl | rfl | rfl | rfl | rfl <;> rcases hi' with rfl | rfl | rfl | rfl | rfl | rfl | rfl | rfl <;> first | omega | (simp at h ⊢; omega)
theorem sh_some {x k : Nat} (hx : x ≤ 255) (h : x * 2 ^ k % 256 ≠ 0) : k < 8 ∧ ∃ i, k ≤ i ∧ i < 8 ∧ x / 2 ^ (7 - i) % 2 = 1 := by
  have hk : k < 8 := by
    apply Classical.byContradiction
    intro hge
    refine h ?_
    rw [show k = 8 + (k - 8) by omega, Nat.pow_add, ← Nat.mul_assoc, Nat.mul_comm x, Nat.mul_assoc]
    exact Nat.mul_mod_right 256 _
  refine ⟨hk, ?_⟩
  apply Classical.byContradiction
  intro hno
  have hb : ∀ i, k ≤ i → i < 8 → x / 2 ^ (7 - i) % 2 = 0 := fun i h1 h2 => by
    have : ¬ x / 2 ^ (7 - i) % 2 = 1 := fun e => hno ⟨i, h1, h2, e⟩
    omega
  have hk' : k = 0 ∨ k = 1 ∨ k = 2 ∨ k = 3 ∨ k = 4 ∨ k = 5 ∨ k = 6 ∨ k = 7 := by omega
  have e7 := hb 7 (by omega) (by omega)
  rcases hk' with rfl | rfl | rfl | rfl | rfl | rfl | rfl | rfl
  · have e0 := hb 0 (by omega) (by omega); have e1 := hb 1 (by omega) (by omega); have e2 := hb 2 (by omega) (by omega); have e3 := hb 3 (by omega) (by omega); have e4 := hb 4 (by omega) (by omega); have e5 := hb 5 (by omega) (by omega); have e6 := hb 6 (by omega) (by omega)
    simp at e0 e1 e2 e3 e4 e5 e6 e7 h; omega
  · have e1 := hb 1 (by omega) (by omega); have e2 := hb 2 (by omega) (by omega); have e3 := hb 3 (by omega) (by omega); have e4 := hb 4 (by omega) (by omega); have e5 := hb 5 (by omega) (by omega); have e6 := hb 6 (by omega) (by omega)
    simp at e1 e2 e3 e4 e5 e6 e7 h; omega
  · have e2 := hb 2 (by omega) (by omega); have e3 := hb 3 (by omega) (by omega); have e4 := hb 4 (by omega) (by omega); have e5 := hb 5 (by omega) (by omega); have e6 := hb 6 (by omega) (by omega)
    simp at e2 e3 e4 e5 e6 e7 h; omega
  · have e3 := hb 3 (by omega) (by omega); have e4 := hb 4 (by omega) (by omega); have e5 := hb 5 (by omega) (by omega); have e6 := hb 6 (by omega) (by omega)
    simp at e3 e4 e5 e6 e7 h; omega
  · have e4 := hb 4 (by omega) (by omega); have e5 := hb 5 (by omega) (by omega); have e6 := hb 6 (by omega) (by omega)
    simp at e4 e5 e6 e7 h; omega
  · have e5 := hb 5 (by omega) (by omega); have e6 := hb 6 (by omega) (by omega)
    simp at e5 e6 e7 h; omega
  · have e6 := hb 6 (by omega) (by omega)
    simp at e6 e7 h; omega
  · simp at e7 h; omega
/-- The bits in which a parity and that of the data differ. -/
abbrev difS (m t : Nat) (ds P : List Nat) : List Nat := xl (par m t (bitsS ds)) P
theorem dif_byte {m t : Nat} (h : Em m) {ds P : List Nat} (hP : Bits P) (hl : P.length = rS m t) (i : Nat) : nth (parB m t ds) i ^^^ nth (bytesS P) i = nth (bytesS (difS m t ds P)) i := by
  have hpar := bits_par h t (bits_bitsS ds)
  have hll : (par m t (bitsS ds)).length = P.length := by rw [par_len, hl]
  have h1 := bytesS_le (par m t (bitsS ds)) i
  have h2 := bytesS_le P i
  have hx := Nat.xor_lt_two_pow (x := nth (bytesS (par m t (bitsS ds))) i) (y := nth (bytesS P) i) (n := 8) (by omega) (by omega)
  show nth (bytesS (par m t (bitsS ds))) i ^^^ nth (bytesS P) i = _
  refine byte_eq (by omega) (bytesS_le _ i) fun j hj => ?_
  have e1 := nth_bits_bytes hpar (8 * i + j)
  have e2 := nth_bits_bytes hP (8 * i + j)
  have e3 := nth_bits_bytes (bits_xl hll hpar hP) (8 * i + j)
  rw [nth_bitsS, show (8 * i + j) / 8 = i by omega, show (8 * i + j) % 8 = j by omega, testBit_val] at e1 e2 e3
  rw [testBit_val, testBit_val, Nat.testBit_xor]
  rw [nth_xl hll, ← e1, ← e2] at e3
  rw [e3]
  cases (nth (bytesS (par m t (bitsS ds))) i).testBit (7 - j) <;> cases (nth (bytesS P) i).testBit (7 - j) <;> rfl
theorem byte_bit {E : List Nat} (hE : Bits E) {i k : Nat} (hk : k < 8) : nth (bytesS E) i / 2 ^ (7 - k) % 2 = nth E (8 * i + k) := by
  have := nth_bits_bytes hE (8 * i + k)
  rwa [nth_bitsS, show (8 * i + k) / 8 = i by omega, show (8 * i + k) % 8 = k by omega] at this
/-- What holds while the rest is laid. -/
structure RoRel (b : Nat) (w wr : World) (E : List Nat) (j : Nat) (G : Nat) (Q : List Nat) : Prop where
  row : wr.heap[w.heap.size]? = some (.cells (vals (fst E j).reverse).toArray 3)
  par : wr.heap[G]? = some (.cells (valsB Q).toArray 5)
  grown : w.grownBy wr none
theorem RoRel.store {b : Nat} {w wr : World} {E : List Nat} {j G : Nat} {Q : List Nat} (h : RoRel b w wr E j G Q) (hj : j < E.length) (hG : G ≠ w.heap.size) : RoRel b w (wr.setCell ⟨w.heap.size, E.length - 1 - j, none⟩ (num (nth E j : Nat))) E (j + 1) G Q :=
  ⟨by
    have := setCell_row (i := E.length - 1 - j) h.row (num (nth E j : Nat))
    rw [vals_set, fst_rev_set E hj] at this
    exact this, by rw [setCell_else hG]; exact h.par, grownBy_setCell h.grown (.inl (Nat.le_refl _)) _⟩
def RestPost (b : Nat) (w : World) (E : List Nat) (e : Ending) (w' : World) : Prop := ∃ n, n = E.length ∧ e = .returned (.slice (some ⟨w.heap.size, 0, none⟩) n n) ∧ w.grownBy w' none ∧ Own b w' w.heap.size (vals E.reverse)
set_option maxHeartbeats 3200000 in
set_option maxRecDepth 4000 in
theorem restOf_ok {w : World} {c b m bytes t : Nat} (h : Cod w c b m bytes t) (ad ap : Option Addr) (cd cp : Nat) (ds P : List Nat) (hd : RdB w ad ds) (hp : RdB w ap (bytesS P)) (hB : Bits P) (hP : P.length = rS m t) (hl : ds.length ≤ 100000) :
    Calls Tryd.prog 37 #[ptr c, .slice ad ds.length cd, .slice ap (pS m t) cp] w fun e w' => RestPost b w (difS m t ds P) e w' := by
  obtain ⟨i0, hi, hz0, hz1, hz2⟩ := info_parts Tryd.info3
  have hem := h.em
  have hr := h.r_104
  have h2 := h.two
  have hpl : (bytesS P).length = pS m t := by rw [bytesS_len, hP]
  have hql := parB_len m t ds
  have hdb := fun i => dif_byte (ds := ds) hem hB hP i
  have hqle := bytesS_le (par m t (bitsS ds))
  have hple := bytesS_le P
  have hBE : Bits (difS m t ds P) := bits_xl (by rw [par_len, hP]) (bits_par hem t (bits_bitsS ds)) hB
  have hEl : (difS m t ds P).length = rS m t := by rw [difS, xl_len (by rw [par_len, hP]), par_len]
  have hW1 := World.grownBy_alloc w (.cells (zs (rS m t)).toArray 3) none
  have hPar := parityOf_ok (h.more hW1) ad cd ds (hd.more hW1) hl
  have c3 := h.c3
  have hR0 : (w.alloc (.cells (zs (rS m t)).toArray 3)).heap[w.heap.size]? = some (.cells (vals (fst (difS m t ds P) 0).reverse).toArray 3) := by
    rw [fst_zero, List.reverse_replicate, hEl, ← vals_zeros]; exact heap_alloc_new w _
  have hpS : pS m t = (rS m t + 7) / 8 := rfl
  obtain ⟨E, hE⟩ : ∃ E, E = difS m t ds P := ⟨_, rfl⟩
  obtain ⟨Q, hQ⟩ : ∃ Q, Q = parB m t ds := ⟨_, rfl⟩
  obtain ⟨R, hRe⟩ : ∃ R, R = rS m t := ⟨_, rfl⟩
  obtain ⟨N, hN⟩ : ∃ N, N = pS m t := ⟨_, rfl⟩
  rw [← hE] at hdb hBE hEl hR0
  rw [← hE]
  have hqle' : ∀ k, nth Q k ≤ 255 := by rw [hQ]; exact hqle
  rw [← hQ] at hdb hql hPar
  rw [← hN] at hpl hql hPar hpS ⊢
  rw [← hRe] at hEl hR0 hPar hpS hr c3 hW1
  have hR1 : 1 ≤ R := by rw [hRe]; unfold rS; omega
  have HPar : Hid (Calls Tryd.prog 31 #[ptr c, .slice ad ds.length cd] (w.alloc (.cells (zs R).toArray 3)) _) := hPar
  have HDb : Hid _ := hdb
  have n1 : N ≤ 13 := by omega
  have n2 : R ≤ 8 * N := by omega
  clear hPar hdb hE hQ hRe hN hpS hqle hP hB
  go_enter Tryd.func37, Tryd.ntmps37
  go_wp2_with (first | (at_make; go_must (refine wpList_make_own0 _ rfl _ _ 27 rfl 3 i0 Tryd.underlying27 hi hz0 hz1 hz2 .i64 .i64 _ _ R rfl rfl (by omega) (by omega) (by omega) ?_)))
  refine HPar.out.mono ?_
  rintro e w3 ⟨G, rfl, hG1, hG2, hG3⟩
  have hGw : w.heap.size + 1 ≤ G := by simpa using hG1
  have hI0 : RoRel b w w3 E 0 G Q := ⟨by rw [hG2.block _ (lt_of_heap hR0) (by simp)]; exact hR0, hG3, grownBy_trans hW1 hG2⟩
  clear HPar hR0 hW1 hG2 hG3 hG1
  go_wp2_with fail
  go_loopw [20] (fun v wr => ∃ i : Nat, i ≤ N ∧ v = num i ∧ RoRel b w wr E (8 * i) G Q) (fun v _ => N - (intOf v).toNat)
  case atStart => exact ⟨0, Nat.zero_le _, rfl, hI0⟩
  case round =>
    clear hI0
    obtain ⟨i, hiN, rfl, hI⟩ := hrel
    by_cases hlt : i < N
    · have b1 : (i : Int) < (N : Int) := by omega
      have cq : wr.cell? ⟨G, i, none⟩ = some (.int .u8 (nth Q i : Nat)) := by rw [cell_row hI.par, valsB_at (by omega)]
      obtain ⟨gp, op, hap, hcp⟩ := hp.2.resolve_left (fun e => by rw [e] at hpl; simp at hpl; omega)
      subst hap
      have cp' : wr.cell? ⟨gp, op + i, none⟩ = some (.int .u8 (nth (bytesS P) i : Nat)) := by
        rw [World.cell?_of_block (w := w) (a := ⟨gp, op + i, none⟩) (hI.grown.block gp (lt_of_cell (hcp i (by omega))) (by simp))]
        exact hcp i (by omega)
      have c3' : wr.cell? ⟨c, 3, none⟩ = some (num (R : Nat)) := by
        rw [World.cell?_of_block (w := w) (a := ⟨c, 3, none⟩) (hI.grown.block c h.lt (by simp))]; exact c3
      have hx8 := xor_u8 (hqle' i) (hple i)
      rw [HDb.out i] at hx8
      have hzl := bytesS_le E i
      have HBt : Hid (∀ k, k < 8 → nth (bytesS E) i / 2 ^ (7 - k) % 2 = nth E (8 * i + k)) := fun k hk => byte_bit hBE hk
      obtain ⟨Z, hZ⟩ : ∃ Z, Z = nth (bytesS E) i := ⟨_, rfl⟩
      rw [← hZ] at hx8 hzl HBt
      clear hZ
      have e0 : Z * 2 ^ 0 % 256 = Z := by omega
      go_wp2_with fail
      go_loopw [9, 10] (fun v q ws => ∃ k : Nat, k ≤ 8 ∧ v = .int .u8 ((Z * 2 ^ k % 256 : Nat) : Int) ∧ q = num ((R : Int) - 1 - 8 * i - k) ∧ RoRel b w ws E (8 * i + k) G Q) (fun _ q _ => (intOf q + 8 + 8 * i).toNat)
      case atStart => exact ⟨0, by omega, by rw [e0], by go_num, hI⟩
      case round =>
        clear hI cq cp' c3'
        obtain ⟨k, hk8, rfl, rfl, hI⟩ := hrel
        by_cases hz : Z * 2 ^ k % 256 = 0
        · have HF : Hid (fst E (8 * (i + 1)) = fst E (8 * i + k)) := by
            rw [Hid, show 8 * (i + 1) = 8 * i + k + (8 - k) by omega]
            exact fst_zeros E (8 - k) (8 * i + k) fun j j1 j2 => by
              rw [show j = 8 * i + (j - 8 * i) by omega, ← HBt.out _ (by omega)]
              exact shl_zero hz (by omega) (by omega)
          have hI2 : RoRel b w wr E (8 * (i + 1)) G Q := ⟨by rw [HF.out]; exact hI.row, hI.par, hI.grown⟩
          rw [hz]
          clear hI hz
          go_wp2_with fail
          go_roundw
          case rel => exact ⟨i + 1, by omega, by go_num, hI2⟩
          case measure => simp [intOf]; omega
        · obtain ⟨hk, j, hj1, hj2, hj3⟩ := sh_some hzl hz
          have hjR : 8 * i + j < R := by
            apply Classical.byContradiction
            intro hge
            rw [HBt.out j hj2, nth_over E (by omega)] at hj3
            omega
          have ht := sh_top hzl hk
          rw [HBt.out k hk] at ht
          have HS : Hid (Z * 2 ^ k % 256 * 2 % 256 = Z * 2 ^ (k + 1) % 256) := by rw [Hid, Nat.pow_succ, ← Nat.mul_assoc, Nat.mod_mul_mod]
          have hY : Z * 2 ^ k % 256 < 256 := Nat.mod_lt _ (by decide)
          obtain ⟨Y, hYe⟩ : ∃ Y, Y = Z * 2 ^ k % 256 := ⟨_, rfl⟩
          rw [← hYe] at hz ht hY HS ⊢
          have HT : Hid ((Y : Int) / 128 = ((nth E (8 * i + k) : Nat) : Int)) := by rw [Hid, ← ht]; simp
          have HY2 : Hid ((Y : Int) * 2 % 256 = ((Z * 2 ^ (k + 1) % 256 : Nat) : Int)) := by rw [Hid, ← HS.out]; simp
          have hz' : ((Y : Int) != 0) = true := by simp; omega
          have hst := hI.store (by omega) (by omega : G ≠ w.heap.size)
          rw [hEl] at hst
          have zf : wr.frozen? ⟨w.heap.size, R - 1 - (8 * i + k), none⟩ = false := frozen_row hI.row
          have hrl : (fst E (8 * i + k)).reverse.length = R := by rw [List.length_reverse, fst_len E (by omega), hEl]
          have cf : wr.cell? ⟨w.heap.size, R - 1 - (8 * i + k), none⟩ = some (num (nth (fst E (8 * i + k)).reverse (R - 1 - (8 * i + k)) : Nat)) := by rw [cell_row hI.row, vals_at (by omega)]
          have b3 : (0 : Int) ≤ (R : Int) - 1 - 8 * (i : Int) - (k : Int) := by omega
          have b4 : ((R : Int) - 1 - 8 * (i : Int) - (k : Int)).toNat = R - 1 - (8 * i + k) := by omega
          have b5 : (R : Int) - 1 - 8 * (i : Int) - (k : Int) < (R : Int) := by omega
          clear hI hz hYe ht hrl hj3
          go_wp2_with fail
          go_roundw
          case rel => exact ⟨k + 1, by omega, by rw [HY2.out], by go_num, by rw [HT.out]; exact hst⟩
          case measure => simp [intOf]; omega
    · obtain rfl : i = N := by omega
      have b1 : ¬ ((i : Int) < (i : Int)) := by omega
      have HF : Hid (fst E (8 * i) = E) := by rw [Hid, fst, List.take_of_length_le (by omega), show E.length - 8 * i = 0 by omega]; simp
      have hrow := hI.row
      rw [HF.out] at hrow
      have hgr := hI.grown
      have hfr : Free wr b w.heap.size := (h.fld.free_new (Nat.le_refl _)).of_block (hgr.block b h.fld.lt (by simp))
      clear hI
      go_wp2_with fail
      go_ret
      exact ⟨R, hEl.symm, rfl, hgr, ⟨hrow, hfr⟩⟩
end Gf
end Go.Proofs.YtiojdoehlooibaaDoor
