/- Layer 6 (stripe): Place, numbersOf, slotOf, added. -/
import Derived.Test.YtjokedggmhiklaaSb
import Derived.StillTailTactics
import Derived.Deep.RegionHeld3
namespace Go.Proofs.Ytjokedggmhiklaa
open Go.RowKit Go.Maps
namespace Sp
theorem follows_mixed : Try.prog.follows .mixedOrders = true := by kernel_rfl
def placeS (row width : Int) : Int := if row < 0 ∨ width < 2 ∨ 255 < width then -1 else width - 1 - row % width
theorem place_rem {row width : Int} (h2 : 2 ≤ width) : 0 ≤ row % width ∧ row % width < width := ⟨Int.emod_nonneg _ (by omega), Int.emod_lt_of_pos _ (by omega)⟩
set_option maxHeartbeats 800000 in
theorem place_ok (row width : Int) (hr : row ≤ 9223372036854775807) (w : World) : Calls Try.prog 10 #[num row, num width] w fun e w' => e = .returned (num (placeS row width)) ∧ w' = w := by
  by_cases h1 : row < 0
  · have e1 : decide (row < 0) = true := by simpa using h1
    have HE : Hid (placeS row width = -1) := by simp [Hid, placeS, h1]
    go_enter Try.func10, Try.ntmps10
    go_wp2
    go_ret
    exact ⟨ret_int (by rw [HE.out]), rfl⟩
  · have e1 : decide (row < 0) = false := by simpa using h1
    by_cases h2 : width < 2
    · have e2 : decide (width < 2) = true := by simpa using h2
      have HE : Hid (placeS row width = -1) := by simp [Hid, placeS, h2]
      go_enter Try.func10, Try.ntmps10
      go_wp2
      go_ret
      exact ⟨ret_int (by rw [HE.out]), rfl⟩
    · have e2 : decide (width < 2) = false := by simpa using h2
      by_cases h3 : 255 < width
      · have e3 : decide (255 < width) = true := by simpa using h3
        have HE : Hid (placeS row width = -1) := by simp [Hid, placeS, h3]
        go_enter Try.func10, Try.ntmps10
        go_wp2
        go_ret
        exact ⟨ret_int (by rw [HE.out]), rfl⟩
      · have e3 : decide (255 < width) = false := by simpa using h3
        have HE : Hid (placeS row width = width - 1 - row % width) := by simp [Hid, placeS, h1, h2, h3]
        have h4 : 0 ≤ row := by omega
        have h5 : 2 ≤ width := by omega
        have h6 : width ≤ 255 := by omega
        obtain ⟨r1, r2⟩ := place_rem (row := row) (width := width) (by omega)
        go_enter Try.func10, Try.ntmps10
        go_wp2
        go_ret
        exact ⟨ret_int (by rw [HE.out]), rfl⟩
set_option maxHeartbeats 800000 in
theorem kplace_ok (row width : Int) (hr : row ≤ 9223372036854775807) (w : World) : Calls Try.prog 11 #[num row, num width] w fun e w' => e = .returned (num (placeS row width)) ∧ w' = w := by
  by_cases h1 : row < 0
  · have e1 : decide (row < 0) = true := by simpa using h1
    have HE : Hid (placeS row width = -1) := by simp [Hid, placeS, h1]
    go_enter Try.func11, Try.ntmps11
    go_wp2
    go_ret
    exact ⟨ret_int (by rw [HE.out]), rfl⟩
  · have e1 : decide (row < 0) = false := by simpa using h1
    by_cases h2 : width < 2
    · have e2 : decide (width < 2) = true := by simpa using h2
      have HE : Hid (placeS row width = -1) := by simp [Hid, placeS, h2]
      go_enter Try.func11, Try.ntmps11
      go_wp2
      go_ret
      exact ⟨ret_int (by rw [HE.out]), rfl⟩
    · have e2 : decide (width < 2) = false := by simpa using h2
      by_cases h3 : 255 < width
      · have e3 : decide (255 < width) = true := by simpa using h3
        have HE : Hid (placeS row width = -1) := by simp [Hid, placeS, h3]
        go_enter Try.func11, Try.ntmps11
        go_wp2
        go_ret
        exact ⟨ret_int (by rw [HE.out]), rfl⟩
      · have e3 : decide (255 < width) = false := by simpa using h3
        have HE : Hid (placeS row width = width - 1 - row % width) := by simp [Hid, placeS, h1, h2, h3]
        have h4 : 0 ≤ row := by omega
        have h5 : 2 ≤ width := by omega
        have h6 : width ≤ 255 := by omega
        obtain ⟨r1, r2⟩ := place_rem (row := row) (width := width) (by omega)
        go_enter Try.func11, Try.ntmps11
        go_wp2
        go_ret
        exact ⟨ret_int (by rw [HE.out]), rfl⟩
/-- A slot's three numbers. -/
def numsOf (s : Slot) : List Nat := [s.key, s.state.toNat, s.seq]
set_option maxHeartbeats 800000 in
theorem numbers_ok {s : Slot} (hi : SlotI s) (hm : SlotMay s) (w : World) :
    Calls Try.prog 33 #[.agg #[q32 s.key, num s.state, q64 s.seq]] w fun e w' => e = .returned (.slice (some ⟨w.heap.size + 1, 0, none⟩) 3 3) ∧ w.grownBy w' none ∧ w'.heap[w.heap.size + 1]? = some (.cells #[q64 s.key, q64 s.state.toNat, q64 s.seq] 51) := by
  obtain ⟨i1, i2, i3⟩ := hi
  obtain ⟨m1, m2, m3⟩ := hm
  obtain ⟨k, st, sq⟩ := s
  simp only at i1 i2 i3 m1 m2 m3 ⊢
  obtain ⟨n, rfl⟩ : ∃ n : Nat, st = n := ⟨st.toNat, by omega⟩
  have n2 : n ≤ 3 := by omega
  have c1 : (k : Int) < 4294967296 := by omega
  have hgr : w.grownBy ((w.alloc (.cells #[q32 k, num n, q64 sq] 53)).alloc (.cells #[q64 k, q64 n, q64 sq] 51)) none := grownBy_alloc' (World.grownBy_alloc w _ none) _
  have hhp : ((w.alloc (.cells #[q32 k, num n, q64 sq] 53)).alloc (.cells #[q64 k, q64 n, q64 sq] 51)).heap[w.heap.size + 1]? = some (.cells #[q64 k, q64 n, q64 sq] 51) := by
    have := heap_alloc_new (w.alloc (.cells #[q32 k, num n, q64 sq] 53)) (.cells #[q64 k, q64 n, q64 sq] 51)
    simpa using this
  have HG : Hid _ := hgr
  have HH : Hid _ := hhp
  clear hgr hhp
  go_enter Try.func33, Try.ntmps33
  go_wp2
  go_ret
  exact ⟨rfl, HG.out, HH.out⟩
set_option maxHeartbeats 1600000 in
set_option maxRecDepth 4000 in
theorem slotOf_ok {w : World} {g a b c : Nat} (hb : w.heap[g]? = some (.cells #[q64 a, q64 b, q64 c] 51)) (ha : a < 4294967296) (hb' : b ≤ 3) :
    Calls Try.prog 27 #[.slice (some ⟨g, 0, none⟩) 3 3] w fun e w' => e = .returned (.agg #[q32 a, num b, q64 c]) ∧ w.grownBy w' none := by
  have HFo : Hid (Try.prog.follows .mixedOrders = true) := follows_mixed
  obtain ⟨W, hW⟩ : ∃ W, W = w.alloc (.cells #[.int .u32 0, num 0, .int .u64 0] 53) := ⟨_, rfl⟩
  have hA : w.grownBy W none := by rw [hW]; exact World.grownBy_alloc w _ none
  have hbx : W.heap[w.heap.size]? = some (.cells #[.int .u32 0, num 0, .int .u64 0] 53) := by rw [hW]; exact heap_alloc_new w _
  have hb2 : W.heap[g]? = some (.cells #[q64 a, q64 b, q64 c] 51) := by rw [hA.block g (lt_of_heap hb) (by simp)]; exact hb
  have c0 : W.drew.cell? ⟨g, 0, none⟩ = some (q64 a) := cell_at (o := 0) hb2 rfl
  have c1 : W.drew.cell? ⟨g, 1, none⟩ = some (q64 b) := cell_at (o := 1) hb2 rfl
  have c2 : W.drew.cell? ⟨g, 2, none⟩ = some (q64 c) := cell_at (o := 2) hb2 rfl
  have k1 : (a : Int) < 4294967296 := by omega
  have k2 : (b : Int) ≤ 3 := by omega
  have Hw : Hid _ := hW
  have HG : Hid _ := hA
  clear hb2 hA hb hW
  go_enter Try.func27, Try.ntmps27
  go_wp2_with (rw [← Hw.out])
  go_still_tail 12, HFo.out
  change wpList _ _ _ _ _ (W.drew)
  have wa : IntKind.u32.wrap (a : Int) = a := by rw [IntKind.wrap_u32]; omega
  have wb : IntKind.i64.wrap (b : Int) = b := by rw [IntKind.wrap_i64]; omega
  rw [wa, wb]
  have hwd : W.drew = (w.alloc (.cells #[.int .u32 0, num 0, .int .u64 0] 53)).drew := by rw [Hw.out]
  rw [hwd]
  have HG' : Hid (w.grownBy ((w.alloc (.cells #[q32 a, num b, q64 c] 53)).drew) none) := grownBy_drew (World.grownBy_alloc w _ none)
  clear c0 c1 c2 hbx hwd HG wa wb k1 k2 ha hb' Hw
  go_wp2
  exact bodyPost_ret (v := .agg #[q32 a, num b, q64 c]) (by simp [results, Try.results27, go_sem]) rfl ⟨rfl, HG'.out⟩
/-! ### Rows of numbers together -/
def xorRow (size k : Nat) (f : Nat → List Nat) : List Nat := (List.range size).map fun j => xorN k fun a => nth (f a) j
/-- Behind i items of the row k. -/
def xorPart (size k i : Nat) (f : Nat → List Nat) : List Nat := (List.range size).map fun j => if j < i then xorN (k + 1) (fun a => nth (f a) j) else xorN k fun a => nth (f a) j
theorem xorRow_len (size k : Nat) (f : Nat → List Nat) : (xorRow size k f).length = size := by simp [xorRow]
theorem xorPart_len (size k i : Nat) (f : Nat → List Nat) : (xorPart size k i f).length = size := by simp [xorPart]
theorem nth_xorRow {size k : Nat} {f : Nat → List Nat} {j : Nat} (h : j < size) : nth (xorRow size k f) j = xorN k fun a => nth (f a) j := by simp [nth, xorRow, h]
theorem xorRow_zero (size : Nat) (f : Nat → List Nat) : xorRow size 0 f = List.replicate size 0 := by
  apply List.ext_getElem (by simp [xorRow])
  intro i h1 h2
  simp [xorRow, xorN]
theorem xorPart_zero (size k : Nat) (f : Nat → List Nat) : xorPart size k 0 f = xorRow size k f := by simp [xorPart, xorRow]
theorem xorPart_all {size k i : Nat} {f : Nat → List Nat} (h : i = (f k).length) : xorPart size k i f = xorRow size (k + 1) f := by
  apply List.ext_getElem (by simp [xorPart, xorRow])
  intro j h1 h2
  simp only [xorPart, xorRow, List.getElem_map, List.getElem_range]
  split
  · rfl
  · rw [xorN, nth_over (f k) (by omega), Nat.xor_zero]
theorem xorPart_at {size k i : Nat} {f : Nat → List Nat} (h : i < size) : nth (xorPart size k i f) i = xorN k fun a => nth (f a) i := by simp [nth, xorPart, h]
theorem xorPart_next {size k i : Nat} {f : Nat → List Nat} (h : i < size) : (xorPart size k i f).set i (nth (xorPart size k i f) i ^^^ nth (f k) i) = xorPart size k (i + 1) f := by
  rw [xorPart_at h]
  apply List.ext_getElem (by simp [xorPart])
  intro j h1 h2
  rw [List.getElem_set]
  split
  · rename_i e
    subst e
    simp [xorPart, xorN]
  · rename_i e
    simp only [xorPart, List.getElem_map, List.getElem_range]
    by_cases hj : j < i
    · simp [hj, show j < i + 1 by omega]
    · simp [hj, show ¬ j < i + 1 by omega]
theorem nth_xorPart_lt {n size k i : Nat} {f : Nat → List Nat} (hf : ∀ a, a < k + 1 → ∀ j, nth (f a) j < 2 ^ n) (j : Nat) : nth (xorPart size k i f) j < 2 ^ n := by
  by_cases hj : j < size
  · have : nth (xorPart size k i f) j = if j < i then xorN (k + 1) (fun a => nth (f a) j) else xorN k fun a => nth (f a) j := by simp [nth, xorPart, hj]
    rw [this]
    split
    · exact xorN_lt _ _ fun a ha => hf a ha j
    · exact xorN_lt _ _ fun a ha => hf a (by omega) j
  · rw [nth_over _ (by rw [xorPart_len]; omega)]; exact Nat.two_pow_pos n
theorem setCell_row {w : World} {g i : Nat} {L : List Value} {t : TypeId} (h : w.heap[g]? = some (.cells L.toArray t)) (v : Value) : (w.setCell ⟨g, i, none⟩ v).heap[g]? = some (.cells (L.set i v).toArray t) := by
  simp [World.setCell, Array.getElem?_modify, h]
def NumsM (w : World) (K : Nat → Prop) (v : Value) (b : List Nat) : Prop :=
  (∀ i, nth b i < 18446744073709551616) ∧ Rows K v b.length 1 fun k g o => w.cell? ⟨g, o, none⟩ = some (q64 (nth b k))
theorem NumsM.kept {K : Nat → Prop} {w w' : World} (h : Kept K w w') {v : Value} {b : List Nat} (hb : NumsM w K v b) : NumsM w' K v b := ⟨hb.1, hb.2.imp (fun _ => id) fun _ _ _ _ hk he => h.cell hk he⟩
theorem NumsM.len {w : World} {K : Nat → Prop} {v : Value} {b : List Nat} (h : NumsM w K v b) : ∃ ao cap, v = .slice ao b.length cap ∧ b.length ≤ cap ∧ cap ≤ 9223372036854775807 := by
  obtain ⟨ao, cap, h1, h2, h3, _⟩ := h.2
  exact ⟨ao, cap, h1, h2, h3⟩
def NumAt (w : World) (K : Nat → Prop) (g o : Nat) (b : List Nat) : Prop := ∃ v, w.cell? ⟨g, o, none⟩ = some v ∧ NumsM w K v b
def NumRowsM (w : World) (K : Nat → Prop) (v : Value) (n : Nat) (f : Nat → List Nat) : Prop := Rows K v n 1 fun k g o => NumAt w K g o (f k)
theorem NumRowsM.kept {K : Nat → Prop} {w w' : World} (h : Kept K w w') {v : Value} {n : Nat} {f : Nat → List Nat} (hb : NumRowsM w K v n f) : NumRowsM w' K v n f := hb.imp (fun _ => id) fun _ _ _ _ hk he => by
  obtain ⟨v, h1, h2⟩ := he
  exact ⟨v, h.cell hk h1, h2.kept h⟩
theorem lt2_8 {b : List Nat} (h : ∀ i, nth b i ≤ 255) (j : Nat) : nth b j < 2 ^ 8 := by have := h j; omega
theorem lt2_64 {b : List Nat} (h : ∀ i, nth b i < 18446744073709551616) (j : Nat) : nth b j < 2 ^ 64 := h j
theorem xor_u8 {a b : Nat} (ha : a < 2 ^ 8) (hb : b < 2 ^ 8) : bits .xor .u8 (a : Int) (b : Int) = ((a ^^^ b : Nat) : Int) := u8_xor_nat a b ha hb
theorem xor_u64 {a b : Nat} (ha : a < 2 ^ 64) (hb : b < 2 ^ 64) : bits .xor .u64 (a : Int) (b : Int) = ((a ^^^ b : Nat) : Int) := u64_xor_nat a b ha hb
theorem info5 : (Try.prog.info? 5).map (fun i => (i.zero, i.size, i.bytes)) = some (some (.int .u8 0), 1, 1) := by kernel_rfl
theorem info51 : (Try.prog.info? 51).map (fun i => (i.zero, i.size, i.bytes)) = some (some (.int .u64 0), 1, 8) := by kernel_rfl
/-- Numbers as they lie. -/
def vals64 (l : List Nat) : List Value := l.map fun (x : Nat) => q64 x
theorem vals64_set (R : List Nat) (k v : Nat) : (vals64 R).set k (q64 v) = vals64 (R.set k v) := by
  simp only [vals64, List.map_set]
theorem vals64_at {R : List Nat} {k : Nat} (h : k < R.length) : (vals64 R)[k]? = some (q64 (nth R k)) := by simp [vals64, h, nth]
theorem make_64 (w : World) (n : Nat) (hn : n ≤ 100000) :
    (Instr.makeSlice 64 (num (n : Int)) (num (n : Int))).run Try.prog w = .ok (.slice (some ⟨w.heap.size, 0, none⟩) n n) (w.alloc (.cells (vals64 (List.replicate n 0)).toArray 51)) := by
  obtain ⟨i0, hi, hz0, hz1, hz2⟩ := info_parts info51
  have hr := run_make (P := Try.prog) w 64 51 i0 (q64 0) Try.underlying64 hi hz0 .i64 .i64 n n (by omega) (Int.le_refl _) (by rw [hz2]; omega) (by omega)
  simp only [Int.toNat_natCast, hz1, Nat.mul_one] at hr
  have e1 : (madeCells (Value.int .u64 0).cells n) = (vals64 (List.replicate n 0)).toArray := by
    apply Array.toList_inj.1
    exact (toList_madeCells_one (.int .u64 0) n).trans (by simp [vals64])
  rw [← e1]
  exact hr
set_option maxHeartbeats 3200000 in
theorem added64_ok {w : World} {K : Nat → Prop} {v : Value} {n size : Nat} {f : Nat → List Nat} (h : NumRowsM w K v n f) (hs : size ≤ 100000) (hf : ∀ a, a < n → (f a).length ≤ size) :
    Calls Try.prog 28 #[num size, v] w fun e w' => e = .returned (.slice (some ⟨w.heap.size, 0, none⟩) size size) ∧ w.grownBy w' none ∧ w'.heap[w.heap.size]? = some (.cells (vals64 (xorRow size n f)).toArray 51) := by
  obtain ⟨ao, cap, rfl, s1, s2, _⟩ := id h
  have hmk := make_64 w size hs
  obtain ⟨W, hW⟩ : ∃ W, W = w.alloc (.cells (vals64 (List.replicate size 0)).toArray 51) := ⟨_, rfl⟩
  rw [← hW] at hmk
  have hgW : w.grownBy W none := by rw [hW]; exact World.grownBy_alloc w _ none
  have hrow : W.heap[w.heap.size]? = some (.cells (vals64 (xorRow size 0 f)).toArray 51) := by rw [hW, xorRow_zero]; exact heap_alloc_new w _
  have n1 : (n : Int) ≤ 9223372036854775807 := by omega
  have z1 : (size : Int) ≤ 100000 := by omega
  clear hW
  go_enter Try.func28, Try.ntmps28
  go_wp2_with fail
  go_loopw [14] (fun i wr => ∃ k : Nat, k ≤ n ∧ i = num k ∧ w.grownBy wr none ∧ wr.heap[w.heap.size]? = some (.cells (vals64 (xorRow size k f)).toArray 51)) (fun i _ => n - (intOf i).toNat)
  case atStart => exact ⟨0, Nat.zero_le _, rfl, hgW, hrow⟩
  case round =>
    clear hmk hgW hrow
    obtain ⟨k, hk, rfl, hg, hrow⟩ := hrel
    by_cases hkn : k < n
    · have q1 : (k : Int) < (n : Int) := by omega
      obtain ⟨g, off, rfl, hK, _, _, hat⟩ := h.at hkn
      obtain ⟨u, d1, d2⟩ := hat k hkn
      obtain ⟨ua, uc, rfl, u1, u2⟩ := d2.len
      replace d1 := (Kept.of_grown hg).cell hK d1
      simp only [Nat.mul_one] at d1
      have hlen := hf k hkn
      have hall : ∀ a, a < k + 1 → ∀ j, nth (f a) j < 2 ^ 64 := fun a ha j => by
        obtain ⟨_, _, e2⟩ := hat a (by omega)
        exact lt2_64 e2.1 j
      obtain ⟨wo, rfl⟩ : ∃ wo : World, wo = wr := ⟨_, rfl⟩
      have m1 : ((f k).length : Int) ≤ 100000 := by omega
      have hrow0 : wo.heap[w.heap.size]? = some (.cells (vals64 (xorPart size k 0 f)).toArray 51) := by rw [xorPart_zero]; exact hrow
      clear hat hrow
      go_wp2_with fail
      go_loopw [20] (fun i wr => ∃ j : Nat, j ≤ (f k).length ∧ i = num j ∧ w.grownBy wr none ∧ wr.heap[w.heap.size]? = some (.cells (vals64 (xorPart size k j f)).toArray 51)) (fun i _ => (f k).length - (intOf i).toNat)
      case atStart => exact ⟨0, Nat.zero_le _, rfl, hg, hrow0⟩
      case round =>
        clear hrow0 d1
        obtain ⟨j, hj, rfl, hg2, hrow⟩ := hrel
        by_cases hjn : j < (f k).length
        · have q2 : (j : Int) < ((f k).length : Int) := by omega
          obtain ⟨g2, off2, rfl, hK2, _, _, hat2⟩ := (d2.kept (.of_grown hg2)).2.at hjn
          have x1' := hat2 j hjn
          simp only [Nat.mul_one] at x1'
          have hjs : j < size := by omega
          have r1 : wr.cell? ⟨w.heap.size, j, none⟩ = some (q64 (nth (xorPart size k j f) j)) := cell_at hrow (by rw [List.getElem?_toArray]; exact vals64_at (by rw [xorPart_len]; exact hjs))
          have r2 := free_at (o := j) hrow
          have hx1 := hall k (by omega) j
          have hx2 := nth_xorPart_lt (n := 64) (size := size) (i := j) hall j
          have e1 := xor_u64 hx2 hx1
          have HX : Hid (∀ wx, wx = wr.setCell ⟨w.heap.size, j, none⟩ (q64 (nth (xorPart size k j f) j ^^^ nth (f k) j)) → w.grownBy wx none ∧ wx.heap[w.heap.size]? = some (.cells (vals64 (xorPart size k (j + 1) f)).toArray 51)) := fun wx hx => by
            subst hx
            refine ⟨grownBy_set hg2 (Nat.le_refl _) _, ?_⟩
            have := setCell_row (i := j) hrow (q64 (nth (xorPart size k j f) j ^^^ nth (f k) j))
            rwa [vals64_set, xorPart_next hjs] at this
          clear hat2 hall hrow
          generalize nth (xorPart size k j f) j = A at r1 e1 HX
          generalize nth (f k) j = X at x1' e1 HX
          go_wp2
          go_roundw
          case rel => exact ⟨j + 1, by omega, by go_num, HX.out _ rfl⟩
          case measure => simp [intOf]; omega
        · obtain rfl : j = (f k).length := by omega
          have q2 : ¬ ((f k).length : Int) < ((f k).length : Int) := by omega
          rw [xorPart_all rfl] at hrow
          have HR : Hid _ := hrow
          have HG : Hid _ := hg2
          clear hrow hg2
          go_wp2
          go_roundw
          case rel => exact ⟨k + 1, by omega, by go_num, HG.out, HR.out⟩
          case measure => simp [intOf]; omega
    · obtain rfl : k = n := by omega
      have q1 : ¬ (k : Int) < (k : Int) := by omega
      have HR : Hid _ := hrow
      clear hrow
      go_wp2
      go_ret
      exact ⟨rfl, hg, HR.out⟩
/-- Numbers as they lie. -/
def vals8 (l : List Nat) : List Value := l.map fun (x : Nat) => q8 x
theorem vals8_set (R : List Nat) (k v : Nat) : (vals8 R).set k (q8 v) = vals8 (R.set k v) := by
  simp only [vals8, List.map_set]
theorem vals8_at {R : List Nat} {k : Nat} (h : k < R.length) : (vals8 R)[k]? = some (q8 (nth R k)) := by simp [vals8, h, nth]
theorem make_8 (w : World) (n : Nat) (hn : n ≤ 100000) :
    (Instr.makeSlice 49 (num (n : Int)) (num (n : Int))).run Try.prog w = .ok (.slice (some ⟨w.heap.size, 0, none⟩) n n) (w.alloc (.cells (vals8 (List.replicate n 0)).toArray 5)) := by
  obtain ⟨i0, hi, hz0, hz1, hz2⟩ := info_parts info5
  have hr := run_make (P := Try.prog) w 49 5 i0 (q8 0) Try.underlying49 hi hz0 .i64 .i64 n n (by omega) (Int.le_refl _) (by rw [hz2]; omega) (by omega)
  simp only [Int.toNat_natCast, hz1, Nat.mul_one] at hr
  have e1 : (madeCells (Value.int .u8 0).cells n) = (vals8 (List.replicate n 0)).toArray := by
    apply Array.toList_inj.1
    exact (toList_madeCells_one (.int .u8 0) n).trans (by simp [vals8])
  rw [← e1]
  exact hr
set_option maxHeartbeats 3200000 in
theorem added8_ok {w : World} {K : Nat → Prop} {v : Value} {n size : Nat} {f : Nat → List Nat} (h : SecsM w K v n f) (hs : size ≤ 100000) (hf : ∀ a, a < n → (f a).length ≤ size) :
    Calls Try.prog 29 #[num size, v] w fun e w' => e = .returned (.slice (some ⟨w.heap.size, 0, none⟩) size size) ∧ w.grownBy w' none ∧ w'.heap[w.heap.size]? = some (.cells (vals8 (xorRow size n f)).toArray 5) := by
  obtain ⟨ao, cap, rfl, s1, s2, _⟩ := id h
  have hmk := make_8 w size hs
  obtain ⟨W, hW⟩ : ∃ W, W = w.alloc (.cells (vals8 (List.replicate size 0)).toArray 5) := ⟨_, rfl⟩
  rw [← hW] at hmk
  have hgW : w.grownBy W none := by rw [hW]; exact World.grownBy_alloc w _ none
  have hrow : W.heap[w.heap.size]? = some (.cells (vals8 (xorRow size 0 f)).toArray 5) := by rw [hW, xorRow_zero]; exact heap_alloc_new w _
  have n1 : (n : Int) ≤ 9223372036854775807 := by omega
  have z1 : (size : Int) ≤ 100000 := by omega
  clear hW
  go_enter Try.func29, Try.ntmps29
  go_wp2_with fail
  go_loopw [14] (fun i wr => ∃ k : Nat, k ≤ n ∧ i = num k ∧ w.grownBy wr none ∧ wr.heap[w.heap.size]? = some (.cells (vals8 (xorRow size k f)).toArray 5)) (fun i _ => n - (intOf i).toNat)
  case atStart => exact ⟨0, Nat.zero_le _, rfl, hgW, hrow⟩
  case round =>
    clear hmk hgW hrow
    obtain ⟨k, hk, rfl, hg, hrow⟩ := hrel
    by_cases hkn : k < n
    · have q1 : (k : Int) < (n : Int) := by omega
      obtain ⟨g, off, rfl, hK, _, _, hat⟩ := h.at hkn
      obtain ⟨u, d1, d2⟩ := hat k hkn
      obtain ⟨ua, uc, rfl, u1, u2⟩ := d2.len
      replace d1 := (Kept.of_grown hg).cell hK d1
      simp only [Nat.mul_one] at d1
      have hlen := hf k hkn
      have hall : ∀ a, a < k + 1 → ∀ j, nth (f a) j < 2 ^ 8 := fun a ha j => by
        obtain ⟨_, _, e2⟩ := hat a (by omega)
        exact lt2_8 e2.1 j
      obtain ⟨wo, rfl⟩ : ∃ wo : World, wo = wr := ⟨_, rfl⟩
      have m1 : ((f k).length : Int) ≤ 100000 := by omega
      have hrow0 : wo.heap[w.heap.size]? = some (.cells (vals8 (xorPart size k 0 f)).toArray 5) := by rw [xorPart_zero]; exact hrow
      clear hat hrow
      go_wp2_with fail
      go_loopw [20] (fun i wr => ∃ j : Nat, j ≤ (f k).length ∧ i = num j ∧ w.grownBy wr none ∧ wr.heap[w.heap.size]? = some (.cells (vals8 (xorPart size k j f)).toArray 5)) (fun i _ => (f k).length - (intOf i).toNat)
      case atStart => exact ⟨0, Nat.zero_le _, rfl, hg, hrow0⟩
      case round =>
        clear hrow0 d1
        obtain ⟨j, hj, rfl, hg2, hrow⟩ := hrel
        by_cases hjn : j < (f k).length
        · have q2 : (j : Int) < ((f k).length : Int) := by omega
          obtain ⟨g2, off2, rfl, hK2, _, _, hat2⟩ := (d2.kept (.of_grown hg2)).2.at hjn
          have x1' := hat2 j hjn
          simp only [Nat.mul_one] at x1'
          have hjs : j < size := by omega
          have r1 : wr.cell? ⟨w.heap.size, j, none⟩ = some (q8 (nth (xorPart size k j f) j)) := cell_at hrow (by rw [List.getElem?_toArray]; exact vals8_at (by rw [xorPart_len]; exact hjs))
          have r2 := free_at (o := j) hrow
          have hx1 := hall k (by omega) j
          have hx2 := nth_xorPart_lt (n := 8) (size := size) (i := j) hall j
          have e1 := xor_u8 hx2 hx1
          have HX : Hid (∀ wx, wx = wr.setCell ⟨w.heap.size, j, none⟩ (q8 (nth (xorPart size k j f) j ^^^ nth (f k) j)) → w.grownBy wx none ∧ wx.heap[w.heap.size]? = some (.cells (vals8 (xorPart size k (j + 1) f)).toArray 5)) := fun wx hx => by
            subst hx
            refine ⟨grownBy_set hg2 (Nat.le_refl _) _, ?_⟩
            have := setCell_row (i := j) hrow (q8 (nth (xorPart size k j f) j ^^^ nth (f k) j))
            rwa [vals8_set, xorPart_next hjs] at this
          clear hat2 hall hrow
          generalize nth (xorPart size k j f) j = A at r1 e1 HX
          generalize nth (f k) j = X at x1' e1 HX
          go_wp2
          go_roundw
          case rel => exact ⟨j + 1, by omega, by go_num, HX.out _ rfl⟩
          case measure => simp [intOf]; omega
        · obtain rfl : j = (f k).length := by omega
          have q2 : ¬ ((f k).length : Int) < ((f k).length : Int) := by omega
          rw [xorPart_all rfl] at hrow
          have HR : Hid _ := hrow
          have HG : Hid _ := hg2
          clear hrow hg2
          go_wp2
          go_roundw
          case rel => exact ⟨k + 1, by omega, by go_num, HG.out, HR.out⟩
          case measure => simp [intOf]; omega
    · obtain rfl : k = n := by omega
      have q1 : ¬ (k : Int) < (k : Int) := by omega
      have HR : Hid _ := hrow
      clear hrow
      go_wp2
      go_ret
      exact ⟨rfl, hg, HR.out⟩
end Sp
end Go.Proofs.Ytjokedggmhiklaa
