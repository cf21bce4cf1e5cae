/- Rows of numbers in memory: what may be read, what a call made; trim, row, Eval. -/
import Derived.Test.YtiojdoehlooibaaDoorZNum
namespace Go.Proofs.YtiojdoehlooibaaDoor
open Go.RowKit
namespace Gf
/-- The number at a place; 0 where there is none. -/
def nth (l : List Nat) (k : Nat) : Nat := l.getD k 0
def nthI (l : List Int) (k : Nat) : Int := l.getD k 0
theorem nth_of {l : List Nat} {k : Nat} (h : k < l.length) : nth l k = l[k] := by simp [nth, h]
theorem nthI_of {l : List Int} {k : Nat} (h : k < l.length) : nthI l k = l[k] := by simp [nthI, h]
/-- A slice of numbers that can be read, and is none of the field's. -/
def Rd (b : Nat) (w : World) (ao : Option Addr) (xs : List Int) : Prop :=
  xs = [] ∨ ∃ g off, ao = some ⟨g, off, none⟩ ∧ g ≠ b ∧ ∀ i, i < xs.length → w.cell? ⟨g, off + i, none⟩ = some (num (nthI xs i))
theorem Rd.step {b : Nat} {w w' : World} {ao : Option Addr} {xs : List Int} (h : Rd b w ao xs) (hs : Step b w w') : Rd b w' ao xs := by
  rcases h with h | ⟨g, off, h1, h2, h3⟩
  · exact .inl h
  · by_cases hx : xs = []
    · exact .inl hx
    · refine .inr ⟨g, off, h1, h2, fun i hi => ?_⟩
      rw [hs.cell (lt_of_cell (h3 i hi)) h2]; exact h3 i hi
/-- A row whose whole block is known. -/
structure Own (b : Nat) (w : World) (g : Nat) (L : List Value) : Prop where
  at_ : w.heap[g]? = some (.cells L.toArray 3)
  free : Free w b g
theorem Own.lt {b : Nat} {w : World} {g : Nat} {L : List Value} (h : Own b w g L) : g < w.heap.size := lt_of_heap h.at_
theorem Own.step {b : Nat} {w w' : World} {g : Nat} {L : List Value} (h : Own b w g L) (hs : Step b w w') : Own b w' g L :=
  ⟨by rw [hs.heap h.lt h.free.1]; exact h.at_, hs.free g h.lt h.free⟩
theorem Own.drewN {b : Nat} {w : World} {g : Nat} {L : List Value} (h : Own b w g L) (n : Nat) : Own b (w.drewN n) g L := ⟨h.at_, h.free⟩
theorem Own.cell {b : Nat} {w : World} {g : Nat} {L : List Value} (h : Own b w g L) (i : Nat) : w.cell? ⟨g, i, none⟩ = L[i]? := cell_row h.at_
theorem Own.frozen {b : Nat} {w : World} {g : Nat} {L : List Value} (h : Own b w g L) (i : Nat) : w.frozen? ⟨g, i, none⟩ = false := frozen_row h.at_
/-- A store into a row of one's own. -/
theorem Own.store {b : Nat} {w : World} {g : Nat} {L : List Value} (h : Own b w g L) (i : Nat) (v : Value) : Own b (w.setCell ⟨g, i, none⟩ v) g (L.set i v) :=
  ⟨setCell_row h.at_ v, h.free.of_block (setCell_else h.free.1.symm v)⟩
theorem grown_setCell (w : World) (g i : Nat) (v : Value) : w.grownBy (w.setCell ⟨g, i, none⟩ v) (some g) := grownBy_setCell (World.grownBy.refl _ _) (.inr rfl) v
theorem Fld.store {b m : Nat} {w : World} {g : Nat} (h : Fld w b m) (hf : Free w b g) (i : Nat) (v : Value) : Fld (w.setCell ⟨g, i, none⟩ v) b m := h.kept (grown_setCell w g i v) hf
theorem Free.store {b : Nat} {w : World} {g r : Nat} (hg : g ≠ b) (hf : Free w b r) (i : Nat) (v : Value) : Free (w.setCell ⟨g, i, none⟩ v) b r := hf.of_block (setCell_else hg.symm v)
/-- What was there at the beginning and is none of the field's stays, while the field, and blocks that came since, are written. -/
structure Since (b : Nat) (w0 w : World) : Prop where
  grown : w0.grownBy w (some b)
  free : ∀ r, r < w0.heap.size → Free w0 b r → Free w b r
theorem Since.step {b : Nat} {w0 w w' : World} (h : Since b w0 w) (hs : Step b w w') : Since b w0 w' := by
  have := (show Step b w0 w from ⟨h.grown, h.free⟩).trans hs
  exact ⟨this.grown, this.free⟩
theorem Since.refl (b : Nat) (w : World) : Since b w w := ⟨World.grownBy.refl _ _, fun _ _ h => h⟩
theorem Since.toStep {b : Nat} {w0 w : World} (h : Since b w0 w) : Step b w0 w := ⟨h.grown, h.free⟩
theorem Since.store {b : Nat} {w0 w : World} (h : Since b w0 w) {g : Nat} (hg : w0.heap.size ≤ g) (hb : g ≠ b) (i : Nat) (v : Value) : Since b w0 (w.setCell ⟨g, i, none⟩ v) :=
  ⟨grownBy_setCell h.grown (.inl hg) v, fun r hr hf => Free.store hb (h.free r hr hf) i v⟩
theorem Step.alloc {b m : Nat} {w : World} (h : Fld w b m) (o : Obj) : Step b w (w.alloc o) := h.step_more (World.grownBy_alloc w o none)
theorem Own.new {b m : Nat} {w : World} (h : Fld w b m) (L : List Value) : Own b (w.alloc (.cells L.toArray 3)) w.heap.size L :=
  ⟨heap_alloc_new w _, (h.free_new (Nat.le_refl _)).of_block (Below.heap_alloc _ _ _ h.lt)⟩

/-- Natural numbers as a row of memory holds them. -/
def vals (xs : List Nat) : List Value := xs.map fun n => num (n : Nat)
theorem vals_len (xs : List Nat) : (vals xs).length = xs.length := by simp [vals]
/-- What a call hands back: nil, or a row of its own whose first numbers are these. -/
def Res (b : Nat) (w : World) (B : Nat) (v : Value) (xs : List Nat) : Prop :=
  (v = .slice none 0 0 ∧ xs = []) ∨ ∃ g L, v = .slice (some ⟨g, 0, none⟩) xs.length L.length ∧ Own b w g L ∧ L.take xs.length = vals xs ∧ xs.length ≤ L.length ∧ B ≤ g
theorem Res.step {b : Nat} {w w' : World} {B : Nat} {v : Value} {xs : List Nat} (h : Res b w B v xs) (hs : Step b w w') : Res b w' B v xs := by
  rcases h with h | ⟨g, L, h1, h2, h3⟩
  · exact .inl h
  · exact .inr ⟨g, L, h1, h2.step hs, h3⟩
def ints (xs : List Nat) : List Int := xs.map fun n : Nat => (n : Int)
theorem ints_len (xs : List Nat) : (ints xs).length = xs.length := by simp [ints]
theorem ints_getD (xs : List Nat) (i : Nat) : nthI (ints xs) i = ((nth xs i : Nat) : Int) := by
  simp only [ints, nth, nthI, List.getD_eq_getElem?_getD, List.getElem?_map]
  cases xs[i]? <;> rfl
theorem take_cell {L : List Value} {xs : List Nat} (h : L.take xs.length = vals xs) (i : Nat) (hi : i < xs.length) : L[i]? = some (num (nth xs i : Nat)) := by
  have : (L.take xs.length)[i]? = L[i]? := by rw [List.getElem?_take, if_pos hi]
  rw [← this, h]
  simp [vals, nth, hi]
theorem Res.rd {b : Nat} {w : World} {B : Nat} {v : Value} {xs : List Nat} (h : Res b w B v xs) : ∃ ao cap, v = .slice ao (ints xs).length cap ∧ Rd b w ao (ints xs) := by
  rcases h with ⟨rfl, rfl⟩ | ⟨g, L, h1, h2, h3, h4, _⟩
  · exact ⟨none, 0, rfl, .inl rfl⟩
  · refine ⟨_, _, by rw [ints_len]; exact h1, .inr ⟨g, 0, rfl, h2.free.1, fun i hi => ?_⟩⟩
    rw [ints_len] at hi
    rw [Nat.zero_add, h2.cell, take_cell h3 i hi, ints_getD]

theorem ret_slice {a : Option Addr} {n n' c : Nat} (h : n = n') : Ending.returned (.slice a n c) = .returned (.slice a n' c) := by rw [h]
/-- Without noughts at its end. -/
def trimN (l : List Nat) : List Nat := (l.reverse.dropWhile (· == 0)).reverse
theorem trimN_nil : trimN [] = [] := rfl
theorem trimN_snoc (l : List Nat) (a : Nat) : trimN (l ++ [a]) = if a = 0 then trimN l else l ++ [a] := by
  unfold trimN
  by_cases h : a = 0 <;> simp [h]
theorem take_snoc' {l : List Nat} {k : Nat} (h : k < l.length) : l.take (k + 1) = l.take k ++ [nth l k] := by
  rw [List.take_succ_eq_append_getElem h]; simp [nth, h]
theorem trim_zero {l : List Nat} {k : Nat} (h : k < l.length) (h0 : nth l k = 0) : trimN (l.take (k + 1)) = trimN (l.take k) := by
  rw [take_snoc' h, trimN_snoc, if_pos h0]
theorem trim_stop {l : List Nat} {k : Nat} (h : k < l.length) (h0 : nth l k ≠ 0) : trimN (l.take (k + 1)) = l.take (k + 1) := by
  rw [take_snoc' h, trimN_snoc, if_neg h0]
set_option maxHeartbeats 400000 in
/-- trim of a row of one's own. -/
theorem trim_ok {b : Nat} {w : World} {g : Nat} (l : List Nat) (L : List Value) (h : Own b w g L) (hl : L.take l.length = vals l) (hlen : l.length ≤ L.length) (hm : l.length ≤ 35184372088832) :
    Calls Tryd.prog 83 #[.slice (some ⟨g, 0, none⟩) l.length L.length] w fun e w' => e = .returned (.slice (some ⟨g, 0, none⟩) (trimN l).length L.length) ∧ w' = w := by
  have hc : ∀ k, k < l.length → w.cell? ⟨g, k, none⟩ = some (num (nth l k : Nat)) := fun k hk => by rw [h.cell, take_cell hl k hk]
  go_enter Tryd.func83, Tryd.ntmps83
  go_wp2
  go_loop [0] (fun v => ∃ k : Nat, k ≤ l.length ∧ v = .slice (some ⟨g, 0, none⟩) k L.length ∧ trimN (l.take k) = trimN l) (fun v => lenOf v)
  case atStart => exact ⟨l.length, Nat.le_refl _, rfl, by rw [List.take_length]⟩
  case round =>
    obtain ⟨k, hk, rfl, ht⟩ := hrel
    have HT : Hid _ := ht
    clear ht
    cases k with
    | zero =>
      go_wp2
      go_ret
      exact ⟨by rw [← HT.out]; simp [trimN], rfl⟩
    | succ k =>
      have hck : w.cell? ⟨g, k, none⟩ = some (num (nth l k : Nat)) := hc k (by omega)
      by_cases h0 : nth l k = 0
      · have h0' : (((nth l k : Nat) : Int) == 0) = true := by rw [h0]; rfl
        have HZ : Hid _ := trim_zero (show k < l.length by omega) h0
        clear h0 hc
        go_wp2
        go_round
        case rel => exact ⟨k, by omega, rfl, HZ.out.symm.trans HT.out⟩
        case measure => simp [lenOf]
      · have h0' : (((nth l k : Nat) : Int) == 0) = false := by simpa using h0
        have HZ : Hid _ := trim_stop (show k < l.length by omega) h0
        clear h0 hc
        go_wp2
        go_ret
        exact ⟨ret_slice (by rw [← HT.out, HZ.out, List.length_take, Nat.min_eq_left hk]), rfl⟩
/-- The row while it is made: the first k are elements. -/
def mix (m : Nat) (xs : List Int) (k : Nat) : List Value := (xs.take k).map (fun x => num (el m x : Nat)) ++ (xs.drop k).map num
theorem mix_len (m : Nat) (xs : List Int) (k : Nat) : (mix m xs k).length = xs.length := by simp [mix]; omega
theorem mix_zero (m : Nat) (xs : List Int) : mix m xs 0 = xs.map num := by simp [mix]
theorem mix_end (m : Nat) (xs : List Int) : mix m xs xs.length = vals (xs.map (el m)) := by simp [mix, vals]
theorem mix_at (m : Nat) (xs : List Int) {k : Nat} (h : k < xs.length) : (mix m xs k)[k]? = some (num (nthI xs k)) := by
  simp [mix, List.getElem?_append_right, nthI, h, Nat.min_eq_left (Nat.le_of_lt h)]
theorem mix_set (m : Nat) (xs : List Int) {k : Nat} (h : k < xs.length) : (mix m xs k).set k (num (el m (nthI xs k) : Nat)) = mix m xs (k + 1) := by
  apply List.ext_getElem?
  intro j
  by_cases e : j = k
  · subst e
    rw [List.getElem?_set_self (by rw [mix_len]; omega)]
    simp only [mix]
    rw [List.getElem?_append_left (by simp; omega)]
    simp [nthI, h]
  · rw [List.getElem?_set_ne (by omega)]
    by_cases hj : j < k
    · simp only [mix]
      rw [List.getElem?_append_left (by simp; omega), List.getElem?_append_left (by simp; omega)]
      simp [hj, show j < k + 1 by omega]
    · simp only [mix]
      rw [List.getElem?_append_right (by simp; omega), List.getElem?_append_right (by simp; omega)]
      simp [Nat.min_eq_left (show k ≤ xs.length by omega), Nat.min_eq_left (show k + 1 ≤ xs.length by omega), List.getElem?_drop]
      rw [show k + (j - k) = j by omega, show k + 1 + (j - (k + 1)) = j by omega]
theorem splice_all (n : Nat) (X : List Value) (h : X.length = n) : splice (zs n) 0 X = X := by
  simp only [splice]
  rw [List.drop_eq_nil_of_le (by simp [zs_len, h])]
  simp
theorem Rd.src {b : Nat} {w : World} {ao : Option Addr} {xs : List Int} (h : Rd b w ao xs) : 0 < (xs.map num).length → ∃ ad, ao = some ad ∧ ∀ j v, (xs.map num)[j]? = some v → w.cell? (ad.add j) = some v := by
  intro hp
  rcases h with rfl | ⟨g, off, rfl, _, h3⟩
  · simp at hp
  · refine ⟨_, rfl, fun j v hv => ?_⟩
    have hj : j < xs.length := by
      rcases Nat.lt_or_ge j xs.length with h | h
      · exact h
      · rw [List.getElem?_eq_none (by simpa using h)] at hv; cases hv
    have e : (⟨g, off, none⟩ : Addr).add j = ⟨g, off + j, none⟩ := by unfold Addr.add; split <;> simp_all
    rw [e, h3 j hj]
    simp [hj] at hv
    rw [nthI_of hj, ← hv]
theorem made_row {w w2 : World} {O : Obj} (hb : Below w.heap.size (w.alloc O) w2) : w.grownBy w2 none :=
  ⟨hb.os, hb.tape, hb.output, by have := hb.size; simp at this; omega, fun k hk _ => (hb.block k hk).trans (Below.heap_alloc _ _ _ hk)⟩
/-- A row as it is answered. -/
def rowS (m : Nat) (xs : List Int) : List Nat := trimN (xs.map (el m))
set_option maxHeartbeats 800000 in
theorem row_ok {b m : Nat} {w : World} (h : Fld w b m) (ao : Option Addr) (cap : Nat) (xs : List Int) (hx : Rd b w ao xs) (hm : xs.length ≤ 35184372088832) :
    Calls Tryd.prog 72 #[ptr b, .slice ao xs.length cap] w fun e w' => e = .returned (.slice (some ⟨w.heap.size, 0, none⟩) (rowS m xs).length xs.length) ∧
      Own b w' w.heap.size (vals (xs.map (el m))) ∧ Fld w' b m ∧ Step b w w' := by
  obtain ⟨i0, hi, hz0, hz1, hz2⟩ := info_parts Tryd.info3
  have hS1 : Step b w (w.alloc (.cells (zs xs.length).toArray 3)) := Step.alloc h _
  have hO1 : Own b (w.alloc (.cells (zs xs.length).toArray 3)) w.heap.size (zs xs.length) := Own.new h _
  have hF1 : Fld (w.alloc (.cells (zs xs.length).toArray 3)) b m := h.alloc _
  have hX1 := hx.step hS1
  obtain ⟨X, hX⟩ : ∃ X : List Value, X = xs.map num := ⟨_, rfl⟩
  have hXl : X.length = xs.length := by rw [hX]; simp
  have hXo : ∀ v ∈ X, v.oneCell' = true := by rw [hX]; exact ints_oneCell _ _
  have HS : Hid (0 < X.length → ∃ ad, ao = some ad ∧ ∀ j v, X[j]? = some v → (w.alloc (.cells (zs xs.length).toArray 3)).cell? (ad.add j) = some v) := by rw [hX]; exact hX1.src
  have HX : Hid (X = xs.map num) := hX
  clear hX
  go_enter Tryd.func72, Tryd.ntmps72
  go_wp2_with (first | (at_make; go_must (refine wpList_make_own0 _ rfl _ _ 27 rfl 3 i0 Tryd.underlying27 hi hz0 hz1 hz2 .i64 .i64 _ _ xs.length rfl rfl (by omega) (by omega) (by omega) ?_)) | ((refine wpList_copy_splice rfl (.tmp 11) (.tmp 12) 27 27 rfl 3 Tryd.underlying27 Tryd.one3 _ _ _ _ _ _ rfl rfl w.heap.size 0 (zs xs.length) 3 (by exact hO1.at_) X (by rw [hXl]; exact (Nat.min_self _).symm) (fun hp => ⟨rfl, HS.out hp⟩) (by rw [hXl, zs_len]; omega) hXo w.heap.size _ (Below.refl _ _) (Nat.le_refl _) ?_; intro w2 hg2 hb2)))
  have hgr := made_row hb2
  have hF2 : Fld w2 b m := h.more hgr
  have hO2 : Own b w2 w.heap.size (mix m xs 0) := ⟨by rw [hg2.out, splice_all _ _ hXl, HX.out, mix_zero], (h.free_new (Nat.le_refl _)).of_block (hgr.block b h.lt (by simp))⟩
  have hI2 : Since b w w2 := ⟨grownBy_some _ hgr, fun r _ hf => hf.of_block (hgr.block b h.lt (by simp))⟩
  have hgb : w.heap.size ≠ b := (h.free_new (Nat.le_refl _)).1
  clear hg2 hb2 hgr HS HX hX1 hF1 hO1 hS1 hx hXo hXl
  go_loopw [16] (fun i wr => ∃ k : Nat, k ≤ xs.length ∧ i = num k ∧ Own b wr w.heap.size (mix m xs k) ∧ Fld wr b m ∧ Since b w wr) (fun i _ => xs.length - (intOf i).toNat)
  case atStart => exact ⟨0, Nat.zero_le _, rfl, hO2, hF2, hI2⟩
  case round =>
    obtain ⟨k, hk, rfl, hO, hF, hI⟩ := hrel
    by_cases hlt : k < xs.length
    · have ck : wr.cell? ⟨w.heap.size, k, none⟩ = some (num (nthI xs k)) := by rw [hO.cell, mix_at m xs hlt]
      have zk : wr.frozen? ⟨w.heap.size, k, none⟩ = false := hO.frozen k
      have hN : Own b (wr.setCell ⟨w.heap.size, k, none⟩ (num (el m (nthI xs k) : Nat))) w.heap.size (mix m xs (k + 1)) := by
        rw [← mix_set m xs hlt]; exact hO.store k _
      have hF' := hF.store hO.free k (num (el m (nthI xs k) : Nat))
      have hI' := hI.store (Nat.le_refl _) hgb k (num (el m (nthI xs k) : Nat))
      go_wp2_with (go_at_call 76; refine (element_ok hF _).mono ?_; rintro e w' ⟨rfl, rfl⟩)
      go_roundw
      case rel => exact ⟨k + 1, by omega, by go_num, hN, hF', hI'⟩
      case measure => simp [intOf]; omega
    · obtain rfl : k = xs.length := by omega
      rw [mix_end] at hO
      have htr := trim_ok (xs.map (el m)) _ hO (by rw [← vals_len, List.take_length]) (by rw [vals_len]; exact Nat.le_refl _) (by simpa using hm)
      simp only [List.length_map, vals_len] at htr
      have HTr : Hid (Calls Tryd.prog 83 #[.slice (some ⟨w.heap.size, 0, none⟩) xs.length xs.length] wr _) := htr
      clear htr
      go_wp2_with (go_at_call 83; refine HTr.out.mono ?_; rintro e w' ⟨rfl, rfl⟩)
      go_ret
      exact ⟨rfl, hO, hF, hI.toStep⟩
end Gf
end Go.Proofs.YtiojdoehlooibaaDoor
