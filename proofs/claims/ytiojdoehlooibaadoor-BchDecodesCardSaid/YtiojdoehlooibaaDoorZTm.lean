/- Times: the product of two polynomials. -/
import Derived.Test.YtiojdoehlooibaaDoorZEv
import Derived.Deep.RegionWith
namespace Go.Proofs.YtiojdoehlooibaaDoor
open Go.RowKit
namespace Gf
/-- A coefficient more at one place. -/
def put (r : List Nat) (k v : Nat) : List Nat := r.set k (nth r k ^^^ v)
/-- A coefficient times a row, laid over r from place i on: the first j of the row. -/
def inner (m a : Nat) (q : List Nat) (i : Nat) (r : List Nat) : Nat → List Nat
  | 0 => r
  | j + 1 => put (inner m a q i r j) (i + j) (mul m a (nth q j))
/-- The first i coefficients' part. -/
def outer (m : Nat) (p q r : List Nat) : Nat → List Nat
  | 0 => r
  | i + 1 => inner m (nth p i) q i (outer m p q r i) q.length
/-- The product of two rows that end with no nought. -/
def tmS (m : Nat) (p q : List Nat) : List Nat := if p = [] ∨ q = [] then [] else outer m p q (List.replicate (p.length + q.length - 1) 0) p.length
theorem put_len (r : List Nat) (k v : Nat) : (put r k v).length = r.length := by simp [put]
theorem inner_len (m a : Nat) (q : List Nat) (i : Nat) (r : List Nat) (j : Nat) : (inner m a q i r j).length = r.length := by
  induction j with
  | zero => rfl
  | succ j ih => rw [inner, put_len, ih]
theorem outer_len (m : Nat) (p q r : List Nat) (i : Nat) : (outer m p q r i).length = r.length := by
  induction i with
  | zero => rfl
  | succ i ih => rw [outer, inner_len, ih]
/-- All of a row are elements. -/
def Els (m : Nat) (l : List Nat) : Prop := ∀ k, nth l k ≤ sz m
theorem Els.put {m : Nat} {r : List Nat} (h : Els m r) (k : Nat) {v : Nat} (hv : v ≤ sz m) : Els m (put r k v) := by
  intro j
  unfold Gf.put nth
  rw [List.getD_eq_getElem?_getD, List.getElem?_set]
  split
  · split
    · exact xor_le (h k) hv
    · exact Nat.zero_le _
  · exact (List.getD_eq_getElem?_getD ▸ h j)
theorem Els.zeros (m n : Nat) : Els m (List.replicate n 0) := by
  intro j
  unfold nth
  rw [List.getD_eq_getElem?_getD, List.getElem?_replicate]
  split <;> simp
theorem Els.inner {m : Nat} (hm : Em m) (a : Nat) (q : List Nat) (i : Nat) {r : List Nat} (h : Els m r) (j : Nat) : Els m (inner m a q i r j) := by
  induction j with
  | zero => exact h
  | succ j ih => exact ih.put _ (mul_le hm _ _)
theorem Els.outer {m : Nat} (hm : Em m) (p q : List Nat) {r : List Nat} (h : Els m r) (i : Nat) : Els m (outer m p q r i) := by
  induction i with
  | zero => exact h
  | succ i ih => exact ih.inner hm _ _ _ _
theorem mem_le {m : Nat} {l : List Nat} (h : ∀ x ∈ l, x ≤ sz m) : Els m l := by
  intro k
  unfold nth
  rw [List.getD_eq_getElem?_getD]
  cases hk : l[k]? with
  | none => simp
  | some x => exact h x (List.mem_of_getElem? hk)
theorem trimN_sub (l : List Nat) : ∀ x ∈ trimN l, x ∈ l := by
  intro x hx
  unfold trimN at hx
  simp only [List.mem_reverse] at hx
  have := (List.dropWhile_sublist _).mem hx
  simpa using this
theorem rowS_els (m : Nat) (xs : List Int) : Els m (rowS m xs) := mem_le fun x hx => by
  have := trimN_sub _ x hx
  simp at this
  obtain ⟨a, _, rfl⟩ := this
  exact el_le m a
/-- trimN cuts at the end alone. -/
theorem trimN_prefix (l : List Nat) : ∃ n, n ≤ l.length ∧ trimN l = l.take n := by
  refine ⟨(trimN l).length, ?_, ?_⟩
  · unfold trimN
    have := (List.dropWhile_sublist (l := l.reverse) (fun x => x == 0)).length_le
    simpa using this
  · have h : l = trimN l ++ (l.reverse.takeWhile (· == 0)).reverse := by
      have := (List.takeWhile_append_dropWhile (p := fun x => x == 0) (l := l.reverse))
      have := congrArg List.reverse this
      simp only [List.reverse_append, List.reverse_reverse] at this
      exact this.symm
    have e : l.take (trimN l).length = (trimN l ++ (l.reverse.takeWhile (· == 0)).reverse).take (trimN l).length := by rw [← h]
    rw [e, List.take_left]
theorem nth_take (l : List Nat) {n k : Nat} (h : k < n) : nth (l.take n) k = nth l k := by
  simp [nth, h]
theorem trimN_nth (l : List Nat) {k : Nat} (h : k < (trimN l).length) : nth (trimN l) k = nth l k := by
  obtain ⟨n, hn, e⟩ := trimN_prefix l
  rw [e] at h ⊢
  simp at h
  exact nth_take l (by omega)
theorem trimN_len (l : List Nat) : (trimN l).length ≤ l.length := by
  obtain ⟨n, hn, e⟩ := trimN_prefix l
  rw [e]; simp; omega
theorem rowS_len (m : Nat) (xs : List Int) : (rowS m xs).length ≤ xs.length := by
  have := trimN_len (xs.map (el m))
  simpa [rowS] using this
theorem vals_at {R : List Nat} {k : Nat} (h : k < R.length) : (vals R)[k]? = some (num (nth R k : Nat)) := by
  simp [vals, h, nth]
theorem row_cell {b : Nat} {w : World} {g m : Nat} {xs : List Int} (h : Own b w g (vals (xs.map (el m)))) {k : Nat} (hk : k < (rowS m xs).length) : w.cell? ⟨g, k, none⟩ = some (num (nth (rowS m xs) k : Nat)) := by
  have hl := trimN_len (xs.map (el m))
  unfold rowS at hk ⊢
  rw [h.cell, trimN_nth _ hk]
  have : k < (xs.map (el m)).length := by omega
  exact vals_at this

/-- What holds while the product is made. -/
structure TmRel (b m : Nat) (w0 wr : World) (g1 g2 g3 : Nat) (A B : List Value) (R : List Nat) : Prop where
  own1 : Own b wr g1 A
  own2 : Own b wr g2 B
  own3 : Own b wr g3 (vals R)
  fld : Fld wr b m
  since : Since b w0 wr
  els : Els m R
theorem TmRel.step {b m : Nat} {w0 wr w' : World} {g1 g2 g3 : Nat} {A B : List Value} {R : List Nat} (h : TmRel b m w0 wr g1 g2 g3 A B R) (hF : Fld w' b m) (hs : Step b wr w') : TmRel b m w0 w' g1 g2 g3 A B R :=
  ⟨h.own1.step hs, h.own2.step hs, h.own3.step hs, hF, h.since.step hs, h.els⟩
theorem Own.other {b : Nat} {w : World} {g g' : Nat} {L : List Value} (h : Own b w g L) (hne : g ≠ g') (hb : g' ≠ b) (i : Nat) (v : Value) : Own b (w.setCell ⟨g', i, none⟩ v) g L :=
  ⟨by rw [setCell_else hne]; exact h.at_, Free.store hb h.free i v⟩
theorem vals_set (R : List Nat) (k v : Nat) : (vals R).set k (num v) = vals (R.set k v) := by
  simp only [vals, List.map_set]
theorem TmRel.store {b m : Nat} {w0 wr : World} {g1 g2 g3 : Nat} {A B : List Value} {R : List Nat} (h : TmRel b m w0 wr g1 g2 g3 A B R) (h3 : w0.heap.size ≤ g3) (h13 : g1 ≠ g3) (h23 : g2 ≠ g3) (k v : Nat) (hv : v ≤ sz m) :
    TmRel b m w0 (wr.setCell ⟨g3, k, none⟩ (num (nth R k ^^^ v : Nat))) g1 g2 g3 A B (put R k v) :=
  ⟨h.own1.other h13 h.own3.free.1 _ _, h.own2.other h23 h.own3.free.1 _ _, by
    have := h.own3.store k (num (nth R k ^^^ v : Nat))
    rw [vals_set] at this; exact this, h.fld.store h.own3.free _ _, h.since.store h3 h.own3.free.1 _ _, h.els.put k hv⟩
theorem vals_zeros (n : Nat) : zs n = vals (List.replicate n 0) := by simp [zs, vals, num]
theorem row_list {m : Nat} {xs : List Int} {k : Nat} (hk : k < (rowS m xs).length) : (vals (xs.map (el m)))[k]? = some (num (nth (rowS m xs) k : Nat)) := by
  have hl := trimN_len (xs.map (el m))
  unfold rowS at hk ⊢
  rw [trimN_nth _ hk]
  exact vals_at (by omega)
set_option maxHeartbeats 1600000 in
theorem times_ok {b m : Nat} {w : World} (h : Fld w b m) (ap aq : Option Addr) (cp cq : Nat) (xs ys : List Int) (hx : Rd b w ap xs) (hy : Rd b w aq ys) (hm : xs.length ≤ 1000000) (hm' : ys.length ≤ 1000000) :
    Calls Tryd.prog 49 #[ptr b, .slice ap xs.length cp, .slice aq ys.length cq] w fun e w' => ∃ v, e = .returned v ∧ Res b w' w.heap.size v (tmS m (rowS m xs) (rowS m ys)) ∧ Fld w' b m ∧ Step b w w' := by
  have hem := h.em
  have hsz := sz_bd hem
  have hP := rowS_len m xs
  have hQ := rowS_len m ys
  have hE1 := rowS_els m xs
  have hE2 := rowS_els m ys
  have hA : ∀ k, k < (rowS m xs).length → (vals (xs.map (el m)))[k]? = some (num (nth (rowS m xs) k : Nat)) := fun k hk => row_list hk
  have hB : ∀ k, k < (rowS m ys).length → (vals (ys.map (el m)))[k]? = some (num (nth (rowS m ys) k : Nat)) := fun k hk => row_list hk
  obtain ⟨P, hPe⟩ : ∃ P, P = rowS m xs := ⟨_, rfl⟩
  obtain ⟨Q, hQe⟩ : ∃ Q, Q = rowS m ys := ⟨_, rfl⟩
  obtain ⟨A, hAe⟩ : ∃ A, A = vals (xs.map (el m)) := ⟨_, rfl⟩
  obtain ⟨B, hBe⟩ : ∃ B, B = vals (ys.map (el m)) := ⟨_, rfl⟩
  rw [← hPe, ← hAe] at hA
  rw [← hQe, ← hBe] at hB
  rw [← hPe] at hP hE1 ⊢
  rw [← hQe] at hQ hE2 ⊢
  have HP : Hid (P = rowS m xs) := hPe
  have HQ : Hid (Q = rowS m ys) := hQe
  have HA : Hid (A = vals (xs.map (el m))) := hAe
  have HB : Hid (B = vals (ys.map (el m))) := hBe
  clear hPe hQe hAe hBe
  obtain ⟨i0, hi, hz0, hz1, hz2⟩ := info_parts Tryd.info3
  go_enter Tryd.func49, Tryd.ntmps49
  go_wp2_with fail
  refine (row_ok h ap cp xs hx (by omega)).mono ?_
  rintro e w1 ⟨rfl, hO1, hF1, hs1⟩
  rw [← HP.out]
  rw [← HA.out] at hO1
  go_wp2_with fail
  refine (row_ok hF1 aq cq ys (hy.step hs1) (by omega)).mono ?_
  rintro e w2 ⟨rfl, hO2, hF2, hs2⟩
  rw [← HQ.out]
  rw [← HB.out] at hO2
  have hO1' := hO1.step hs2
  have hS2 := hs1.trans hs2
  have l1 := hO1.lt
  have l2 := hO2.lt
  clear hO1
  by_cases hp0 : P.length = 0
  · have hp0' : ((P.length : Int) == 0) = true := by simp [hp0]
    have HR : Hid (tmS m P Q = []) := by simp [tmS, List.eq_nil_of_length_eq_zero hp0, Hid]
    clear hp0
    go_wp2
    go_ret
    exact ⟨_, rfl, .inl ⟨rfl, HR.out⟩, hF2, hS2⟩
  have hp0' : ((P.length : Int) == 0) = false := by simp; exact fun e => hp0 (by rw [e]; rfl)
  by_cases hq0 : Q.length = 0
  · have hq0' : ((Q.length : Int) == 0) = true := by simp [hq0]
    have HR : Hid (tmS m P Q = []) := by simp [tmS, List.eq_nil_of_length_eq_zero hq0, Hid]
    clear hq0
    go_wp2
    go_ret
    exact ⟨_, rfl, .inl ⟨rfl, HR.out⟩, hF2, hS2⟩
  have hq0' : ((Q.length : Int) == 0) = false := by simp; exact fun e => hq0 (by rw [e]; rfl)
  have HR : Hid (tmS m P Q = outer m P Q (List.replicate (P.length + Q.length - 1) 0) P.length) := by
    have a : ¬ P = [] := fun e => hp0 (by rw [e]; rfl)
    have b : ¬ Q = [] := fun e => hq0 (by rw [e]; rfl)
    simp [tmS, a, b, Hid]
  have hT0 : TmRel b m w (w2.alloc (.cells (zs (P.length + Q.length - 1)).toArray 3)) w.heap.size w1.heap.size w2.heap.size A B (List.replicate (P.length + Q.length - 1) 0) := by
    have hst := Step.alloc hF2 (.cells (zs (P.length + Q.length - 1)).toArray 3)
    exact ⟨hO1'.step hst, hO2.step hst, by rw [← vals_zeros]; exact Own.new hF2 _, hF2.alloc _, (Since.refl _ _).step (hS2.trans hst), Els.zeros _ _⟩
  obtain ⟨Z, hZ⟩ : ∃ Z, Z = List.replicate (P.length + Q.length - 1) 0 := ⟨_, rfl⟩
  have hZl : Z.length = P.length + Q.length - 1 := by rw [hZ]; simp
  rw [← hZ] at HR hT0
  clear hZ hO1' hO2 hF2 hS2 hF1 hs1 hs2 HP HQ HA HB hx hy
  go_wp2_with (first | (at_make; go_must (refine wpList_make_own0 _ rfl _ _ 27 rfl 3 i0 Tryd.underlying27 hi hz0 hz1 hz2 .i64 .i64 _ _ (P.length + Q.length - 1) rfl rfl (by omega) (by omega) (by omega) ?_)))
  go_loopw [35] (fun c wr => ∃ i : Nat, i ≤ P.length ∧ c = num i ∧ TmRel b m w wr w.heap.size w1.heap.size w2.heap.size A B (outer m P Q Z i)) (fun c _ => P.length - (intOf c).toNat)
  case atStart => exact ⟨0, Nat.zero_le _, rfl, hT0⟩
  case round =>
    obtain ⟨i, hii, rfl, hT⟩ := hrel
    by_cases hlt : i < P.length
    · have ci : wr.cell? ⟨w.heap.size, i, none⟩ = some (num (nth P i : Nat)) := by rw [hT.own1.cell, hA i hlt]
      have ai := hE1 i
      go_wp2_with fail
      go_loopw [42] (fun c ws => ∃ j : Nat, j ≤ Q.length ∧ c = num j ∧ TmRel b m w ws w.heap.size w1.heap.size w2.heap.size A B (inner m (nth P i) Q i (outer m P Q Z i) j)) (fun c _ => Q.length - (intOf c).toNat)
      case atStart => exact ⟨0, Nat.zero_le _, rfl, hT⟩
      case round =>
        obtain ⟨j, hj, rfl, hT2⟩ := hrel
        have hRl : (inner m (nth P i) Q i (outer m P Q Z i) j).length = P.length + Q.length - 1 := by rw [inner_len, outer_len, hZl]
        have HI : Hid (inner m (nth P i) Q i (outer m P Q Z i) (j + 1) = put (inner m (nth P i) Q i (outer m P Q Z i) j) (i + j) (mul m (nth P i) (nth Q j))) := rfl
        have HO : Hid (outer m P Q Z (i + 1) = inner m (nth P i) Q i (outer m P Q Z i) Q.length) := rfl
        by_cases hjl : j < Q.length
        · obtain ⟨R, hR⟩ : ∃ R, R = inner m (nth P i) Q i (outer m P Q Z i) j := ⟨_, rfl⟩
          rw [← hR] at hRl HI hT2
          clear hR
          have aj := hE2 j
          have ar := hT2.els (i + j)
          have mle := mul_le hem (nth P i) (nth Q j)
          have cj : wr.cell? ⟨w1.heap.size, j, none⟩ = some (num (nth Q j : Nat)) := by rw [hT2.own2.cell, hB j hjl]
          have cr : wr.cell? ⟨w2.heap.size, i + j, none⟩ = some (num (nth R (i + j) : Nat)) := by rw [hT2.own3.cell, vals_at (by omega)]
          have zr : wr.frozen? ⟨w2.heap.size, i + j, none⟩ = false := hT2.own3.frozen _
          have hwr : IntKind.i64.wrap ((i : Int) + (j : Int)) = (i : Int) + (j : Int) := by rw [IntKind.wrap_i64]; omega
          have hxo : bits .xor .i64 (nth R (i + j) : Int) (mul m (el m (nth P i : Int)) (el m (nth Q j : Int)) : Int) = ((nth R (i + j) ^^^ mul m (nth P i) (nth Q j) : Nat) : Int) := by
            rw [el_of ai, el_of aj]; exact xor_i64 _ _ (by omega) (by omega)
          have b1 : (i : Int) + (j : Int) < ((P.length + Q.length - 1 : Nat) : Int) := by omega
          have b2 : (0 : Int) ≤ (i : Int) + (j : Int) := by omega
          have b3 : ((i : Int) + (j : Int)).toNat = i + j := by omega
          go_wp2_with fail
          go_region_with (go_at_call 67; refine (mul_ok hT2.fld.drew _ _).mono ?_; rintro e w4 ⟨rfl, hF4, hs4⟩; have hT4 := hT2.step hF4 ((Step.refl b wr).drew.trans hs4); have c4 : w4.cell? ⟨w2.heap.size, i + j, none⟩ = some (num (nth R (i + j) : Nat)) := (by rw [hT4.own3.cell, vals_at (by omega)]); have z4 : w4.frozen? ⟨w2.heap.size, i + j, none⟩ = false := hT4.own3.frozen _)
          all_goals
            have hN := hT4.store (by omega) (by omega) (by omega) (i + j) (mul m (nth P i) (nth Q j)) mle
            go_wp2
            go_roundw
            case rel => exact ⟨j + 1, by omega, by go_num, by rw [HI.out]; exact hN⟩
            case measure => simp [intOf]; omega
        · obtain rfl : j = Q.length := by omega
          go_wp2_with fail
          go_roundw
          case rel => exact ⟨i + 1, by omega, by go_num, by rw [HO.out]; exact hT2⟩
          case measure => simp [intOf]; omega
    · obtain rfl : i = P.length := by omega
      have hol : (outer m P Q Z P.length).length = P.length + Q.length - 1 := by rw [outer_len, hZl]
      have hfin : Res b wr w.heap.size (.slice (some ⟨w2.heap.size, 0, none⟩) (P.length + Q.length - 1) (P.length + Q.length - 1)) (tmS m P Q) := by
        rw [HR.out]
        refine .inr ⟨w2.heap.size, _, by rw [vals_len, hol], hT.own3, ?_, by rw [vals_len]; exact Nat.le_refl _, by omega⟩
        rw [← vals_len, List.take_length]
      have HF : Hid _ := hfin
      clear hfin
      go_wp2_with fail
      go_ret
      exact ⟨_, rfl, HF.out, hT.fld, hT.since.toStep⟩
end Gf
end Go.Proofs.YtiojdoehlooibaaDoor
