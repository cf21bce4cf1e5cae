/- The document's own answers over rows: Eval, Trim, Times. -/
import Derived.Test.YtiojdoehlooibaaDoorZRef
import Derived.Test.YtiojdoehlooibaaDoorZPa
import Derived.Deep.RegionWith
namespace Go.Proofs.YtiojdoehlooibaaDoor
open Go.RowKit
namespace Gf
theorem Rd.more {b : Nat} {w w' : World} {ao : Option Addr} {xs : List Int} (h : Rd b w ao xs) (hg : w.grownBy w' none) : Rd b w' ao xs := by
  rcases h with h | ⟨g, off, h1, h2, h3⟩
  · exact .inl h
  · refine .inr ⟨g, off, h1, h2, fun i hi => ?_⟩
    rw [World.cell?_of_block (w := w) (a := ⟨g, off + i, none⟩) (hg.block g (lt_of_cell (h3 i hi)) (by simp))]
    exact h3 i hi
/-- What a call hands back, as far as nobody writes to it. -/
def Got (w : World) (B : Nat) (v : Value) (xs : List Nat) : Prop :=
  (v = .slice none 0 0 ∧ xs = []) ∨ ∃ g L, v = .slice (some ⟨g, 0, none⟩) xs.length (List.length L) ∧ w.heap[g]? = some (.cells L.toArray 3) ∧ L.take xs.length = vals xs ∧ xs.length ≤ L.length ∧ B ≤ g
theorem Got.more {w w' : World} {B : Nat} {v : Value} {xs : List Nat} (h : Got w B v xs) (hg : w.grownBy w' none) : Got w' B v xs := by
  rcases h with h | ⟨g, L, h1, h2, h3⟩
  · exact .inl h
  · exact .inr ⟨g, L, h1, by rw [hg.block g (lt_of_heap h2) (by simp)]; exact h2, h3⟩
theorem Got.rd {w : World} {B : Nat} {v : Value} {xs : List Nat} (h : Got w B v xs) {b : Nat} (hb : b < B) : ∃ ao cap, v = .slice ao (ints xs).length cap ∧ Rd b w ao (ints xs) := by
  rcases h with ⟨rfl, rfl⟩ | ⟨g, L, h1, h2, h3, h4, h5⟩
  · exact ⟨none, 0, rfl, .inl rfl⟩
  · refine ⟨_, _, by rw [ints_len]; exact h1, .inr ⟨g, 0, rfl, by omega, fun i hi => ?_⟩⟩
    rw [ints_len] at hi
    rw [Nat.zero_add, cell_row h2, take_cell h3 i hi, ints_getD]
theorem evS_take {m x : Nat} (h : Em m) (hx : x ≤ sz m) (p : List Int) {k : Nat} (hk : k < p.length) : evS m x (p.take (k + 1)) = evS m x (p.take k) ^^^ mul m (el m (nthI p k)) (px m x k) := by
  have e1 : (p.take (k + 1)).map (el m) = (p.map (el m)).take (k + 1) := by simp
  have e2 : (p.take k).map (el m) = (p.map (el m)).take k := by simp
  rw [evS_els, evS_els, e1, e2, ev_take_succ h hx (els_map m p) (by simpa using hk)]
  congr 2
  rw [nth_of (by simpa using hk), nthI_of hk]
  simp
set_option maxHeartbeats 800000 in
theorem rEval_ok {b m : Nat} (hm : Em m) {w : World} (ao : Option Addr) (cap : Nat) (xs : List Int) (x : Int) (hx : Rd b w ao xs) (hl : xs.length ≤ 1000000) :
    Calls Tryd.prog 53 #[num m, .slice ao xs.length cap, num x] w fun e w' => e = .returned (num (evS m (el m x) xs)) ∧ w' = w := by
  have hz := sz_bd hm
  have hX := el_le m x
  obtain ⟨X, hXe⟩ : ∃ X, X = el m x := ⟨_, rfl⟩
  have HX : Hid (el m x = X) := hXe.symm
  rw [← hXe] at hX ⊢
  clear hXe
  go_enter Tryd.func53, Tryd.ntmps53
  go_wp2_with fail
  go_loopw [7, 8, 9] (fun y p c wr => ∃ k : Nat, k ≤ xs.length ∧ c = num k ∧ y = num (evS m X (xs.take k)) ∧ p = num (px m X k) ∧ wr = w) (fun _ _ c _ => xs.length - (intOf c).toNat)
  case atStart => exact ⟨0, Nat.zero_le _, rfl, rfl, rfl, rfl⟩
  case round =>
    obtain ⟨k, hk, rfl, rfl, rfl, rfl⟩ := hrel
    by_cases hlt : k < xs.length
    · obtain ⟨g, off, rfl, -, hc⟩ := hx.resolve_left (fun e => by rw [e] at hlt; simp at hlt)
      have ck := hc k hlt
      have HE : Hid _ := evS_take hm hX xs hlt
      have l1 := evS_le hm X (xs.take k)
      have l2 := px_le hm X k
      have l3 := mul_le hm (el m (nthI xs k)) (px m X k)
      have HP : Hid (el m (px m X k : Int) = px m X k) := el_of l2
      have HP2 : Hid (px m X (k + 1) = mul m (px m X k) X) := rfl
      have hxo : bits .xor .i64 (evS m X (xs.take k) : Int) (mul m (el m (nthI xs k)) (px m X k) : Int) = ((evS m X (xs.take k) ^^^ mul m (el m (nthI xs k)) (px m X k) : Nat) : Int) := xor_i64 _ _ (by omega) (by omega)
      clear hc
      go_wp2_with fail
      refine (rMul_ok hm _ _ _).mono ?_
      rintro e w1 ⟨rfl, rfl⟩
      rw [HP.out]
      go_wp2_with fail
      refine (rMul_ok hm _ _ _).mono ?_
      rintro e w1 ⟨rfl, rfl⟩
      rw [HP.out, HX.out]
      go_wp2_with fail
      go_roundw
      case rel => exact ⟨k + 1, by omega, by go_num, by rw [HE.out], by rw [HP2.out], by first | rfl | trivial⟩
      case measure => simp [intOf]; omega
    · obtain rfl : k = xs.length := by omega
      have HT : Hid (xs.take xs.length = xs) := List.take_length
      go_wp2_with fail
      go_ret
      exact ⟨ret_int (by rw [HT.out]), rfl⟩
set_option maxHeartbeats 400000 in
theorem rTrim_ok {w : World} {g : Nat} (l : List Nat) (L : List Value) (h : w.heap[g]? = some (.cells L.toArray 3)) (hl : L.take l.length = vals l) (hlen : l.length ≤ L.length) (hm : l.length ≤ 1000000) :
    Calls Tryd.prog 75 #[.slice (some ⟨g, 0, none⟩) l.length L.length] w fun e w' => e = .returned (.slice (some ⟨g, 0, none⟩) (trimN l).length L.length) ∧ w' = w := by
  have hc : ∀ k, k < l.length → w.cell? ⟨g, k, none⟩ = some (num (nth l k : Nat)) := fun k hk => by rw [cell_row h, take_cell hl k hk]
  have HH : Hid _ := h
  clear h hl
  go_enter Tryd.func75, Tryd.ntmps75
  go_wp2_with fail
  go_loop [3] (fun v => ∃ k : Nat, k ≤ l.length ∧ v = num k ∧ trimN (l.take k) = trimN l) (fun v => (intOf v).toNat)
  case atStart => exact ⟨l.length, Nat.le_refl _, rfl, by rw [List.take_length]⟩
  case round =>
    obtain ⟨k, hk, rfl, ht⟩ := hrel
    have HT : Hid _ := ht
    clear ht
    cases k with
    | zero =>
      have HZ : Hid ((trimN l).length = 0) := by rw [← HT.out]; simp [trimN, Hid]
      go_wp2_with fail
      go_ret
      exact ⟨ret_slice HZ.out.symm, rfl⟩
    | succ k =>
      have hck : w.cell? ⟨g, k, none⟩ = some (num (nth l k : Nat)) := hc k (by omega)
      by_cases h0 : nth l k = 0
      · have h0' : (((nth l k : Nat) : Int) == 0) = true := by rw [h0]; rfl
        have HZ : Hid _ := trim_zero (show k < l.length by omega) h0
        clear h0 hc
        go_wp2_with fail
        go_round
        case rel => exact ⟨k, by omega, by go_num, HZ.out.symm.trans HT.out⟩
        case measure => simp [intOf]
      · have h0' : (((nth l k : Nat) : Int) == 0) = false := by simpa using h0
        have HZ : Hid _ := trim_stop (show k < l.length by omega) h0
        have HF : Hid (k + 1 = (trimN l).length) := by rw [← HT.out, HZ.out, List.length_take, Nat.min_eq_left hk]; rfl
        clear h0 hc
        go_wp2_with fail
        go_ret
        exact ⟨ret_slice HF.out, rfl⟩
set_option maxHeartbeats 400000 in
theorem rTrim_nil (w : World) : Calls Tryd.prog 75 #[.slice none 0 0] w fun e w' => e = .returned (.slice none 0 0) ∧ w' = w := by
  go_enter Tryd.func75, Tryd.ntmps75
  go_wp2_with fail
  go_loop [3] (fun v => v = num 0) (fun _ => 0)
  case atStart => rfl
  case round =>
    subst hrel
    go_wp2_with fail
    go_ret
    exact ⟨rfl, rfl⟩
theorem tm_ref {m : Nat} (h : Em m) (xs ys : List Int) : trimN (outer m (xs.map (el m)) (ys.map (el m)) (List.replicate (xs.length + ys.length) 0) xs.length) = tmS m (rowS m xs) (rowS m ys) := by
  refine eq_of_nth (trimmed_trim _) (tm_trimmed h (rowS_trimmed m xs) (rowS_trimmed m ys)) fun k => ?_
  have e := nth_outer (m := m) (xs.map (el m)) (ys.map (el m)) (List.replicate (xs.length + ys.length) 0) (xs.map (el m)).length k (Nat.le_refl _) (by simp)
  rw [List.take_length, nth_zeros, Nat.zero_xor] at e
  simp only [List.length_map] at e
  rw [nth_trim, e, nth_tm]
  unfold rowS
  rw [cv_trim]
  generalize xs.map (el m) = A
  clear e
  induction A generalizing k with
  | nil => rfl
  | cons a A ih =>
    cases k with
    | zero => rw [cv, cv, nth_trim]
    | succ k => rw [cv, cv, nth_trim, ih]
theorem nth_map_el (m : Nat) (xs : List Int) {i : Nat} (h : i < xs.length) : nth (xs.map (el m)) i = el m (nthI xs i) := by
  rw [nth_of (by simpa using h), nthI_of h]; simp
/-- What holds while the product is made. -/
structure RtRel (m : Nat) (w wr : World) (R : List Nat) : Prop where
  at_ : wr.heap[w.heap.size]? = some (.cells (vals R).toArray 3)
  grown : w.grownBy wr none
  els : Els m R
theorem RtRel.store {m : Nat} {w wr : World} {R : List Nat} (h : RtRel m w wr R) (k v : Nat) (hv : v ≤ sz m) : RtRel m w (wr.setCell ⟨w.heap.size, k, none⟩ (num (nth R k ^^^ v : Nat))) (put R k v) :=
  ⟨by
    have := setCell_row (i := k) h.at_ (num (nth R k ^^^ v : Nat))
    rw [vals_set] at this; exact this, grownBy_setCell h.grown (.inl (Nat.le_refl _)) _, h.els.put k hv⟩
theorem RtRel.drew {m : Nat} {w wr : World} {R : List Nat} (h : RtRel m w wr R) : RtRel m w wr.drew R := ⟨h.at_, grownBy_drew h.grown, h.els⟩
set_option maxHeartbeats 1600000 in
set_option maxRecDepth 4000 in
theorem rTimes_ok {b m : Nat} (hm : Em m) {w : World} (ap aq : Option Addr) (cp cq : Nat) (xs ys : List Int) (hx : Rd b w ap xs) (hy : Rd b w aq ys) (hlx : xs.length ≤ 100000) (hly : ys.length ≤ 100000) :
    Calls Tryd.prog 55 #[num m, .slice ap xs.length cp, .slice aq ys.length cq] w fun e w' => ∃ v, e = .returned v ∧ Got w' w.heap.size v (tmS m (rowS m xs) (rowS m ys)) ∧ w.grownBy w' none := by
  have hsz := sz_bd hm
  have hPE := els_map m xs
  have hQE := els_map m ys
  have HF : Hid _ := tm_ref hm xs ys
  obtain ⟨Z, hZ⟩ : ∃ Z, Z = List.replicate (xs.length + ys.length) 0 := ⟨_, rfl⟩
  have hZl : Z.length = xs.length + ys.length := by rw [hZ]; simp
  have hT0 : RtRel m w (w.alloc (.cells (zs (xs.length + ys.length)).toArray 3)) Z := ⟨by rw [hZ, ← vals_zeros]; exact heap_alloc_new w _, World.grownBy_alloc _ _ none, by rw [hZ]; exact Els.zeros _ _⟩
  rw [← hZ] at HF
  clear hZ
  obtain ⟨F, hFe⟩ : ∃ F, F = tmS m (rowS m xs) (rowS m ys) := ⟨_, rfl⟩
  rw [← hFe] at HF ⊢
  clear hFe
  obtain ⟨P, hP⟩ : ∃ P, P = xs.map (el m) := ⟨_, rfl⟩
  obtain ⟨Q, hQ⟩ : ∃ Q, Q = ys.map (el m) := ⟨_, rfl⟩
  have hPl : P.length = xs.length := by rw [hP]; simp
  have hQl : Q.length = ys.length := by rw [hQ]; simp
  have HPn : Hid (∀ i, i < xs.length → el m (nthI xs i) = nth P i) := fun i hi => by rw [hP, nth_map_el m xs hi]
  have HQn : Hid (∀ i, i < ys.length → el m (nthI ys i) = nth Q i) := fun i hi => by rw [hQ, nth_map_el m ys hi]
  rw [← hP] at HF hPE
  rw [← hQ] at HF hQE
  clear hP hQ
  obtain ⟨i0, hi, hz0, hz1, hz2⟩ := info_parts Tryd.info3
  go_enter Tryd.func55, Tryd.ntmps55
  go_wp2_with (first | (at_make; go_must (refine wpList_make_own0 _ rfl _ _ 27 rfl 3 i0 Tryd.underlying27 hi hz0 hz1 hz2 .i64 .i64 _ _ (xs.length + ys.length) rfl rfl (by omega) (by omega) (by omega) ?_)))
  go_loopw [8] (fun c wr => ∃ i : Nat, i ≤ xs.length ∧ c = num i ∧ RtRel m w wr (outer m P Q Z i)) (fun c _ => xs.length - (intOf c).toNat)
  case atStart => exact ⟨0, Nat.zero_le _, rfl, hT0⟩
  case round =>
    obtain ⟨i, hii, rfl, hT⟩ := hrel
    by_cases hlt : i < xs.length
    · go_wp2_with fail
      go_loopw [9] (fun c ws => ∃ j : Nat, j ≤ ys.length ∧ c = num j ∧ RtRel m w ws (inner m (nth P i) Q i (outer m P Q Z i) j)) (fun c _ => ys.length - (intOf c).toNat)
      case atStart => exact ⟨0, Nat.zero_le _, rfl, hT⟩
      case round =>
        obtain ⟨j, hj, rfl, hT2⟩ := hrel
        have hRl : (inner m (nth P i) Q i (outer m P Q Z i) j).length = xs.length + ys.length := by rw [inner_len, outer_len, hZl]
        have HI : Hid (inner m (nth P i) Q i (outer m P Q Z i) (j + 1) = put (inner m (nth P i) Q i (outer m P Q Z i) j) (i + j) (mul m (nth P i) (nth Q j))) := rfl
        have HO : Hid (outer m P Q Z (i + 1) = inner m (nth P i) Q i (outer m P Q Z i) ys.length) := by rw [outer, hQl]; rfl
        by_cases hjl : j < ys.length
        · obtain ⟨R, hR⟩ : ∃ R, R = inner m (nth P i) Q i (outer m P Q Z i) j := ⟨_, rfl⟩
          rw [← hR] at hRl HI hT2
          clear hR
          have hxr := (hx.more hT2.grown).resolve_left (fun e => by rw [e] at hlt; simp at hlt)
          have hyr := (hy.more hT2.grown).resolve_left (fun e => by rw [e] at hjl; simp at hjl)
          obtain ⟨g1, o1, rfl, -, hc1⟩ := hxr
          obtain ⟨g2, o2, rfl, -, hc2⟩ := hyr
          have c1 := hc1 i hlt
          have c2 := hc2 j hjl
          have ai := hPE i
          have aj := hQE j
          have ar := hT2.els (i + j)
          have mle := mul_le hm (nth P i) (nth Q j)
          have cr : wr.cell? ⟨w.heap.size, i + j, none⟩ = some (num (nth R (i + j) : Nat)) := by rw [cell_row hT2.at_, vals_at (by omega)]
          have zr : wr.frozen? ⟨w.heap.size, i + j, none⟩ = false := frozen_row hT2.at_
          have hwr : IntKind.i64.wrap ((i : Int) + (j : Int)) = (i : Int) + (j : Int) := by rw [IntKind.wrap_i64]; omega
          have hml : num (mul m (el m (nthI xs i)) (el m (nthI ys j)) : Nat) = num (mul m (nth P i) (nth Q j) : Nat) := by rw [HPn.out i hlt, HQn.out j hjl]
          have hxo : bits .xor .i64 (nth R (i + j) : Int) (mul m (nth P i) (nth Q j) : Int) = ((nth R (i + j) ^^^ mul m (nth P i) (nth Q j) : Nat) : Int) := xor_i64 _ _ (by omega) (by omega)
          have b1 : (i : Int) + (j : Int) < ((xs.length + ys.length : Nat) : Int) := by omega
          have b2 : (0 : Int) ≤ (i : Int) + (j : Int) := by omega
          have b3 : ((i : Int) + (j : Int)).toNat = i + j := by omega
          have b4 : (i : Int) < (xs.length : Int) := by omega
          have b5 : (j : Int) < (ys.length : Int) := by omega
          have hN := hT2.drew.store (i + j) (mul m (nth P i) (nth Q j)) mle
          clear hc1 hc2 hx hy
          go_wp2_with fail
          go_region_with (go_at_call 64; refine (rMul_ok hm _ _ _).mono ?_; rintro e w4 ⟨rfl, rfl⟩; rw [hml])
          all_goals
            go_wp2
            go_roundw
            case rel => exact ⟨j + 1, by omega, by go_num, by rw [HI.out]; exact hN⟩
            case measure => simp [intOf]; omega
        · obtain rfl : j = ys.length := by omega
          go_wp2_with fail
          go_roundw
          case rel => exact ⟨i + 1, by omega, by go_num, by rw [HO.out]; exact hT2⟩
          case measure => simp [intOf]; omega
    · obtain rfl : i = xs.length := by omega
      have hol : (outer m P Q Z xs.length).length = xs.length + ys.length := by rw [outer_len, hZl]
      have htr := rTrim_ok (outer m P Q Z xs.length) _ hT.at_ (by rw [← vals_len, List.take_length]) (by rw [vals_len]; exact Nat.le_refl _) (by omega)
      rw [vals_len, hol] at htr
      have hAt := hT.at_
      have hGr := hT.grown
      rw [HF.out] at htr
      have HTr : Hid (Calls Tryd.prog 75 #[.slice (some ⟨w.heap.size, 0, none⟩) (xs.length + ys.length) (xs.length + ys.length)] wr _) := htr
      have HG : Hid (Got wr w.heap.size (.slice (some ⟨w.heap.size, 0, none⟩) F.length (xs.length + ys.length)) F) := by
        refine .inr ⟨w.heap.size, _, by rw [vals_len, hol], hAt, ?_, ?_, Nat.le_refl _⟩
        · rw [← HF.out]
          obtain ⟨n, hn, e⟩ := trimN_prefix (outer m P Q Z xs.length)
          have hl : (trimN (outer m P Q Z xs.length)).length = n := by rw [e]; simp; omega
          rw [hl, e]
          simp [vals]
        · rw [vals_len, ← HF.out]; exact trimN_len _
      clear htr hAt
      go_wp2_with fail
      refine HTr.out.mono ?_
      rintro e w' ⟨rfl, rfl⟩
      go_wp2_with fail
      go_ret
      exact ⟨_, rfl, HG.out, hGr⟩
end Gf
end Go.Proofs.YtiojdoehlooibaaDoor
