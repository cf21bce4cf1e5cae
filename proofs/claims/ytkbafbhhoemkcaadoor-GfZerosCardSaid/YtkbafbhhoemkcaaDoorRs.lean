/- Rest: what is left of a polynomial by another one. -/
import Derived.Test.YtkbafbhhoemkcaaDoorAlg
import Derived.Deep.LoopGhost
import Derived.Deep.RegionWith
namespace Go.Proofs.YtkbafbhhoemkcaaDoor
open Go.RowKit
namespace Gf
theorem nth_put (r : List Nat) (k v j : Nat) (hk : k < r.length) : nth (put r k v) j = if j = k then nth r k ^^^ v else nth r j := by
  unfold put nth
  rw [List.getD_eq_getElem?_getD, List.getElem?_set]
  by_cases h : j = k
  · subst h; simp [hk]
  · rw [if_neg (fun e => h e.symm), if_neg h]; simp
theorem nth_inner (m a : Nat) (q : List Nat) (i : Nat) (r : List Nat) (j k : Nat) (hj : i + j ≤ r.length) : nth (inner m a q i r j) k = nth r k ^^^ (if i ≤ k ∧ k < i + j then mul m a (nth q (k - i)) else 0) := by
  induction j with
  | zero => rw [inner, if_neg (by omega), Nat.xor_zero]
  | succ j ih =>
    rw [inner, nth_put _ _ _ _ (by rw [inner_len]; omega), ih (by omega)]
    by_cases h : k = i + j
    · subst h
      rw [ih (by omega), if_pos rfl, if_neg (by omega), if_pos (by omega), Nat.xor_zero, Nat.add_sub_cancel_left]
    · rw [if_neg h]
      by_cases h2 : i ≤ k ∧ k < i + j
      · rw [if_pos h2, if_pos (by omega)]
      · rw [if_neg h2, if_neg (by omega)]
theorem nth_over (l : List Nat) {k : Nat} (h : l.length ≤ k) : nth l k = 0 := by simp [nth, h]
theorem trimN_last (l : List Nat) (h : trimN l ≠ []) : nth (trimN l) ((trimN l).length - 1) ≠ 0 := by
  have h1 : l.reverse.dropWhile (· == 0) ≠ [] := fun e => h (by unfold trimN; rw [e]; rfl)
  have h2 := List.head_dropWhile_not (· == 0) h1
  unfold trimN
  rw [nth, List.getD_eq_getElem?_getD, ← List.getLast?_eq_getElem?, List.getLast?_reverse, List.head?_eq_some_head h1]
  simpa using h2
theorem trimN_shrinks {l : List Nat} (h0 : 0 < l.length) (h : nth l (l.length - 1) = 0) : (trimN l).length < l.length := by
  have e : l = l.take (l.length - 1 + 1) := by rw [Nat.sub_add_cancel h0, List.take_length]
  have h1 := trim_zero (l := l) (k := l.length - 1) (by omega) h
  rw [← e] at h1
  rw [h1]
  have := trimN_len (l.take (l.length - 1))
  simp at this
  omega
/-- One step of the division. -/
def restStep (m : Nat) (Q P : List Nat) : List Nat := inner m (mul m (nth P (P.length - 1)) (invS m (nth Q (Q.length - 1)))) Q (P.length - Q.length) P Q.length
def restGo (m : Nat) (Q : List Nat) : Nat → List Nat → List Nat
  | 0, P => P
  | f + 1, P => if P.length < Q.length then P else restGo m Q f (trimN (restStep m Q P))
/-- What is left. -/
def restS (m : Nat) (P Q : List Nat) : List Nat := if Q = [] then [] else restGo m Q P.length P
theorem restStep_len (m : Nat) (Q P : List Nat) : (restStep m Q P).length = P.length := inner_len _ _ _ _ _ _
theorem restStep_els {m : Nat} (h : Em m) (Q : List Nat) {P : List Nat} (hP : Els m P) : Els m (restStep m Q P) := hP.inner h _ _ _ _
theorem els_trim {m : Nat} {l : List Nat} (h : Els m l) : Els m (trimN l) := by
  intro k
  by_cases hk : k < (trimN l).length
  · rw [trimN_nth l hk]; exact h k
  · rw [nth_over _ (by omega)]; exact Nat.zero_le _
theorem restStep_last {m : Nat} (h : Em m) {Q P : List Nat} (hQ : Els m Q) (hP : Els m P) (hl : nth Q (Q.length - 1) ≠ 0) (hq : 0 < Q.length) (hpq : Q.length ≤ P.length) : nth (restStep m Q P) (P.length - 1) = 0 := by
  unfold restStep
  rw [nth_inner _ _ _ _ _ _ _ (by omega), if_pos (by omega), show P.length - 1 - (P.length - Q.length) = Q.length - 1 by omega]
  rw [mul_assoc h (hP _) (inv_le h _) (hQ _), mul_comm m (invS m _), inv_mul h hl (hQ _), mul_one h (hP _), Nat.xor_self]
theorem rest_shrinks {m : Nat} (h : Em m) {Q P : List Nat} (hQ : Els m Q) (hP : Els m P) (hl : nth Q (Q.length - 1) ≠ 0) (hq : 0 < Q.length) (hpq : Q.length ≤ P.length) : (trimN (restStep m Q P)).length < P.length := by
  have := trimN_shrinks (l := restStep m Q P) (by rw [restStep_len]; omega) (by rw [restStep_len]; exact restStep_last h hQ hP hl hq hpq)
  rwa [restStep_len] at this
/-- What holds while it is divided. -/
structure RsRel (b m : Nat) (w0 wr : World) (g1 g2 : Nat) (R : List Nat) (T B : List Value) : Prop where
  own1 : Own b wr g1 (vals R ++ T)
  own2 : Own b wr g2 B
  fld : Fld wr b m
  since : Since b w0 wr
  els : Els m R
theorem RsRel.step {b m : Nat} {w0 wr w' : World} {g1 g2 : Nat} {R : List Nat} {T B : List Value} (h : RsRel b m w0 wr g1 g2 R T B) (hF : Fld w' b m) (hs : Step b wr w') : RsRel b m w0 w' g1 g2 R T B :=
  ⟨h.own1.step hs, h.own2.step hs, hF, h.since.step hs, h.els⟩
theorem RsRel.cell {b m : Nat} {w0 wr : World} {g1 g2 : Nat} {R : List Nat} {T B : List Value} (h : RsRel b m w0 wr g1 g2 R T B) {k : Nat} (hk : k < R.length) : wr.cell? ⟨g1, k, none⟩ = some (num (nth R k : Nat)) := by
  rw [h.own1.cell, List.getElem?_append_left (by rw [vals_len]; exact hk), vals_at hk]
theorem RsRel.store {b m : Nat} {w0 wr : World} {g1 g2 : Nat} {R : List Nat} {T B : List Value} (h : RsRel b m w0 wr g1 g2 R T B) (h1 : w0.heap.size ≤ g1) (h12 : g2 ≠ g1) (k v : Nat) (hk : k < R.length) (hv : v ≤ sz m) :
    RsRel b m w0 (wr.setCell ⟨g1, k, none⟩ (num (nth R k ^^^ v : Nat))) g1 g2 (put R k v) T B :=
  ⟨by
    have := h.own1.store k (num (nth R k ^^^ v : Nat))
    rw [List.set_append_left _ _ (by rw [vals_len]; exact hk), vals_set] at this
    exact this, h.own2.other h12 h.own1.free.1 _ _, h.fld.store h.own1.free _ _, h.since.store h1 h.own1.free.1 _ _, h.els.put k hv⟩
theorem RsRel.trim {b m : Nat} {w0 wr : World} {g1 g2 : Nat} {R : List Nat} {T B : List Value} (h : RsRel b m w0 wr g1 g2 R T B) : RsRel b m w0 wr g1 g2 (trimN R) (vals (R.drop (trimN R).length) ++ T) B := by
  refine ⟨?_, h.own2, h.fld, h.since, els_trim h.els⟩
  have e : R = trimN R ++ R.drop (trimN R).length := by
    obtain ⟨n, hn, e⟩ := trimN_prefix R
    have hl : (trimN R).length = n := by rw [e]; simp; omega
    rw [hl]
    conv => lhs; rw [← List.take_append_drop n R]
    rw [e]
  have h2 : vals (trimN R) ++ (vals (R.drop (trimN R).length) ++ T) = vals R ++ T := by
    rw [← List.append_assoc]
    congr 1
    unfold vals
    rw [← List.map_append, ← e]
  rw [h2]; exact h.own1
theorem restGo_done (m : Nat) (Q : List Nat) (f : Nat) (P : List Nat) (h : P.length < Q.length) : restGo m Q f P = P := by
  cases f with
  | zero => rfl
  | succ f => rw [restGo, if_pos h]
theorem vals_split {m : Nat} {xs : List Int} : vals (xs.map (el m)) = vals (rowS m xs) ++ vals ((xs.map (el m)).drop (rowS m xs).length) := by
  unfold rowS
  obtain ⟨n, hn, e⟩ := trimN_prefix (xs.map (el m))
  have hl : (trimN (xs.map (el m))).length = n := by rw [e]; simp; simp at hn; omega
  rw [hl]
  unfold vals
  rw [← List.map_append]
  congr 1
  conv => lhs; rw [← List.take_append_drop n (xs.map (el m))]
  rw [e]
set_option maxHeartbeats 1600000 in
theorem rest_ok {b m : Nat} {w : World} (h : Fld w b m) (ap aq : Option Addr) (cp cq : Nat) (xs ys : List Int) (hx : Rd b w ap xs) (hy : Rd b w aq ys) (hm : xs.length ≤ 1000000) (hm' : ys.length ≤ 1000000) :
    Calls Tryd.prog 25 #[ptr b, .slice ap xs.length cp, .slice aq ys.length cq] w fun e w' => ∃ v, e = .returned v ∧ Res b w' w.heap.size v (restS m (rowS m xs) (rowS m ys)) ∧ Fld w' b m ∧ Step b w w' := by
  have hem := h.em
  have hsz := sz_bd hem
  have hP := rowS_len m xs
  have hQ := rowS_len m ys
  have hE1 := rowS_els m xs
  have hE2 := rowS_els m ys
  have hB : ∀ k, k < (rowS m ys).length → (vals (ys.map (el m)))[k]? = some (num (nth (rowS m ys) k : Nat)) := fun k hk => row_list hk
  have hlast : rowS m ys ≠ [] → nth (rowS m ys) ((rowS m ys).length - 1) ≠ 0 := fun h => trimN_last _ h
  have HV : Hid _ := @vals_split m xs
  have hTl : (rowS m xs).length + ((xs.map (el m)).drop (rowS m xs).length).length = xs.length := by simp; omega
  obtain ⟨P0, hPe⟩ : ∃ P, P = rowS m xs := ⟨_, rfl⟩
  obtain ⟨Q, hQe⟩ : ∃ Q, Q = rowS m ys := ⟨_, rfl⟩
  obtain ⟨T0, hTe⟩ : ∃ T, T = vals ((xs.map (el m)).drop (rowS m xs).length) := ⟨_, rfl⟩
  obtain ⟨B, hBe⟩ : ∃ B, B = vals (ys.map (el m)) := ⟨_, rfl⟩
  have hTl' : P0.length + T0.length = xs.length := by rw [hPe, hTe, vals_len]; exact hTl
  rw [← hTe, ← hPe] at HV
  rw [← hQe, ← hBe] at hB
  rw [← hPe] at hP hE1 ⊢
  rw [← hQe] at hQ hE2 hlast ⊢
  have HP : Hid (P0 = rowS m xs) := hPe
  have HQ : Hid (Q = rowS m ys) := hQe
  have HB : Hid (B = vals (ys.map (el m))) := hBe
  have HL : Hid _ := hlast
  clear hPe hQe hBe hTe hTl hlast
  obtain ⟨S, hS⟩ : ∃ S, S = restS m P0 Q := ⟨_, rfl⟩
  rw [← hS]
  have HS : Hid (S = if Q = [] then [] else restGo m Q P0.length P0) := hS
  clear hS
  go_enter Tryd.func25, Tryd.ntmps25
  go_wp2_with fail
  refine (row_ok h ap cp xs hx (by omega)).mono ?_
  rintro e w1 ⟨rfl, hO1, hF1, hs1⟩
  rw [← HP.out]
  rw [HV.out] at hO1
  go_wp2_with fail
  refine (row_ok hF1 aq cq ys (hy.step hs1) (by omega)).mono ?_
  rintro e w2 ⟨rfl, hO2, hF2, hs2⟩
  rw [← HQ.out]
  rw [← HB.out] at hO2
  have hO1' := hO1.step hs2
  have hS2 := hs1.trans hs2
  have l1 := hO1.lt
  have l2 := hO2.lt
  clear hO1
  by_cases hq0 : Q.length = 0
  · have hq0' : ((Q.length : Int) == 0) = true := by simp [hq0]
    have HR : Hid (S = []) := by rw [HS.out, if_pos (List.eq_nil_of_length_eq_zero hq0)]; rfl
    clear hq0
    go_wp2
    go_ret
    exact ⟨_, rfl, .inl ⟨rfl, HR.out⟩, hF2, hS2⟩
  have hq0' : ((Q.length : Int) == 0) = false := by simp; exact fun e => hq0 (by rw [e]; rfl)
  have hqn : Q ≠ [] := fun e => hq0 (by rw [e]; rfl)
  have HR : Hid (restGo m Q P0.length P0 = S) := by rw [HS.out, if_neg hqn]; rfl
  have hlq : nth Q (Q.length - 1) ≠ 0 := HL.out hqn
  have cq1 : w2.cell? ⟨w1.heap.size, Q.length - 1, none⟩ = some (num (nth Q (Q.length - 1) : Nat)) := by rw [hO2.cell, hB _ (by omega)]
  have HEq : Hid (el m (nth Q (Q.length - 1) : Int) = nth Q (Q.length - 1)) := el_of (hE2 _)
  have bq : (1 : Int) ≤ Q.length := by omega
  have eq1 : ((Q.length : Int) - 1).toNat = Q.length - 1 := by omega
  clear hqn HS HL HP HQ HB HV hx hy
  go_wp2_with fail
  refine (inv_ok hF2 _).mono ?_
  rintro e w3 ⟨rfl, hF3, hs3⟩
  rw [HEq.out]
  have iv := inv_le hem (nth Q (Q.length - 1))
  have HEi : Hid (el m (invS m (nth Q (Q.length - 1)) : Int) = invS m (nth Q (Q.length - 1))) := el_of iv
  have hT0 : RsRel b m w w3 w.heap.size w1.heap.size P0 T0 B := ⟨hO1'.step hs3, hO2.step hs3, hF3, (Since.refl _ _).step (hS2.trans hs3), hE1⟩
  clear hO1' hO2 hF2 hS2 hF1 hs1 hs2 hs3 hF3
  go_wp2_with fail
  go_loopg [1] P0.length (fun gk v wr => ∃ (P : List Nat) (T : List Value), P.length ≤ gk ∧ P.length + T.length = xs.length ∧ v = .slice (some ⟨w.heap.size, 0, none⟩) P.length xs.length ∧ RsRel b m w wr w.heap.size w1.heap.size P T B ∧ restGo m Q gk P = S)
  case atStart => exact ⟨P0, T0, Nat.le_refl _, hTl', rfl, hT0, HR.out⟩
  case round =>
    obtain ⟨P, T, hPk, hPT, rfl, hT, hSt⟩ := hrel
    have HSt : Hid _ := hSt
    clear hSt
    by_cases hlt : P.length < Q.length
    · have HFin : Hid (P = S) := by rw [← HSt.out, restGo_done m Q gk P hlt]; rfl
      have hlt' : ¬ ((Q.length : Int) ≤ (P.length : Int)) := by omega
      go_wp2_with fail
      go_ret
      refine ⟨_, rfl, ?_, hT.fld, hT.since.toStep⟩
      rw [← HFin.out]
      refine .inr ⟨w.heap.size, _, ?_, hT.own1, ?_, by simp [vals_len], Nat.le_refl _⟩
      · simp only [List.length_append, vals_len, hPT]; rfl
      · rw [List.take_append_of_le_length (by rw [vals_len]; exact Nat.le_refl _), ← vals_len, List.take_length]
    · have hle' : (Q.length : Int) ≤ (P.length : Int) := by omega
      have hle : Q.length ≤ P.length := by omega
      have hgk : 1 ≤ gk := by omega
      have HN : Hid (restGo m Q (gk - 1) (trimN (restStep m Q P)) = S) := by
        rw [← HSt.out]
        conv => rhs; rw [show gk = (gk - 1) + 1 by omega, restGo, if_neg hlt]
        rfl
      have hsh := rest_shrinks hem hE2 hT.els hlq (by omega) hle
      have cp1 : wr.cell? ⟨w.heap.size, P.length - 1, none⟩ = some (num (nth P (P.length - 1) : Nat)) := hT.cell (by omega)
      have HEp : Hid (el m (nth P (P.length - 1) : Int) = nth P (P.length - 1)) := el_of (hT.els _)
      have ep1 : ((P.length : Int) - 1).toNat = P.length - 1 := by omega
      have HStep : Hid (restStep m Q P = inner m (mul m (nth P (P.length - 1)) (invS m (nth Q (Q.length - 1)))) Q (P.length - Q.length) P Q.length) := rfl
      clear HSt hlt
      go_wp2_with fail
      refine (mul_ok hT.fld _ _).mono ?_
      rintro e w4 ⟨rfl, hF4, hs4⟩
      rw [HEp.out, HEi.out]
      have hT4 := hT.step hF4 hs4
      obtain ⟨F, hFe⟩ : ∃ F, F = mul m (nth P (P.length - 1)) (invS m (nth Q (Q.length - 1))) := ⟨_, rfl⟩
      have hFl : F ≤ sz m := by rw [hFe]; exact mul_le hem _ _
      rw [← hFe] at HStep ⊢
      have HFe : Hid (el m (F : Int) = F) := el_of hFl
      clear hFe hT hs4 hF4 cp1
      go_wp2_with fail
      go_loopw [50] (fun c ws => ∃ j : Nat, j ≤ Q.length ∧ c = num j ∧ RsRel b m w ws w.heap.size w1.heap.size (inner m F Q (P.length - Q.length) P j) T B) (fun c _ => Q.length - (intOf c).toNat)
      case atStart => exact ⟨0, Nat.zero_le _, rfl, hT4⟩
      case round =>
        obtain ⟨j, hj, rfl, hT2⟩ := hrel
        have hRl : (inner m F Q (P.length - Q.length) P j).length = P.length := inner_len _ _ _ _ _ _
        have HI : Hid (inner m F Q (P.length - Q.length) P (j + 1) = put (inner m F Q (P.length - Q.length) P j) (P.length - Q.length + j) (mul m F (nth Q j))) := rfl
        by_cases hjl : j < Q.length
        · obtain ⟨R, hR⟩ : ∃ R, R = inner m F Q (P.length - Q.length) P j := ⟨_, rfl⟩
          rw [← hR] at hRl HI hT2
          clear hR
          have aj := hE2 j
          have ar := hT2.els (P.length - Q.length + j)
          have mle := mul_le hem F (nth Q j)
          have cj : wr.cell? ⟨w1.heap.size, j, none⟩ = some (num (nth Q j : Nat)) := by rw [hT2.own2.cell, hB j hjl]
          have cr : wr.cell? ⟨w.heap.size, P.length - Q.length + j, none⟩ = some (num (nth R (P.length - Q.length + j) : Nat)) := hT2.cell (by omega)
          have zr : wr.frozen? ⟨w.heap.size, P.length - Q.length + j, none⟩ = false := hT2.own1.frozen _
          have hwr : IntKind.i64.wrap ((P.length : Int) - (Q.length : Int) + (j : Int)) = (P.length : Int) - (Q.length : Int) + (j : Int) := by rw [IntKind.wrap_i64]; omega
          have hxo : bits .xor .i64 (nth R (P.length - Q.length + j) : Int) (mul m (el m (F : Int)) (el m (nth Q j : Int)) : Int) = ((nth R (P.length - Q.length + j) ^^^ mul m F (nth Q j) : Nat) : Int) := by
            rw [HFe.out, el_of aj]; exact xor_i64 _ _ (by omega) (by omega)
          have b1 : (P.length : Int) - (Q.length : Int) + (j : Int) < (P.length : Int) := by omega
          have b2 : (0 : Int) ≤ (P.length : Int) - (Q.length : Int) + (j : Int) := by omega
          have b3 : ((P.length : Int) - (Q.length : Int) + (j : Int)).toNat = P.length - Q.length + j := by omega
          go_wp2_with fail
          go_region_with (go_at_call 13; refine (mul_ok hT2.fld.drew _ _).mono ?_; rintro e w5 ⟨rfl, hF5, hs5⟩; have hT5 := hT2.step hF5 ((Step.refl b wr).drew.trans hs5); have c5 : w5.cell? ⟨w.heap.size, P.length - Q.length + j, none⟩ = some (num (nth R (P.length - Q.length + j) : Nat)) := (hT5.cell (by omega)); have z5 : w5.frozen? ⟨w.heap.size, P.length - Q.length + j, none⟩ = false := hT5.own1.frozen _)
          all_goals
            have hN := hT5.store (Nat.le_refl _) (by omega) (P.length - Q.length + j) (mul m F (nth Q j)) (by omega) mle
            go_wp2
            go_roundw
            case rel => exact ⟨j + 1, by omega, by go_num, by rw [HI.out]; exact hN⟩
            case measure => simp [intOf]; omega
        · obtain rfl : j = Q.length := by omega
          rw [← HStep.out] at hT2
          have hsl := restStep_len m Q P
          have htr := trim_ok (restStep m Q P) _ hT2.own1 (by rw [List.take_append_of_le_length (by rw [vals_len]; exact Nat.le_refl _), ← vals_len, List.take_length]) (by simp [vals_len]) (by omega)
          simp only [List.length_append, vals_len, hsl, hPT] at htr
          have HTr : Hid (Calls Tryd.prog 42 #[.slice (some ⟨w.heap.size, 0, none⟩) P.length xs.length] wr _) := htr
          have hT6 := hT2.trim
          have hl6 : (trimN (restStep m Q P)).length + (vals ((restStep m Q P).drop (trimN (restStep m Q P)).length) ++ T).length = xs.length := by
            simp [vals_len]; omega
          clear htr
          go_wp2_with fail
          refine HTr.out.mono ?_
          rintro e w' ⟨rfl, rfl⟩
          go_wp2_with fail
          go_roundg (gk - 1)
          case measure => omega
          case rel => exact ⟨_, _, by omega, hl6, rfl, hT6, HN.out⟩
end Gf
end Go.Proofs.YtkbafbhhoemkcaaDoor
