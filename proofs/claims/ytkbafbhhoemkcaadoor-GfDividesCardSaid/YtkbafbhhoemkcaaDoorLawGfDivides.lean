/- The walk of GfDivides: what is left of a product and something less is that something. -/
import Derived.Test.YtkbafbhhoemkcaaDoorLay
import Derived.Test.YtkbafbhhoemkcaaDoorCv
namespace Go.Proofs.YtkbafbhhoemkcaaDoor
open Go.RowKit Gf
namespace Dv
/-- The first i coefficients of R put on S. -/
def addR (S R : List Nat) : Nat → List Nat
  | 0 => S
  | i + 1 => put (addR S R i) i (nth R i)
theorem addR_len (S R : List Nat) (i : Nat) : (addR S R i).length = S.length := by
  induction i with
  | zero => rfl
  | succ i ih => rw [addR, put_len, ih]
theorem nth_addR (S R : List Nat) (i k : Nat) (hi : i ≤ S.length) : nth (addR S R i) k = nth S k ^^^ (if k < i then nth R k else 0) := by
  induction i with
  | zero => rw [addR, if_neg (by omega), Nat.xor_zero]
  | succ i ih =>
    rw [addR, nth_put _ _ _ _ (by rw [addR_len]; omega), ih (by omega)]
    by_cases h : k = i
    · subst h
      rw [ih (by omega), if_pos rfl, if_neg (by omega), if_pos (by omega), Nat.xor_zero]
    · rw [if_neg h]
      by_cases h2 : k < i
      · rw [if_pos h2, if_pos (by omega)]
      · rw [if_neg h2, if_neg (by omega)]
theorem els_addR {m : Nat} {S R : List Nat} (hS : Els m S) (hR : Els m R) (i : Nat) : Els m (addR S R i) := by
  induction i with
  | zero => exact hS
  | succ i ih => exact ih.put i (hR i)
/-- A slice that can be read, and lies in neither of two blocks. -/
def Rd2 (b g : Nat) (w : World) (ao : Option Addr) (xs : List Int) : Prop :=
  xs = [] ∨ ∃ g' off, ao = some ⟨g', off, none⟩ ∧ g' ≠ b ∧ g' ≠ g ∧ ∀ i, i < xs.length → w.cell? ⟨g', off + i, none⟩ = some (num (nthI xs i))
theorem Rd2.rd {b g : Nat} {w : World} {ao : Option Addr} {xs : List Int} (h : Rd2 b g w ao xs) : Rd b w ao xs := by
  rcases h with h | ⟨g', off, a, c, _, e⟩
  · exact .inl h
  · exact .inr ⟨g', off, a, c, e⟩
theorem Rd2.of {b g : Nat} {w w' : World} {ao : Option Addr} {xs : List Int} (h0 : Rd b w ao xs) (hg : w.heap.size ≤ g) (h : Rd b w' ao xs) : Rd2 b g w' ao xs := by
  rcases h with h | ⟨g', off, a, c, e⟩
  · exact .inl h
  · by_cases hx : xs = []
    · exact .inl hx
    · refine .inr ⟨g', off, a, c, ?_, e⟩
      rcases h0 with e0 | ⟨g0, off0, a0, _, e0⟩
      · exact absurd e0 hx
      · rw [a] at a0
        simp at a0
        have := lt_of_cell (e0 0 (List.length_pos_iff.2 hx))
        omega
theorem Rd2.store {b g : Nat} {w : World} {ao : Option Addr} {xs : List Int} (h : Rd2 b g w ao xs) (k : Nat) (v : Value) : Rd2 b g (w.setCell ⟨g, k, none⟩ v) ao xs := by
  rcases h with h | ⟨g', off, a, c, d, e⟩
  · exact .inl h
  · refine .inr ⟨g', off, a, c, d, fun i hi => ?_⟩
    rw [World.cell?_of_block (w := w) (a := ⟨g', off + i, none⟩) (setCell_else d v)]
    exact e i hi
theorem Rd2.drew {b g : Nat} {w : World} {ao : Option Addr} {xs : List Int} (h : Rd2 b g w ao xs) : Rd2 b g w.drew ao xs := h
/-- What holds while the rest is put on. -/
structure DvRel (b m : Nat) (w0 wr : World) (g : Nat) (S : List Nat) (T : List Value) (aq ar : Option Addr) (Q R : List Nat) : Prop where
  own : Own b wr g (vals S ++ T)
  fld : Fld wr b m
  since : Since b w0 wr
  rq : Rd2 b g wr aq (ints Q)
  rr : Rd2 b g wr ar (ints R)
theorem DvRel.cell {b m : Nat} {w0 wr : World} {g : Nat} {S : List Nat} {T : List Value} {aq ar : Option Addr} {Q R : List Nat} (h : DvRel b m w0 wr g S T aq ar Q R) {k : Nat} (hk : k < S.length) : wr.cell? ⟨g, k, none⟩ = some (num (nth S k : Nat)) := by
  rw [h.own.cell, List.getElem?_append_left (by rw [vals_len]; exact hk), vals_at hk]
theorem DvRel.drew {b m : Nat} {w0 wr : World} {g : Nat} {S : List Nat} {T : List Value} {aq ar : Option Addr} {Q R : List Nat} (h : DvRel b m w0 wr g S T aq ar Q R) : DvRel b m w0 wr.drew g S T aq ar Q R :=
  ⟨⟨h.own.at_, h.own.free⟩, h.fld.drew, ⟨grownBy_drew h.since.grown, h.since.free⟩, h.rq, h.rr⟩
theorem DvRel.store {b m : Nat} {w0 wr : World} {g : Nat} {S : List Nat} {T : List Value} {aq ar : Option Addr} {Q R : List Nat} (h : DvRel b m w0 wr g S T aq ar Q R) (hg : w0.heap.size ≤ g) (k v : Nat) (hk : k < S.length) :
    DvRel b m w0 (wr.setCell ⟨g, k, none⟩ (num (nth S k ^^^ v : Nat))) g (put S k v) T aq ar Q R :=
  ⟨by
    have := h.own.store k (num (nth S k ^^^ v : Nat))
    rw [List.set_append_left _ _ (by rw [vals_len]; exact hk), vals_set] at this
    exact this, h.fld.store h.own.free _ _, h.since.store hg h.own.free.1 _ _, h.rq.store _ _, h.rr.store _ _⟩
theorem row_one {m : Nat} (h : Em m) : rowS m (ints [1]) = [1] := by
  have hz := sz_bd h
  have : el m (1 : Int) = 1 := el_of (m := m) (a := 1) (by omega)
  simp [rowS, ints, this, trimN]
theorem times_one {m : Nat} (h : Em m) (ys : List Int) : tmS m (rowS m ys) (rowS m (ints [1])) = rowS m ys := by
  rw [row_one h, tm_one h (rowS_els m ys) (rowS_trimmed m ys)]
/-- The division, said plainly. -/
theorem divides {m : Nat} (h : Em m) {P Q R S : List Nat} (hP : Els m P) (hQ : Els m Q) (tQ : Trimmed Q) (hq : Q ≠ []) (hRE : Els m R) (tR : Trimmed R) (hRQ : R.length < Q.length) (hSE : Els m S) (hS : ∀ k, nth S k = cv m P Q k) (hRS : R.length ≤ S.length) :
    restS m (rowS m (ints (addR S R R.length))) (rowS m (ints Q)) = R := by
  rw [rowS_ints hQ, trim_of_trimmed tQ, rowS_ints (els_addR hSE hRE _)]
  refine rest_comb h hQ tQ hq hRQ tR (els_trim (els_addR hSE hRE _)) (trimmed_trim _) (Comb.trim ⟨P, hP, fun k => ?_⟩)
  rw [nth_addR _ _ _ _ hRS, hS]
  by_cases hk : k < R.length
  · rw [if_pos hk]
  · rw [if_neg hk, nth_over R (by omega)]
theorem nth_snoc_zero (S : List Nat) (k : Nat) : nth (S ++ [0]) k = nth S k := by
  by_cases h : k < S.length
  · unfold nth
    rw [List.getD_eq_getElem?_getD, List.getD_eq_getElem?_getD, List.getElem?_append_left h]
  · by_cases h2 : k = S.length
    · subst h2; simp [nth]
    · rw [nth_over _ (by simp; omega), nth_over _ (by omega)]
/-- A row to which more can be put behind: whatever block comes is none of the field's. -/
def Grows (b B : Nat) (w : World) (v : Value) (S : List Nat) : Prop := w.ownsRow B 3 1 v S.length (vals S) ∧ (∀ r, B ≤ r → Free w b r) ∧ B ≤ w.heap.size
theorem Grows.res {b B B0 : Nat} {w : World} {v : Value} {S : List Nat} (h : Grows b B w v S) (hB : B0 ≤ B) : Res b w B0 v S := by
  rcases h.1.2 with ⟨rfl, hn⟩ | ⟨g, cap, cur, rfl, hg, hh, hle, _, hcs, ht⟩
  · exact .inl ⟨rfl, List.eq_nil_of_length_eq_zero hn⟩
  · refine .inr ⟨g, cur.toList, ?_, ⟨by simpa using hh, h.2.1 g hg⟩, by simpa using ht, by simp; omega, by omega⟩
    simp [hcs]
theorem Res.slice {b : Nat} {w : World} {B : Nat} {v : Value} {xs : List Nat} (h : Res b w B v xs) : ∃ ao cap, v = .slice ao xs.length cap := by
  rcases h with ⟨rfl, rfl⟩ | ⟨g, L, h1, _⟩
  · exact ⟨none, 0, rfl⟩
  · exact ⟨_, _, h1⟩
theorem Grows.append {b m : Nat} {w5 wr w6 : World} {v v' o : Value} {S : List Nat} (hF : Fld wr b m) (hS : Step b w5 wr) (hb : b < w5.heap.size) (hg : Grows b w5.heap.size wr v S) (hown : w6.ownsRow w5.heap.size 3 1 v' (S.length + 1) (vals S ++ [.int .i64 0])) (hgrow : (wr.alloc (.cells #[o] 3)).grownBy w6 v.ownBlock) :
    Grows b w5.heap.size w6 v' (S ++ [0]) ∧ Fld w6 b m ∧ Step b w5 w6 := by
  have hsz := hS.size
  have hsz6 := hgrow.size
  simp at hsz6
  have hob : ∀ k, v.ownBlock = some k → w5.heap.size ≤ k := fun k hk => (hg.1.lt k hk).1
  have hblk : ∀ k, k < w5.heap.size → w6.heap[k]? = wr.heap[k]? := fun k hk => by
    rw [hgrow.block k (by simp; omega) (fun e => by have := hob k e.symm; omega)]
    exact Below.heap_alloc _ _ _ (by omega)
  have e6 := hblk b hb
  have hfree : ∀ r, Free wr b r → Free w6 b r := fun r hr => hr.of_block e6
  have hFld : Fld w6 b m := by
    have hFa := hF.alloc (.cells #[o] 3)
    cases ho : v.ownBlock with
    | none => rw [ho] at hgrow; exact hFa.more hgrow
    | some g =>
      rw [ho] at hgrow
      exact hFa.kept hgrow ((hg.2.1 g (hob g ho)).of_block (Below.heap_alloc _ _ _ hF.lt))
  refine ⟨⟨?_, fun r hr => hfree r (hg.2.1 r hr), by omega⟩, hFld, ⟨⟨hgrow.os.trans hS.grown.os, hgrow.tape.trans hS.grown.tape, hgrow.output.trans hS.grown.output, by omega, fun k hk hne => (hblk k hk).trans (hS.grown.block k hk hne)⟩, fun r hr hf => hfree r (hS.free r hr hf)⟩⟩
  have e1 : vals (S ++ [0]) = vals S ++ [.int .i64 0] := by simp [vals]
  rw [e1, List.length_append]
  exact hown
end Dv
open Dv
set_option maxHeartbeats 800000 in
theorem times_empty {b m : Nat} {w : World} (h : Fld w b m) (ap aq : Option Addr) (cp cq : Nat) (xs ys : List Int) (hx : Rd b w ap xs) (hy : Rd b w aq ys) (hm : xs.length ≤ 1000000) (hm' : ys.length ≤ 1000000) (he : rowS m xs = []) :
    Calls Tryd.prog 23 #[ptr b, .slice ap xs.length cp, .slice aq ys.length cq] w fun e w' => e = .returned (.slice none 0 0) ∧ Fld w' b m ∧ Step b w w' := by
  have HE : Hid (rowS m xs = []) := he
  clear he
  go_enter Tryd.func23, Tryd.ntmps23
  go_wp2_with fail
  refine (row_ok h ap cp xs hx (by omega)).mono ?_
  rintro e w1 ⟨rfl, hO1, hF1, hs1⟩
  rw [HE.out]
  go_wp2_with fail
  refine (row_ok hF1 aq cq ys (hy.step hs1) (by omega)).mono ?_
  rintro e w2 ⟨rfl, hO2, hF2, hs2⟩
  go_wp2
  go_ret
  exact ⟨rfl, hF2, hs1.trans hs2⟩
set_option maxHeartbeats 3200000 in
theorem law_GfDivides (c : Int) (hc : I64 c) (ap : Option Addr) (lp cp : Nat) (xs : List Int) {w : World} (hx : Arg w ap lp xs) (hlp : lp ≤ 17592186044416) (aq : Option Addr) (lq cq : Nat) (ys : List Int) (hy : Arg w aq lq ys) (hlq : lq ≤ 17592186044416) (ar : Option Addr) (lr cr : Nat) (us : List Int) (hu : Arg w ar lr us) (hlr : lr ≤ 17592186044416) (hG : Glob w) (h0 : 0 < w.heap.size) :
    Calls Tryd.prog 4 #[num c, .slice ap lp cp, .slice aq lq cq, .slice ar lr cr] w fun e w' => e = .returned (.bool true) ∧ w.grownBy w' none := by
  have hn := hnot
  obtain rfl : xs.length = lp := hx.1
  obtain rfl : ys.length = lq := hy.1
  obtain rfl : us.length = lr := hu.1
  have hem := pick_em c
  obtain ⟨m, hm⟩ : ∃ m, m = pickS c := ⟨_, rfl⟩
  have HM : Hid (m = pickS c) := hm
  rw [← hm] at hem
  clear hm
  by_cases hbig : 40 < xs.length ∨ 40 < ys.length ∨ 40 < us.length
  · by_cases h1 : (40 : Int) < (xs.length : Int)
    · clear hbig
      go_enter Tryd.func4, Tryd.ntmps4
      go_wp2_with fail
      refine (awake_ok w hG h0).mono ?_
      rintro e w1 ⟨rfl, hg1⟩
      go_wp2_with fail
      refine (field_ok c hc _).mono ?_
      rintro e w2 ⟨rfl, rfl⟩
      go_wp2_with fail
      go_ret
      exact ⟨rfl, grownBy_trans hg1 (World.grownBy_alloc _ _ none)⟩
    by_cases h2 : (40 : Int) < (ys.length : Int)
    · clear hbig
      go_enter Tryd.func4, Tryd.ntmps4
      go_wp2_with fail
      refine (awake_ok w hG h0).mono ?_
      rintro e w1 ⟨rfl, hg1⟩
      go_wp2_with fail
      refine (field_ok c hc _).mono ?_
      rintro e w2 ⟨rfl, rfl⟩
      go_wp2_with fail
      go_ret
      exact ⟨rfl, grownBy_trans hg1 (World.grownBy_alloc _ _ none)⟩
    · have h3 : (40 : Int) < (us.length : Int) := by omega
      clear hbig
      go_enter Tryd.func4, Tryd.ntmps4
      go_wp2_with fail
      refine (awake_ok w hG h0).mono ?_
      rintro e w1 ⟨rfl, hg1⟩
      go_wp2_with fail
      refine (field_ok c hc _).mono ?_
      rintro e w2 ⟨rfl, rfl⟩
      go_wp2_with fail
      go_ret
      exact ⟨rfl, grownBy_trans hg1 (World.grownBy_alloc _ _ none)⟩
  have h1' : ¬ (40 : Int) < (xs.length : Int) := by omega
  have h2' : ¬ (40 : Int) < (ys.length : Int) := by omega
  have h3' : ¬ (40 : Int) < (us.length : Int) := by omega
  have d1 : decide ((40 : Int) < (xs.length : Int)) = false := by simp; omega
  have d2 : decide ((40 : Int) < (ys.length : Int)) = false := by simp; omega
  have d3 : decide ((40 : Int) < (us.length : Int)) = false := by simp; omega
  obtain ⟨i0, hi, hz0, hz1, hz2⟩ := info_parts Tryd.info3
  have HTq : Hid _ := times_one hem ys
  have HTr : Hid _ := times_one hem us
  go_enter Tryd.func4, Tryd.ntmps4
  go_wp2_with fail
  refine (awake_ok w hG h0).mono ?_
  rintro e w1 ⟨rfl, hg1⟩
  have hF := Fld_new hem (hG.kept (hg1.block 0 h0 (by simp))) (show 0 < w1.heap.size by have := hg1.size; omega)
  have hRx : Rd w1.heap.size (w1.alloc (blk m 0 (.slice none 0 0) (.slice none 0 0))) ap xs := ((hx.kept hg1).kept (World.grownBy_alloc _ _ none)).rd' (hx.kept hg1)
  have hRy : Rd w1.heap.size (w1.alloc (blk m 0 (.slice none 0 0) (.slice none 0 0))) aq ys := ((hy.kept hg1).kept (World.grownBy_alloc _ _ none)).rd' (hy.kept hg1)
  have hRu : Rd w1.heap.size (w1.alloc (blk m 0 (.slice none 0 0) (.slice none 0 0))) ar us := ((hu.kept hg1).kept (World.grownBy_alloc _ _ none)).rd' (hu.kept hg1)
  clear hbig hx hy hu
  go_wp2_with fail
  refine (field_ok c hc _).mono ?_
  rintro e w2 ⟨rfl, rfl⟩
  rw [← HM.out]
  obtain ⟨W0, hW0⟩ : ∃ W0, W0 = w1.alloc (blk m 0 (.slice none 0 0) (.slice none 0 0)) := ⟨_, rfl⟩
  have HW0 : Hid (W0 = w1.alloc (blk m 0 (.slice none 0 0) (.slice none 0 0))) := hW0
  rw [← hW0] at hF hRx hRy hRu ⊢
  clear hW0
  have hst1 := Step.alloc hF (.cells (vals [1]).toArray 3)
  have hF1 := hF.alloc (.cells (vals [1]).toArray 3)
  have hRn1 := Rd_new hF [1]
  have ht1 : Calls Tryd.prog 23 #[ptr w1.heap.size, .slice aq ys.length cq, .slice (some ⟨W0.heap.size, 0, none⟩) 1 1] (W0.alloc (.cells #[num 1] 3)) _ :=
    times_ok hF1 aq (some ⟨W0.heap.size, 0, none⟩) cq 1 ys (ints [1]) (hRy.step hst1) hRn1 (by omega) (by simp [ints])
  have HT1 : Hid (Calls Tryd.prog 23 #[ptr w1.heap.size, .slice aq ys.length cq, .slice (some ⟨W0.heap.size, 0, none⟩) 1 1] (W0.alloc (.cells #[num 1] 3)) _) := ht1
  clear ht1 hRn1
  go_wp2_with fail
  refine HT1.out.mono ?_
  rintro e w3 ⟨vq, rfl, hRq, hF3, hs3⟩
  rw [HTq.out] at hRq
  have hS3 := hst1.trans hs3
  obtain ⟨aQ, cQ, rfl, hRdq⟩ := hRq.rd
  have hst3 := Step.alloc hF3 (.cells (vals [1]).toArray 3)
  have hF3' := hF3.alloc (.cells (vals [1]).toArray 3)
  have hRn3 := Rd_new hF3 [1]
  have ht3 : Calls Tryd.prog 23 #[ptr w1.heap.size, .slice ar us.length cr, .slice (some ⟨w3.heap.size, 0, none⟩) 1 1] (w3.alloc (.cells #[num 1] 3)) _ :=
    times_ok hF3' ar (some ⟨w3.heap.size, 0, none⟩) cr 1 us (ints [1]) (hRu.step (hS3.trans hst3)) hRn3 (by omega) (by simp [ints])
  have HT3 : Hid (Calls Tryd.prog 23 #[ptr w1.heap.size, .slice ar us.length cr, .slice (some ⟨w3.heap.size, 0, none⟩) 1 1] (w3.alloc (.cells #[num 1] 3)) _) := ht3
  clear ht3 hRn3 HT1
  go_wp2_with fail
  refine HT3.out.mono ?_
  rintro e w4 ⟨vr, rfl, hRr, hF4, hs4⟩
  rw [HTr.out] at hRr
  have hS4 := hS3.trans (hst3.trans hs4)
  have hRdq4 := hRdq.step (hst3.trans hs4)
  obtain ⟨aR, cR, rfl, hRdr⟩ := hRr.rd
  have hRx4 := hRx.step hS4
  have hfin : ∀ {W}, Step w1.heap.size W0 W → w.grownBy W none := fun hW => grownBy_trans hg1 (by rw [HW0.out] at hW; exact hW.since)
  have HFin : Hid _ := @hfin
  clear hfin HT3 hst1 hst3 hF1 hF3 hF3' hs3 hs4 hS3 hRdq hF hRx hRy hRu hRq hRr
  have hPE := rowS_els m xs
  have hQE := rowS_els m ys
  have hRE := rowS_els m us
  have tQ := rowS_trimmed m ys
  have tR := rowS_trimmed m us
  have lP := rowS_len m xs
  have lQ := rowS_len m ys
  have lR := rowS_len m us
  obtain ⟨Q, hQe⟩ : ∃ Q, Q = rowS m ys := ⟨_, rfl⟩
  obtain ⟨R, hRe⟩ : ∃ R, R = rowS m us := ⟨_, rfl⟩
  rw [← hQe] at hRdq4 hQE tQ lQ
  rw [← hRe] at hRdr hRE tR lR
  rw [← hQe, ← hRe]
  rw [ints_len, ints_len]
  clear hQe hRe HTq HTr
  by_cases hq0 : Q.length = 0
  · have hq0' : ((Q.length : Int) == 0) = true := by simp [hq0]
    clear hq0
    go_wp2_with fail
    go_ret
    exact ⟨rfl, HFin.out hS4⟩
  have hq0' : ((Q.length : Int) == 0) = false := by simp; exact fun e => hq0 (by rw [e]; rfl)
  by_cases hrq : Q.length ≤ R.length
  · have hrq' : (Q.length : Int) ≤ (R.length : Int) := by omega
    clear hq0 hrq
    go_wp2_with fail
    go_ret
    exact ⟨rfl, HFin.out hS4⟩
  have hrq' : ¬ (Q.length : Int) ≤ (R.length : Int) := by omega
  have hqn : Q ≠ [] := fun e => hq0 (by rw [e]; rfl)
  have d4 : decide ((Q.length : Int) ≤ (R.length : Int)) = false := by simp; omega
  have hN0 : ∀ k, nth (tmS m (rowS m xs) Q) k = cv m (rowS m xs) Q k := fun k => nth_tm m _ _ k
  have hE0 := tm_els hem (rowS m xs) Q
  have hL1 : (tmS m (rowS m xs) Q).length ≤ 80 := by
    unfold tmS
    split
    · simp
    · rw [outer_len]; simp; omega
  have HT : Hid (Calls Tryd.prog 23 #[ptr w1.heap.size, .slice ap xs.length cp, .slice aQ Q.length cQ] w4 fun e w' => ∃ v, e = .returned v ∧ Res w1.heap.size w' w4.heap.size v (tmS m (rowS m xs) Q) ∧ Fld w' w1.heap.size m ∧ Step w1.heap.size w4 w' ∧ (R.length ≤ (tmS m (rowS m xs) Q).length ∨ (v = .slice none 0 0 ∧ tmS m (rowS m xs) Q = []))) := by
    by_cases he : rowS m xs = []
    · have ht := times_empty hF4 ap aQ cp cQ xs (ints Q) hRx4 hRdq4 (by omega) (by rw [ints_len]; omega) he
      rw [ints_len] at ht
      refine ht.mono ?_
      rintro e w' ⟨rfl, h1, h2⟩
      have e0 : tmS m (rowS m xs) Q = [] := by unfold tmS; rw [if_pos (.inl he)]
      exact ⟨_, rfl, .inl ⟨rfl, e0⟩, h1, h2, .inr ⟨rfl, e0⟩⟩
    · have ht := times_ok hF4 ap aQ cp cQ xs (ints Q) hRx4 hRdq4 (by omega) (by rw [ints_len]; omega)
      rw [ints_len, rowS_ints hQE, trim_of_trimmed tQ] at ht
      refine ht.mono ?_
      rintro e w' ⟨v, rfl, h1, h2, h3⟩
      refine ⟨_, rfl, h1, h2, h3, .inl ?_⟩
      unfold tmS
      rw [if_neg (by rintro (e | e); exact he e; exact hqn e), outer_len]
      have : (rowS m xs).length ≠ 0 := fun h => he (List.eq_nil_of_length_eq_zero h)
      simp; omega
  obtain ⟨S0, hS0⟩ : ∃ S0, S0 = tmS m (rowS m xs) Q := ⟨_, rfl⟩
  rw [← hS0] at hN0 hE0 hL1 HT
  clear hS0
  obtain ⟨P0, hP0⟩ : ∃ P0, P0 = rowS m xs := ⟨_, rfl⟩
  rw [← hP0] at hN0 hPE
  clear hP0 lP
  have HN0 : Hid _ := hN0
  clear hN0
  go_wp2_with fail
  refine HT.out.mono ?_
  rintro e w5 ⟨v5, rfl, hR5, hF5, hs5, hor⟩
  have hS5 := hS4.trans hs5
  have hRdq5 := hRdq4.step hs5
  have hRdr5 := hRdr.step hs5
  have hstart : R.length ≤ S0.length ∨ Grows w1.heap.size w5.heap.size w5 v5 S0 := by
    rcases hor with h | ⟨rfl, rfl⟩
    · exact .inl h
    · exact .inr ⟨World.ownsRow_nil _ _ _ _, fun r hr => hF5.free_new hr, Nat.le_refl _⟩
  have h45 := hs5.size
  clear HT hRx4 hor
  go_wp2_with fail
  go_loopg [12] R.length (fun gk v wr => ∃ S : List Nat, R.length ≤ S.length + gk ∧ S.length ≤ 80 ∧ Els m S ∧ (∀ k, nth S k = cv m P0 Q k) ∧ Res w1.heap.size wr w4.heap.size v S ∧ Fld wr w1.heap.size m ∧ Step w1.heap.size w5 wr ∧ (R.length ≤ S.length ∨ Grows w1.heap.size w5.heap.size wr v S))
  case atStart => exact ⟨S0, by omega, hL1, hE0, HN0.out, hR5, hF5, Step.refl _ _, hstart⟩
  case round =>
    obtain ⟨S, hSg, hS80, hSE, hSN, hSR, hSF, hSS, hSO⟩ := hrel
    have HSN : Hid _ := hSN
    clear hSN hR5 hstart HN0
    obtain ⟨aS, cS, rfl⟩ := Res.slice hSR
    by_cases hlt : S.length < R.length
    · have hlt' : (S.length : Int) < (R.length : Int) := by omega
      have hGr := hSO.resolve_left (by omega)
      clear hSO
      go_wp2_with (first | (at_builtin; refine wpList_append_own _ rfl _ _ 30 rfl w5.heap.size 3 i0 (.int .i64 0) 1 8 Tryd.underlying30 hi hz0 hz1 hz2 rfl (by decide) _ _ _ rfl (hGr.1.alloc _) ⟨wr.heap.size, 0, none⟩ 1 1 [.int .i64 0] rfl rfl ?c1 ?c2 ?c3 ?c4 ?c5 ?_))
      case c1 => exact cell_one_new _ _ _
      case c2 => intro u hu; simp at hu; subst hu; rfl
      case c3 => unfold maxLen; omega
      case c4 => omega
      case c5 => have := hGr.2.2; simp; omega
      intro v' w6 hown hgrow _
      have hA := Grows.append hSF hSS hF5.lt hGr hown hgrow
      have hRes := hA.1.res (B0 := w4.heap.size) h45
      have HNs : Hid (∀ k, nth (S ++ [0]) k = cv m P0 Q k) := fun k => by rw [nth_snoc_zero]; exact HSN.out k
      have hEs : Els m (S ++ [0]) := fun k => by rw [nth_snoc_zero]; exact hSE k
      clear hown hgrow hGr hSR hSF hSS
      go_wp2_with fail
      go_roundg (gk - 1)
      case measure => omega
      case rel => exact ⟨S ++ [0], by simp; omega, by simp; omega, hEs, HNs.out, hRes, hA.2.1, hA.2.2, .inr hA.1⟩
    · have hlt' : ¬ (S.length : Int) < (R.length : Int) := by omega
      have hS6 := hS5.trans hSS
      have hRdq6 := hRdq5.step hSS
      have hRdr6 := hRdr5.step hSS
      have hlen6 := hSS.size
      have HDv : Hid _ := divides hem hPE hQE tQ hqn hRE tR (by omega) hSE HSN.out (by omega)
      have hAE := els_addR hSE hRE R.length
      have hAl := addR_len S R R.length
      by_cases hR0 : R.length = 0
      · obtain rfl : R = [] := List.eq_nil_of_length_eq_zero hR0
        obtain ⟨aS', cS', he', hRdS⟩ := hSR.rd
        rw [ints_len] at he'
        have hrs := rest_ok hSF aS aQ cS cQ (ints S) (ints Q) (by rw [show aS = aS' by simpa using congrArg (fun v => match v with | .slice a _ _ => a | _ => none) he']; exact hRdS) hRdq6 (by rw [ints_len]; omega) (by rw [ints_len]; omega)
        rw [ints_len, ints_len] at hrs
        have HRs : Hid (Calls Tryd.prog 25 #[ptr w1.heap.size, .slice aS S.length cS, .slice aQ Q.length cQ] wr _) := hrs
        clear hrs
        go_wp2_with fail
        go_loopg [13] 0 (fun gk c ws => c = num 0 ∧ ws = wr)
        case atStart => exact ⟨rfl, rfl⟩
        case round =>
          obtain ⟨rfl, rfl⟩ := hrel
          go_wp2_with fail
          refine HRs.out.mono ?_
          rintro e w7 ⟨v7, rfl, hR7, hF7, hs7⟩
          rw [show addR S [] ([] : List Nat).length = S from rfl] at HDv
          rw [HDv.out] at hR7
          obtain ⟨a7, c7, rfl, hRd7⟩ := hR7.rd
          have hsm := same_ok a7 aR c7 cR (ints []) (ints []) hRd7 (hRdr6.step hs7) (by simp [ints]) (by simp [ints])
          have HSm : Hid (Calls Tryd.prog 24 #[.slice a7 (ints []).length c7, .slice aR (ints []).length cR] w7 _) := hsm
          clear hsm
          go_wp2_with fail
          refine HSm.out.mono ?_
          rintro e w8 ⟨rfl, n8, rfl⟩
          go_wp2_with fail
          go_ret
          exact ⟨by simp, grownBy_drewN (HFin.out (hS6.trans hs7)) _⟩
      · obtain ⟨g, L, e1, hO, hTk, hLe, hgB⟩ := hSR.resolve_left (fun h => absurd (show S.length = 0 by rw [h.2]; rfl) (by omega))
        simp only [Value.slice.injEq, true_and] at e1
        obtain ⟨rfl, rfl⟩ := e1
        have hLs : L = vals S ++ L.drop S.length := by
          rw [← hTk, List.take_append_drop]
        have hTl : (L.drop S.length).length = L.length - S.length := by simp
        obtain ⟨T, hTe⟩ : ∃ T, T = L.drop S.length := ⟨_, rfl⟩
        rw [← hTe] at hLs hTl
        obtain ⟨cL, hcL⟩ : ∃ cL, cL = L.length := ⟨_, rfl⟩
        rw [← hcL] at hLe hTl ⊢
        have HcL : Hid (cL = L.length) := hcL
        rw [hLs] at hO
        have hD0 : DvRel w1.heap.size m w4 wr g S T aQ aR Q R := ⟨hO, hSF, ⟨(hs5.trans hSS).grown, (hs5.trans hSS).free⟩, Rd2.of hRdq4 hgB hRdq6, Rd2.of hRdr hgB hRdr6⟩
        clear hO hTk hLs hTe hcL hSO hRdq5 hRdr5 hRdq6 hRdr6 hSF hSS hSR hS6 hSg hF5 hS5 L HcL hlen6
        go_wp2_with fail
        go_loopw [13] (fun c ws => ∃ i : Nat, i ≤ R.length ∧ c = num i ∧ DvRel w1.heap.size m w4 ws g (addR S R i) T aQ aR Q R) (fun c _ => R.length - (intOf c).toNat)
        case atStart => exact ⟨0, Nat.zero_le _, rfl, hD0⟩
        case round =>
          obtain ⟨i, hir, rfl, hD⟩ := hrel
          have hAl' := addR_len S R i
          by_cases hil : i < R.length
          · obtain ⟨gR, oR, rfl, hgRb, hgRg, hcR⟩ := hD.rr.resolve_left (fun h => absurd (show R.length = 0 by rw [← ints_len R, h]; rfl) (by omega))
            have cr1 : wr.cell? ⟨gR, oR + i, none⟩ = some (num (nth R i : Nat)) := by rw [hcR i (by rw [ints_len]; exact hil), ints_getD]
            have cs1 : wr.cell? ⟨g, i, none⟩ = some (num (nth (addR S R i) i : Nat)) := hD.cell (by omega)
            have zs1 : wr.frozen? ⟨g, i, none⟩ = false := hD.own.frozen _
            have HAe : Hid (el m (nth (addR S R i) i : Int) = nth (addR S R i) i) := el_of (els_addR hSE hRE i i)
            have HRe : Hid (el m (nth R i : Int) = nth R i) := el_of (hRE i)
            have hel : num (el m (nth (addR S R i) i : Int) ^^^ el m (nth R i : Int) : Nat) = num (nth (addR S R i) i ^^^ nth R i : Nat) := by rw [HAe.out, HRe.out]
            have HI : Hid (addR S R (i + 1) = put (addR S R i) i (nth R i)) := rfl
            have hN := hD.drew.store (by omega) i (nth R i) (by omega)
            have b1 : (i : Int) < (R.length : Int) := by omega
            have b2 : (0 : Int) ≤ (i : Int) := by omega
            have b3 : (i : Int) < (S.length : Int) := by omega
            obtain ⟨A1, hA1⟩ : ∃ A1, A1 = nth (addR S R i) i := ⟨_, rfl⟩
            rw [← hA1] at cs1 hel hN
            clear hA1 HAe HRe hcR
            go_wp2_with fail
            go_region_with (go_at_call 12; refine (add_ok hD.fld.drew _ _).mono ?_; rintro e w' ⟨rfl, rfl⟩; rw [hel])
            all_goals
              go_wp2
              go_roundw
              case rel => exact ⟨i + 1, by omega, by go_num, by rw [HI.out]; exact hN⟩
              case measure => simp [intOf]; omega
          · obtain rfl : i = R.length := by omega
            have hDO := hD.own
            obtain ⟨S', hS'⟩ : ∃ S', S' = addR S R R.length := ⟨_, rfl⟩
            rw [← hS'] at hD hAl' HDv hAE hAl hDO
            have hRdS : Rd w1.heap.size wr (some ⟨g, 0, none⟩) (ints S') := by
              refine .inr ⟨g, 0, rfl, hDO.free.1, fun k hk => ?_⟩
              rw [ints_len] at hk
              rw [Nat.zero_add, hD.cell hk, ints_getD]
            have hrs := rest_ok hD.fld (some ⟨g, 0, none⟩) aQ cL cQ (ints S') (ints Q) hRdS hD.rq.rd (by rw [ints_len]; omega) (by rw [ints_len]; omega)
            rw [ints_len, ints_len, hAl, HDv.out] at hrs
            have HRs : Hid (Calls Tryd.prog 25 #[ptr w1.heap.size, .slice (some ⟨g, 0, none⟩) S.length cL, .slice aQ Q.length cQ] wr _) := hrs
            have hS6 := hS4.trans hD.since.toStep
            have hrr := hD.rr.rd
            clear hrs hD hDO hRdS
            go_wp2_with fail
            refine HRs.out.mono ?_
            rintro e w7 ⟨v7, rfl, hR7, hF7, hs7⟩
            obtain ⟨a7, c7, rfl, hRd7⟩ := hR7.rd
            have hsm := same_ok a7 aR c7 cR (ints R) (ints R) hRd7 (hrr.step hs7) (by rw [ints_len]; omega) (by rw [ints_len]; omega)
            rw [ints_len] at hsm
            have HSm : Hid (Calls Tryd.prog 24 #[.slice a7 R.length c7, .slice aR R.length cR] w7 _) := hsm
            rw [ints_len]
            clear hsm
            go_wp2_with fail
            refine HSm.out.mono ?_
            rintro e w8 ⟨rfl, n8, rfl⟩
            go_wp2_with fail
            go_ret
            exact ⟨by simp, grownBy_drewN (HFin.out (hS6.trans hs7)) _⟩
end Go.Proofs.YtkbafbhhoemkcaaDoor
