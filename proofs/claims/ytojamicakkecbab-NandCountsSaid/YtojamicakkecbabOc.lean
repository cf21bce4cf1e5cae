/- Layer 4 (nand): the walk of turn. -/
import Derived.Test.YtojamicakkecbabOa
namespace Go.Proofs.Ytojamicakkecbab
open Go.RowKit Go.Maps
namespace Nd
theorem shrI (r : Nat) : (128 : Int) / (2 : Int) ^ r = ((128 >>> r : Nat) : Int) := by
  rw [Nat.shiftRight_eq_div_pow, Int.natCast_ediv, Int.natCast_pow]; rfl
theorem FlipAt.of_heap {w w' : World} {lab : Lab} {d b g k gb : Nat} {F : Flip} (h : FlipAt w lab d b g k F gb) (e1 : w'.heap[g]? = w.heap[g]?) (e2 : w'.heap[gb]? = w.heap[gb]?) : FlipAt w' lab d b g k F gb :=
  ⟨h.lg, h.page.of_heap e1, h.frm.of_heap e1, h.times.of_heap e1, h.sl.of_heap e1, h.lb, fun i hi => by rw [cell_of_block e2]; exact h.bits i hi⟩
set_option maxHeartbeats 1600000 in
set_option maxRecDepth 4000 in
theorem turn_no {w : World} {M : Lay} {lab : Lab} {s : Nat} {n : Int} {d b p : Nat} {v : Value} (hs : w.heap[s]? = some (stepO M n d b p v)) {g k gb : Nat} {F : Flip} (hF : FlipAt w lab d b g k F gb) (hh : ¬ F.hit p n) :
    Calls Try.prog 36 #[ptr s 0, ptr g (k * 4)] w fun e w' => e = .returned (.tuple #[]) ∧ ∃ nq, w' = w.drewN nq := by
  obtain ⟨c0, c1, c2, c3, c4, c5⟩ := step_cells hs
  have k0 := hF.page.1
  have k1 := hF.frm.1
  have k2 := hF.times.1
  by_cases h1 : F.page = p
  · have q1 : (F.page != (p : Int)) = false := by simp [h1]
    by_cases h2 : n < F.frm
    · clear h1 hh
      go_enter Try.func36, Try.ntmps36
      go_wp2_with fail
      go_quiet (fail)
      go_wp2
      (try simp only [Exit.inBlock, Exit.then]); refine bodyPost_ret (results_none rfl _ _ _) rfl ?_
      exact ⟨rfl, _, rfl⟩
    · have h3 : F.times = 0 := Classical.byContradiction fun h3 => hh ⟨h1, by omega, h3⟩
      have q2 : (F.times == 0) = true := by simp [h3]
      clear h1 h3 hh
      go_enter Try.func36, Try.ntmps36
      go_wp2_with fail
      go_quiet (fail)
      go_wp2
      (try simp only [Exit.inBlock, Exit.then]); refine bodyPost_ret (results_none rfl _ _ _) rfl ?_
      exact ⟨rfl, _, rfl⟩
  · have q1 : (F.page != (p : Int)) = true := by simp [h1]
    clear h1 hh
    go_enter Try.func36, Try.ntmps36
    go_wp2_with fail
    go_quiet (fail)
    go_wp2
    (try simp only [Exit.inBlock, Exit.then]); refine bodyPost_ret (results_none rfl _ _ _) rfl ?_
    exact ⟨rfl, _, rfl⟩
set_option maxHeartbeats 3200000 in
set_option maxRecDepth 4000 in
theorem turn_yes {w : World} {M : Lay} {A : St} {lab : Lab} (h : Arr w M A lab) (hok : FlOk A) {s : Nat} {n : Int} {d b p g2 : Nat} (hs : w.heap[s]? = some (stepO M n d b p (.slice (some ⟨g2, 0, none⟩) A.Y A.Y))) (hsl : lab s = some .step) (hgl : lab g2 = some .step) (hne : s ≠ g2)
    {bs : List Nat} (hg2 : w.heap[g2]? = some (.cells (valsB bs).toArray 5)) (hlen : bs.length = A.Y) (hle : ∀ i, nth bs i ≤ 255) (hd : d < A.D) (hb : b < A.B) {g k gb cap : Nat} (hk : k < (A.blk d b).flips.length)
    (hv : w.cell? ⟨M.bk d, b * 7 + 6, none⟩ = some (.slice (some ⟨g, 0, none⟩) (A.blk d b).flips.length cap)) (hF : FlipAt w lab d b g k (nthF (A.blk d b).flips k) gb) (hh : (nthF (A.blk d b).flips k).hit p n) :
    Calls Try.prog 36 #[ptr s 0, ptr g (k * 4)] w fun e w' => e = .returned (.tuple #[]) ∧ Arr w' M ((A.upB d b (Blk.decF k)).setCnt 3 (wr (A.cnt 3 + ((nthF (A.blk d b).flips k).bits.length : Nat)))) lab ∧ Stp lab lab w w' ∧ w'.heap[s]? = w.heap[s]? ∧ w'.heap[g2]? = some (.cells (valsB (tbs bs (nthF (A.blk d b).flips k).bits)).toArray 5) := by
  have HD : Hid (∀ nq, Arr ((w.drewN nq).setCell ⟨g, k * 4 + 2, none⟩ (num ((nthF (A.blk d b).flips k).times - 1))) M (A.upB d b (Blk.decF k)) lab ∧ Stp lab lab w ((w.drewN nq).setCell ⟨g, k * 4 + 2, none⟩ (num ((nthF (A.blk d b).flips k).times - 1)))) := fun nq =>
    ⟨(h.drewN nq).decF hd hb hk hF.lg hv, ((Stp.refl lab w).drewN nq).set (.inl (by rw [hF.lg]; simp)) _⟩
  have hok1 := hok d b _ (mem_nthF hk)
  have HC : Hid (A.cnt 3 = (A.upB d b (Blk.decF k)).cnt 3) := rfl
  obtain ⟨A1, hA1⟩ : ∃ A1, A1 = A.upB d b (Blk.decF k) := ⟨_, rfl⟩
  rw [← hA1] at HD HC ⊢
  have la := h.la
  generalize nthF (A.blk d b).flips k = F at hok1 hF hh HD ⊢
  obtain ⟨t0, t1, t2, t3⟩ := hok1
  obtain ⟨h1, h2, h3⟩ := hh
  obtain ⟨c0, c1, c2, c3, c4, c5⟩ := step_cells hs
  have k0 := hF.page.1
  have k1 := hF.frm.1
  obtain ⟨k2, z2⟩ := hF.times
  have k3 := hF.sl.1
  have q1 : (F.page != (p : Int)) = false := by simp [h1]
  have q2 : ¬ n < F.frm := by omega
  have q3 : (F.times == 0) = false := by simpa using h3
  have q4 : IntKind.i64.wrap (F.times - 1) = F.times - 1 := by rw [IntKind.wrap_i64]; omega
  have hgs : g ≠ s := fun e => by have := hF.lg; rw [e, hsl] at this; cases this
  have hgg2 : g ≠ g2 := fun e => by have := hF.lg; rw [e, hgl] at this; cases this
  have hbs : gb ≠ s := fun e => by have := hF.lb; rw [e, hsl] at this; cases this
  have hbg2 : gb ≠ g2 := fun e => by have := hF.lb; rw [e, hgl] at this; cases this
  have hbg : gb ≠ g := fun e => by have := hF.lb; rw [e, hF.lg] at this; cases this
  have has : M.a ≠ s := fun e => by rw [e, hsl] at la; cases la
  have hag2 : M.a ≠ g2 := fun e => by rw [e, hgl] at la; cases la
  have hag : M.a ≠ g := fun e => by have := hF.lg; rw [← e, la] at this; cases this
  have hbits := hF.bits
  have hsl3 := hF.sl
  have HY : Hid (A.Y = bs.length) := hlen.symm
  have yl : (bs.length : Int) ≤ 4096 := by have := h.dims.y2; omega
  have HFo : Hid (Try.prog.follows .mixedOrders = true) := follows_mixed
  rw [← hlen] at t3 hs c5
  clear hok hk hv hlen h1 h2 h3 hA1 hd hb
  go_enter Try.func36, Try.ntmps36
  go_wp2_with fail
  go_quiet (fail)
  obtain ⟨HA, HS⟩ := HD.out nq
  clear HD
  have hgb : gb < w.heap.size := h.lt gb (by rw [hF.lb]; simp)
  have hsz : s < w.heap.size := lt_of_heap hs
  have HW : Hid (∃ W1 : World, W1 = (w.drewN nq).setCell ⟨g, k * 4 + 2, none⟩ (num (F.times - 1)) ∧ Arr W1 M A1 lab ∧ Stp lab lab w W1 ∧ W1.heap[s]? = w.heap[s]? ∧ W1.heap[gb]? = w.heap[gb]? ∧ W1.heap[g2]? = some (.cells (valsB bs).toArray 5) ∧ At W1 g (k * 4 + 3) (.slice (some ⟨gb, 0, none⟩) F.bits.length F.bits.length)) :=
    ⟨_, rfl, HA, HS, setCell_else hgs.symm _, setCell_else hbg _, (setCell_else hgg2.symm _).trans hg2, At.set_off (w := w.drewN nq) hsl3 (by omega) _⟩
  clear HA HS
  go_wp2_with fail
  obtain ⟨W1, hW1, HA, HS, e1, e2, e3, e4⟩ := HW.out
  rw [← hW1]
  clear HW hW1 c0 c1 c2 c3 c4 k0 k1 k2 z2 k3 hg2 hsl3
  go_loopw [45] (fun i wr => ∃ j : Nat, j ≤ F.bits.length ∧ i = num j ∧ W1.grownBy wr (some g2) ∧ wr.heap[g2]? = some (.cells (valsB (tbs bs (F.bits.take j))).toArray 5)) (fun i _ => F.bits.length - (intOf i).toNat)
  case atStart => exact ⟨0, Nat.zero_le _, rfl, ⟨rfl, rfl, rfl, Nat.le_refl _, fun _ _ _ => rfl⟩, e3⟩
  case round =>
    obtain ⟨j, hj, rfl, hg, hrow⟩ := hrel
    by_cases hjl : j < F.bits.length
    · have q5 : (j : Int) < (F.bits.length : Int) := by omega
      have hcj : wr.cell? ⟨gb, j, none⟩ = some (num (nthI F.bits j)) := by
        rw [cell_of_block (hg.block gb (by have := HS.size; omega) (fun e => hbg2 (Option.some.inj e))), cell_of_block e2]; exact hbits j hjl
      have hcs : wr.cell? ⟨s, 5, none⟩ = some (.slice (some ⟨g2, 0, none⟩) bs.length bs.length) := by
        rw [cell_of_block (hg.block s (by have := HS.size; omega) (fun e => hne (Option.some.inj e))), cell_of_block e1]; exact c5
      obtain ⟨x0, x1⟩ := t3 j hjl
      obtain ⟨X, hX⟩ := Int.eq_ofNat_of_zero_le x0
      have hnext := tbs_next bs F.bits hjl
      rw [hX] at hcj hnext x1
      have hT : (tbs bs (F.bits.take j)).length = bs.length := tbs_len _ _
      have hTle := tbs_le (F.bits.take j) hle
      obtain ⟨T, eT⟩ : ∃ T, T = tbs bs (F.bits.take j) := ⟨_, rfl⟩
      rw [← eT] at hT hTle hrow hnext
      obtain ⟨I, hI⟩ : ∃ I, I = X / 8 := ⟨_, rfl⟩
      obtain ⟨R, hR⟩ : ∃ R, R = X % 8 := ⟨_, rfl⟩
      have eI : (X : Int) / 8 = (I : Int) := by omega
      have eR : Int.tmod (X : Int) 8 = (R : Int) := by rw [Int.tmod_eq_emod_of_nonneg (by omega)]; omega
      have r8 : R < 8 := by omega
      have hx8 : I < bs.length := by omega
      have q6 : (I : Int) < (bs.length : Int) := by omega
      have q7 : IntKind.i64.wrap (I : Int) = (I : Int) := by rw [IntKind.wrap_i64]; omega
      have q8 : IntKind.i64.wrap (R : Int) = (R : Int) := by rw [IntKind.wrap_i64]; omega
      have q9 : (R : Int) ≤ 8 := by omega
      have cc : wr.cell? ⟨g2, I, none⟩ = some (.int .u8 (nth T I : Nat)) := by rw [cell_row hrow]; exact valsB_at (by omega)
      have zz : wr.frozen? ⟨g2, I, none⟩ = false := frozen_row hrow
      have HV : Hid (bits .xor .u8 ((nth T I : Nat) : Int) ((128 : Int) / (2 : Int) ^ R) = ((nth T I ^^^ 128 >>> R : Nat) : Int)) := by
        rw [Hid, shrI]; exact xor_u8 (hTle _) (Nat.le_trans (shr_le _) (by decide))
      have HN : Hid (W1.grownBy (wr.drew.setCell ⟨g2, I, none⟩ (.int .u8 ((nth T I ^^^ 128 >>> R : Nat) : Int))) (some g2) ∧ (wr.drew.setCell ⟨g2, I, none⟩ (.int .u8 ((nth T I ^^^ 128 >>> R : Nat) : Int))).heap[g2]? = some (.cells (valsB (tbs bs (F.bits.take (j + 1)))).toArray 5)) := by
        refine ⟨grownBy_setCell (grownBy_drew hg) (.inr rfl) _, ?_⟩
        rw [setCell_row (w := wr.drew) hrow, valsB_set, hnext, hI, hR]
        rfl
      clear hI hR
      clear hg hrow hnext eT hX
      go_wp2_with fail
      go_still_tail 13, HFo.out
      rw [HV.out]
      go_wp2
      go_roundw
      case rel => exact ⟨j + 1, by omega, by go_num, HN.out.1, HN.out.2⟩
      case measure => simp [intOf]; omega
    · obtain rfl : j = F.bits.length := by omega
      have q5 : ¬ (F.bits.length : Int) < (F.bits.length : Int) := by omega
      rw [List.take_length] at hrow
      have hAr : Arr wr M A1 lab := HA.kept (fun x r hr hs2 => ⟨hg.block x (HA.lt x (by rw [hr]; simp)) (fun e => by
        have := Option.some.inj e
        rw [this, hgl] at hr; exact hs2 (Option.some.inj hr).symm), hr⟩) (fun x hx => Nat.lt_of_lt_of_le (HA.lt x hx) hg.size)
      have hSr : Stp lab lab w wr := ⟨hg.os.trans HS.os, hg.tape.trans HS.tape, hg.output.trans HS.output, Nat.le_trans HS.size hg.size, fun x hx hl => (hg.block x (Nat.lt_of_lt_of_le hx HS.size) (fun e => by
        have := Option.some.inj e
        rw [this, hgl] at hl; cases hl)).trans (HS.same x hx hl), HS.own⟩
      have hsr : wr.heap[s]? = w.heap[s]? := (hg.block s (by have := HS.size; omega) (fun e => hne (Option.some.inj e))).trans e1
      have d0 : wr.cell? ⟨s, 0, none⟩ = some (ptr M.a 0) := (step_cells (hsr.trans hs)).1
      have d1 : wr.cell? ⟨g, k * 4 + 3, none⟩ = some (.slice (some ⟨gb, 0, none⟩) F.bits.length F.bits.length) := by
        rw [cell_of_block (hg.block g (HA.lt g (by rw [hF.lg]; simp)) (fun e => hgg2 (Option.some.inj e)))]; exact e4.1
      have HAd : Hid (Calls Try.prog 33 #[ptr M.a 10, num (F.bits.length : Nat)] wr.drew fun e w' => e = .returned (num (Nd.wr (A1.cnt 3 + (F.bits.length : Nat)))) ∧ w' = wr.drew.setCell ⟨M.a, 10, none⟩ (num (Nd.wr (A1.cnt 3 + (F.bits.length : Nat))))) :=
        add_ok (w := wr.drew) _ (hAr.drew.cCnt 3 (by decide)).1 (hAr.drew.cCnt 3 (by decide)).2
      have HE : Hid (Arr (wr.drew.setCell ⟨M.a, 10, none⟩ (num (Nd.wr (A1.cnt 3 + (F.bits.length : Nat))))) M (A1.setCnt 3 (Nd.wr (A1.cnt 3 + (F.bits.length : Nat)))) lab ∧ Stp lab lab w (wr.drew.setCell ⟨M.a, 10, none⟩ (num (Nd.wr (A1.cnt 3 + (F.bits.length : Nat))))) ∧ (wr.drew.setCell ⟨M.a, 10, none⟩ (num (Nd.wr (A1.cnt 3 + (F.bits.length : Nat))))).heap[s]? = w.heap[s]? ∧ (wr.drew.setCell ⟨M.a, 10, none⟩ (num (Nd.wr (A1.cnt 3 + (F.bits.length : Nat))))).heap[g2]? = some (.cells (valsB (tbs bs F.bits)).toArray 5)) :=
        ⟨hAr.drew.setCnt (i := 3) (by decide) _, (hSr.drew).set (.inl (by rw [la]; simp)) _, (setCell_else has.symm _).trans hsr, (setCell_else hag2.symm _).trans hrow⟩
      clear hg hrow hAr hSr hsr HA HS e1 e2 e3 e4
      go_wp2_with fail
      go_still_tail 12, HFo.out
      go_wp2_with fail
      refine HAd.out.mono ?_
      rintro e w7 ⟨rfl, rfl⟩
      go_wp2
      go_end0
      rw [HC.out]
      exact ⟨rfl, HE.out.1, HE.out.2.1, HE.out.2.2.1, HE.out.2.2.2⟩
end Nd
end Go.Proofs.Ytojamicakkecbab
