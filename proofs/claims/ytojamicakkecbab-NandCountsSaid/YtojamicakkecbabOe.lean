/- Layer 4 (nand): read, bits turned or not. -/
import Derived.Test.YtojamicakkecbabOc
namespace Go.Proofs.Ytojamicakkecbab
open Go.RowKit Go.Maps
namespace Nd
theorem Arr.drop {wr : World} {M : Lay} {A : St} {lab : Lab} {g2 : Nat} (h : Arr wr M A (addLab lab g2 .step)) : Arr wr M A lab :=
  h.kept (fun x r hr hne => ⟨rfl, by
    unfold addLab at hr
    by_cases e : x = g2
    · rw [if_pos e] at hr; exact absurd (Option.some.inj hr).symm hne
    · rw [if_neg e] at hr; exact hr⟩) (fun x hx => h.lt x (by
    unfold addLab
    by_cases e : x = g2
    · rw [if_pos e]; simp
    · rw [if_neg e]; exact hx))
theorem Stp.drop {lab : Lab} {w w3 wr : World} {g2 : Nat} {r : Role} (st3 : Stp lab lab w w3) (st : Stp (addLab lab g2 r) (addLab lab g2 r) w3 wr) (hg : w.heap.size ≤ g2) : Stp lab lab w wr :=
  ⟨st.os.trans st3.os, st.tape.trans st3.tape, st.output.trans st3.output, Nat.le_trans st3.size st.size, fun x hx hl => (st.same x (Nat.lt_of_lt_of_le hx st3.size) (by
    unfold addLab
    rw [if_neg (by omega)]; exact hl)).trans (st3.same x hx hl), st3.own⟩
theorem FlipsM.form {w : World} {lab : Lab} {d b : Nat} {v : Value} {fs : List Flip} (h : FlipsM w lab d b v fs) : ∃ ao cap, v = .slice ao fs.length cap := by
  rcases h with ⟨h1, h⟩ | ⟨g, cap, _, _, h, _⟩
  · exact ⟨none, 0, by rw [h1]; exact h⟩
  · exact ⟨_, _, h⟩
def ReadFPost (w : World) (M : Lay) (A : St) (lab : Lab) (s : Nat) (n : Int) (d b p : Nat) (w' : World) : Prop :=
  ∃ g, w.heap.size ≤ g ∧ w'.heap[s]? = some (stepO M n d b p (.slice (some ⟨g, 0, none⟩) A.Y A.Y)) ∧ w'.heap[g]? = some (.cells (valsB (turnsB (A.blk d b).flips n p (pageS A.Y ((A.blk d b).pages p)) (A.blk d b).flips.length)).toArray 5) ∧ (turnsB (A.blk d b).flips n p (pageS A.Y ((A.blk d b).pages p)) (A.blk d b).flips.length).length = A.Y ∧ (∀ i, nth (turnsB (A.blk d b).flips n p (pageS A.Y ((A.blk d b).pages p)) (A.blk d b).flips.length) i ≤ 255) ∧ Arr w' M (A.turns n d b p (A.blk d b).flips.length) lab ∧ Stp lab lab w w'
/-- The page is copied; bits are to be turned. -/
structure Started (w w3 : World) (M : Lay) (A : St) (lab : Lab) (s : Nat) (n : Int) (d b p : Nat) : Prop where
  arr : Arr w3 M A lab
  stp : Stp lab lab w w3
  st : w3.heap[s]? = some (stepO M n d b p (.slice (some ⟨w.heap.size, 0, none⟩) A.Y A.Y))
  row : w3.heap[w.heap.size]? = some (.cells (valsB (pageS A.Y ((A.blk d b).pages p))).toArray 5)
  len : (pageS A.Y ((A.blk d b).pages p)).length = A.Y
  le : ∀ i, nth (pageS A.Y ((A.blk d b).pages p)) i ≤ 255
theorem Started.done {w w3 wr : World} {M : Lay} {A : St} {lab : Lab} {s : Nat} {n : Int} {d b p : Nat} (h : Started w w3 M A lab s n d b p) (hA : Arr wr M (A.turns n d b p (A.blk d b).flips.length) (addLab lab w.heap.size .step)) (st : Stp (addLab lab w.heap.size .step) (addLab lab w.heap.size .step) w3 wr) (hs : wr.heap[s]? = w3.heap[s]?)
    (hg : wr.heap[w.heap.size]? = some (.cells (valsB (turnsB (A.blk d b).flips n p (pageS A.Y ((A.blk d b).pages p)) (A.blk d b).flips.length)).toArray 5)) : ReadFPost w M A lab s n d b p wr :=
  ⟨w.heap.size, Nat.le_refl _, hs.trans h.st, hg, (turnsB_len _ _ _ _ _).trans h.len, turnsB_le _ _ _ h.le _, hA.drop, h.stp.drop st (Nat.le_refl _)⟩
theorem turn_ok {w : World} {M : Lay} {A : St} {lab : Lab} (h : Arr w M A lab) (hok : FlOk A) {s : Nat} {n : Int} {d b p g2 : Nat} (hs : w.heap[s]? = some (stepO M n d b p (.slice (some ⟨g2, 0, none⟩) A.Y A.Y))) (hsl : lab s = some .step) (hgl : lab g2 = some .step) (hne : s ≠ g2)
    {bs : List Nat} (hg2 : w.heap[g2]? = some (.cells (valsB bs).toArray 5)) (hlen : bs.length = A.Y) (hle : ∀ i, nth bs i ≤ 255) (hd : d < A.D) (hb : b < A.B) {k : Nat} (hk : k < (A.blk d b).flips.length) :
    ∃ g cap, w.cell? ⟨M.bk d, b * 7 + 6, none⟩ = some (.slice (some ⟨g, 0, none⟩) (A.blk d b).flips.length cap) ∧
    Calls Try.prog 36 #[ptr s 0, ptr g (k * 4)] w fun e w' => e = .returned (.tuple #[]) ∧ Arr w' M (A.turn n d b p k) lab ∧ Stp lab lab w w' ∧ w'.heap[s]? = w.heap[s]? ∧ w'.heap[g2]? = some (.cells (valsB (turnB (nthF (A.blk d b).flips k) n p bs)).toArray 5) := by
  obtain ⟨g, cap, gb, hv, _, hF⟩ := h.flip hd hb hk
  refine ⟨g, cap, hv, ?_⟩
  by_cases hh : (nthF (A.blk d b).flips k).hit p n
  · unfold St.turn turnB
    simp only [if_pos hh]
    exact turn_yes h hok hs hsl hgl hne hg2 hlen hle hd hb hk hv hF hh
  · unfold St.turn turnB
    simp only [if_neg hh]
    refine (turn_no hs hF hh).mono ?_
    rintro e w' ⟨rfl, nq, rfl⟩
    exact ⟨rfl, h.drewN nq, (Stp.refl _ _).drewN nq, rfl, hg2⟩
theorem read_step {w w3 wr : World} {M : Lay} {A : St} {lab : Lab} (hok : FlOk A) {s : Nat} {n : Int} {d b p k : Nat} (hsl : lab s = some .step) (hlt : s < w.heap.size) (hd : d < A.D) (hb : b < A.B) (hS : Started w w3 M A lab s n d b p) (hk : k < (A.blk d b).flips.length)
    (hA : Arr wr M (A.turns n d b p k) (addLab lab w.heap.size .step)) (st : Stp (addLab lab w.heap.size .step) (addLab lab w.heap.size .step) w3 wr) (hs : wr.heap[s]? = w3.heap[s]?) (hg : wr.heap[w.heap.size]? = some (.cells (valsB (turnsB (A.blk d b).flips n p (pageS A.Y ((A.blk d b).pages p)) k)).toArray 5)) :
    ∃ g cap, wr.cell? ⟨M.bk d, b * 7 + 6, none⟩ = some (.slice (some ⟨g, 0, none⟩) (A.blk d b).flips.length cap) ∧
      Calls Try.prog 36 #[ptr s 0, ptr g (k * 4)] wr fun e w7 => e = .returned (.tuple #[]) ∧ Arr w7 M (A.turns n d b p (k + 1)) (addLab lab w.heap.size .step) ∧ Stp (addLab lab w.heap.size .step) (addLab lab w.heap.size .step) w3 w7 ∧ w7.heap[s]? = w3.heap[s]? ∧ w7.heap[w.heap.size]? = some (.cells (valsB (turnsB (A.blk d b).flips n p (pageS A.Y ((A.blk d b).pages p)) (k + 1))).toArray 5) := by
  have hT := turns_turned A n d b p k (by omega)
  obtain ⟨e1, e2, e3, e4, _⟩ := hT.dims
  have hl2 : addLab lab w.heap.size .step s = some .step := by unfold addLab; rw [if_neg (by omega)]; exact hsl
  have hg2 : addLab lab w.heap.size .step w.heap.size = some .step := by simp [addLab]
  have hs2 : wr.heap[s]? = some (stepO M n d b p (.slice (some ⟨w.heap.size, 0, none⟩) (A.turns n d b p k).Y (A.turns n d b p k).Y)) := by rw [e4]; exact hs.trans hS.st
  have hflips : nthF ((A.turns n d b p k).blk d b).flips k = nthF (A.blk d b).flips k := hT.rest k (Nat.le_refl _)
  obtain ⟨g, cap, hv, hc⟩ := turn_ok hA (hok.turns n d b p k (by omega)) hs2 hl2 hg2 (by omega) hg (by rw [e4, turnsB_len]; exact hS.len) (turnsB_le _ _ _ hS.le _) (by rw [e1]; exact hd) (by rw [e2]; exact hb) (k := k) (by rw [hT.len]; exact hk)
  rw [hT.len] at hv
  refine ⟨g, cap, hv, hc.mono ?_⟩
  rintro e w7 ⟨rfl, h7, st7, s7, g7⟩
  rw [hflips] at g7
  exact ⟨rfl, h7, st.trans st7, s7.trans hs, g7⟩
set_option maxHeartbeats 3200000 in
set_option maxRecDepth 4000 in
theorem read_ok {w : World} {M : Lay} {A : St} {lab : Lab} (h : Arr w M A lab) (hok : FlOk A) {s : Nat} {n : Int} {d b p : Nat} {v : Value} (hs : w.heap[s]? = some (stepO M n d b p v)) (hsl : lab s = some .step)
    (hd : d < A.D) (hb : b < A.B) (hp : p < A.P) (hfl : (A.blk d b).flips.length ≤ 2000) :
    Calls Try.prog 28 #[ptr s 0] w fun e w' => e = .returned (num 0) ∧ ReadFPost w M A lab s n d b p w' := by
  obtain ⟨c0, c1, c2, c3, c4, c5⟩ := step_cells hs
  have z5 : w.frozen? ⟨s, 5, none⟩ = false := (At.of_row (o := 5) hs rfl).2
  have y1 : (A.Y : Int) ≤ 4096 := by have := h.dims.y2; omega
  have cY := h.cY.1
  have hmk := make_byte w A.Y (by omega)
  have hlt := lt_of_heap hs
  go_enter Try.func28, Try.ntmps28
  go_wp2_with fail
  have hsz : (w.setCell ⟨s, 5, none⟩ (.slice (some ⟨w.heap.size, 0, none⟩) A.Y A.Y)).heap.size = w.heap.size := setCell_size _ _ _
  obtain ⟨W, hW⟩ : ∃ W, W = (w.setCell ⟨s, 5, none⟩ (.slice (some ⟨w.heap.size, 0, none⟩) A.Y A.Y)).alloc (.cells (valsB (List.replicate A.Y 0)).toArray 5) := ⟨_, rfl⟩
  have hrow : W.heap[w.heap.size]? = some (.cells (valsB (List.replicate A.Y 0)).toArray 5) := by
    have := heap_alloc_new (w.setCell ⟨s, 5, none⟩ (.slice (some ⟨w.heap.size, 0, none⟩) A.Y A.Y)) (.cells (valsB (List.replicate A.Y 0)).toArray 5)
    rw [hsz] at this
    rw [hW]; exact this
  have hA : Arr W M A lab := by rw [hW]; exact (h.set (.inr hsl) _).alloc _
  have hgW := World.grownBy_alloc (w.setCell ⟨s, 5, none⟩ (.slice (some ⟨w.heap.size, 0, none⟩) A.Y A.Y)) (.cells (valsB (List.replicate A.Y 0)).toArray 5) none
  have st : Stp lab lab w W := by rw [hW]; exact ((Stp.refl _ _).set (.inl (by rw [hsl]; simp)) _).alloc _
  have hsW : W.heap[s]? = some (stepO M n d b p (.slice (some ⟨w.heap.size, 0, none⟩) A.Y A.Y)) := by
    rw [hW, hgW.block s (by rw [hsz]; exact hlt) (by simp)]
    exact setCell_step hs _
  have hWs : W.heap.size = w.heap.size + 1 := by rw [hW]; simp [hsz]
  rw [← hW]
  have hfresh : lab w.heap.size = none := h.fresh (Nat.le_refl _)
  have HStep : Hid (∀ (w3 wr : World) (k : Nat), Started w w3 M A lab s n d b p → k < (A.blk d b).flips.length → Arr wr M (A.turns n d b p k) (addLab lab w.heap.size .step) → Stp (addLab lab w.heap.size .step) (addLab lab w.heap.size .step) w3 wr → wr.heap[s]? = w3.heap[s]? → wr.heap[w.heap.size]? = some (.cells (valsB (turnsB (A.blk d b).flips n p (pageS A.Y ((A.blk d b).pages p)) k)).toArray 5) →
      ∃ g cap, wr.cell? ⟨M.bk d, b * 7 + 6, none⟩ = some (.slice (some ⟨g, 0, none⟩) (A.blk d b).flips.length cap) ∧
      Calls Try.prog 36 #[ptr s 0, ptr g (k * 4)] wr fun e w7 => e = .returned (.tuple #[]) ∧ Arr w7 M (A.turns n d b p (k + 1)) (addLab lab w.heap.size .step) ∧ Stp (addLab lab w.heap.size .step) (addLab lab w.heap.size .step) w3 w7 ∧ w7.heap[s]? = w3.heap[s]? ∧ w7.heap[w.heap.size]? = some (.cells (valsB (turnsB (A.blk d b).flips n p (pageS A.Y ((A.blk d b).pages p)) (k + 1))).toArray 5)) :=
    fun w3 wr k hS hk hAk stk hsk hgk => read_step hok hsl hlt hd hb hS hk hAk stk hsk hgk
  have fl' : ((A.blk d b).flips.length : Int) ≤ 2000 := by omega
  clear hmk hW hgW hsz hok c0 c1 c2 c3 c4 c5 z5 cY
  obtain ⟨c0, c1, c2, c3, c4, c5⟩ := step_cells hsW
  have hx := hA.blk d b hd hb
  obtain ⟨pg, a1, a2, a3⟩ := hx.pages
  obtain ⟨u, u1, u2⟩ := a3 p hp
  have a1c := a1.1
  have u1c := u1.1
  have p1 : (p : Int) < (A.P : Int) := by omega
  have p2 : (A.P : Int) ≤ 64 := by have := h.dims.p2; omega
  have hq : ∀ (w : World) (a : Option Addr) (l c : Nat), (binOp .eql 33 (.slice a l c) (.slice none 0 0)).run Try.prog w = .ok (.bool a.isNone) w := fun w a l c => Lib.run_eql_slice_nil w _ _ _ _ _ _ _ Try.underlying33
  have HT : Hid (∀ w3 : World, W.grownBy w3 (some w.heap.size) → Arr w3 M A lab ∧ Stp lab lab w w3 ∧ w3.heap[s]? = some (stepO M n d b p (.slice (some ⟨w.heap.size, 0, none⟩) A.Y A.Y)) ∧ ∃ ao cap, w3.cell? ⟨M.bk d, b * 7 + 6, none⟩ = some (.slice ao (A.blk d b).flips.length cap)) := fun w3 hg => by
    have h3 : Arr w3 M A lab := hA.kept (fun g r hr _ => ⟨hg.block g (hA.lt g (by rw [hr]; simp)) (by rintro e; have := Option.some.inj e; rw [this, hfresh] at hr; cases hr), hr⟩) (fun g hl => Nat.lt_of_lt_of_le (hA.lt g hl) hg.size)
    refine ⟨h3, ⟨hg.os.trans st.os, hg.tape.trans st.tape, hg.output.trans st.output, Nat.le_trans st.size hg.size, fun g hg' hl => (hg.block g (Nat.lt_of_lt_of_le hg' st.size) (by rintro e; have := Option.some.inj e; omega)).trans (st.same g hg' hl), st.own⟩, ?_, ?_⟩
    · rw [hg.block s (lt_of_heap hsW) (by rintro e; have := Option.some.inj e; omega)]; exact hsW
    · obtain ⟨fv, f1, f2⟩ := (h3.blk d b hd hb).flips
      obtain ⟨ao, cap, rfl⟩ := f2.form
      exact ⟨ao, cap, f1.1⟩
  rcases u2 with ⟨hpn, rfl⟩ | ⟨bs, g, hpn, hbl, hble, rfl, hlg, hcell⟩
  · have HFl : Hid (∀ nq, Calls Try.prog 35 #[.slice (some ⟨w.heap.size, 0, none⟩) A.Y A.Y] (W.drewN nq) fun e w' => e = .returned (.tuple #[]) ∧ w'.heap[w.heap.size]? = some (.cells (valsB (List.replicate A.Y 255)).toArray 5) ∧ (W.drewN nq).grownBy w' (some w.heap.size)) := fun nq => by
      have := fill_ok (w := W.drewN nq) w.heap.size (List.replicate A.Y 0) hrow (by simp; omega)
      simpa using this
    have HPS : Hid (pageS A.Y ((A.blk d b).pages p) = List.replicate A.Y 255) := by rw [Hid, hpn]; rfl
    clear hpn hrow hx a3
    go_quiet (fail)
    go_wp2_with fail
    refine (HFl.out _).mono ?_
    rintro e w3 ⟨rfl, hr3, hg3⟩
    obtain ⟨h3, st3, hs3, ao, cap, f3⟩ := HT.out w3 ⟨hg3.os, hg3.tape, hg3.output, hg3.size, hg3.block⟩
    clear c0 c1 c2 c3 c4 c5 a1c u1c HFl
    obtain ⟨c0, c1, c2, c3, c4, c5⟩ := step_cells hs3
    have HE : Hid (Started w w3 M A lab s n d b p) := ⟨h3, st3, hs3, by rw [HPS.out]; exact hr3, by rw [HPS.out]; simp, by rw [HPS.out]; exact zeros_le _⟩
    clear hr3 hg3 hs3 h3 st3 HPS HT
    go_wp2_with fail
    go_loopw [51] (fun i wr => ∃ k : Nat, k ≤ (A.blk d b).flips.length ∧ i = num k ∧ Arr wr M (A.turns n d b p k) (addLab lab w.heap.size .step) ∧ Stp (addLab lab w.heap.size .step) (addLab lab w.heap.size .step) w3 wr ∧ wr.heap[s]? = w3.heap[s]? ∧ wr.heap[w.heap.size]? = some (.cells (valsB (turnsB (A.blk d b).flips n p (pageS A.Y ((A.blk d b).pages p)) k)).toArray 5)) (fun i _ => (A.blk d b).flips.length - (intOf i).toNat)
    case atStart => exact ⟨0, Nat.zero_le _, rfl, HE.out.arr.step hfresh (lt_of_heap HE.out.row), Stp.refl _ _, rfl, HE.out.row⟩
    case round =>
      obtain ⟨k, hk, rfl, hAk, stk, hsk, hgk⟩ := hrel
      clear c0 c1 c2 c3 c4 c5 f3
      have hs' := hsk.trans HE.out.st
      obtain ⟨c0, c1, c2, c3, c4, c5⟩ := step_cells hs'
      by_cases hkl : k < (A.blk d b).flips.length
      · have q1 : (k : Int) < ((A.blk d b).flips.length : Int) := by omega
        obtain ⟨g, cap', hv, HC⟩ := HStep.out w3 wr k HE.out hkl hAk stk hsk hgk
        have HC' : Hid (Calls _ _ _ _ _) := HC
        clear HC hAk stk hsk hgk hs'
        go_wp2_with fail
        refine HC'.out.mono ?_
        rintro e w7 ⟨rfl, h7, st7, s7, g7⟩
        go_wp2
        go_roundw
        case rel => exact ⟨k + 1, by omega, by go_num, h7, st7, s7, g7⟩
        case measure => simp [intOf]; omega
      · obtain rfl : k = (A.blk d b).flips.length := by omega
        have q1 : ¬ ((A.blk d b).flips.length : Int) < ((A.blk d b).flips.length : Int) := by omega
        have HEnd : Hid (ReadFPost w M A lab s n d b p wr) := HE.out.done hAk stk hsk hgk
        clear hAk stk hsk hgk hs'
        go_wp2
        go_ret
        exact ⟨rfl, HEnd.out⟩
  · have HPS : Hid (pageS A.Y ((A.blk d b).pages p) = bs) := by rw [Hid, hpn]; rfl
    have hgne : g ≠ w.heap.size := by rintro e; rw [e, hfresh] at hlg; cases hlg
    have hsrc : Src W g 0 bs := ⟨hble, fun i hi => by rw [Nat.zero_add]; exact hcell i (by omega)⟩
    have HN : Hid (∀ j x, (valsB (bs.take A.Y))[j]? = some x → W.cell? ((⟨g, 0, none⟩ : Addr).add j) = some x) := hsrc.news A.Y
    have HR : Hid _ := hrow
    have htk : bs.take A.Y = bs := List.take_of_length_le (by omega)
    rw [htk] at HN
    clear hpn hrow hx a3 hcell hsrc htk
    go_quiet (fail)
    go_wp2_with (first | (refine wpList_copy_splice rfl (.tmp 40) (.tmp 41) 33 33 rfl 5 Try.underlying33 sz5 _ _ A.Y A.Y A.Y A.Y rfl rfl w.heap.size 0 (valsB (List.replicate A.Y 0)) 5 HR.out (valsB bs) ?c1 ?c2 ?c3 (valsB_one _) w.heap.size (W.drewN nq) (Below.refl _ _) (Nat.le_refl _) ?_))
    case c1 => rw [valsB_len, hbl]; exact (Nat.min_self _).symm
    case c2 =>
      intro _ j x hx
      have := HN.out j x hx
      rwa [addr_add', Nat.zero_add] at this
    case c3 => rw [valsB_len, valsB_len, List.length_replicate, hbl]; omega
    intro w3 HW3 hb3
    obtain ⟨h3, st3, hs3, ao, cap, f3⟩ := HT.out w3 ⟨hb3.os, hb3.tape, hb3.output, hb3.size, fun x hx hne => hb3.block x (by
      have : x ≠ w.heap.size := fun e => hne (by rw [e])
      omega)⟩
    clear c0 c1 c2 c3 c4 c5 a1c u1c
    obtain ⟨c0, c1, c2, c3, c4, c5⟩ := step_cells hs3
    have HE : Hid (Started w w3 M A lab s n d b p) := ⟨h3, st3, hs3, by rw [HPS.out, ← splice_all (a := List.replicate A.Y 0) (by simp) hbl]; exact HW3.out, by rw [HPS.out]; exact hbl, by rw [HPS.out]; exact hble⟩
    clear HW3 hb3 hs3 h3 st3 HN HR HPS HT
    go_wp2_with fail
    go_loopw [51] (fun i wr => ∃ k : Nat, k ≤ (A.blk d b).flips.length ∧ i = num k ∧ Arr wr M (A.turns n d b p k) (addLab lab w.heap.size .step) ∧ Stp (addLab lab w.heap.size .step) (addLab lab w.heap.size .step) w3 wr ∧ wr.heap[s]? = w3.heap[s]? ∧ wr.heap[w.heap.size]? = some (.cells (valsB (turnsB (A.blk d b).flips n p (pageS A.Y ((A.blk d b).pages p)) k)).toArray 5)) (fun i _ => (A.blk d b).flips.length - (intOf i).toNat)
    case atStart => exact ⟨0, Nat.zero_le _, rfl, HE.out.arr.step hfresh (lt_of_heap HE.out.row), Stp.refl _ _, rfl, HE.out.row⟩
    case round =>
      obtain ⟨k, hk, rfl, hAk, stk, hsk, hgk⟩ := hrel
      clear c0 c1 c2 c3 c4 c5 f3
      have hs' := hsk.trans HE.out.st
      obtain ⟨c0, c1, c2, c3, c4, c5⟩ := step_cells hs'
      by_cases hkl : k < (A.blk d b).flips.length
      · have q1 : (k : Int) < ((A.blk d b).flips.length : Int) := by omega
        obtain ⟨g, cap', hv, HC⟩ := HStep.out w3 wr k HE.out hkl hAk stk hsk hgk
        have HC' : Hid (Calls _ _ _ _ _) := HC
        clear HC hAk stk hsk hgk hs'
        go_wp2_with fail
        refine HC'.out.mono ?_
        rintro e w7 ⟨rfl, h7, st7, s7, g7⟩
        go_wp2
        go_roundw
        case rel => exact ⟨k + 1, by omega, by go_num, h7, st7, s7, g7⟩
        case measure => simp [intOf]; omega
      · obtain rfl : k = (A.blk d b).flips.length := by omega
        have q1 : ¬ ((A.blk d b).flips.length : Int) < ((A.blk d b).flips.length : Int) := by omega
        have HEnd : Hid (ReadFPost w M A lab s n d b p wr) := HE.out.done hAk stk hsk hgk
        clear hAk stk hsk hgk hs'
        go_wp2
        go_ret
        exact ⟨rfl, HEnd.out⟩
end Nd
end Go.Proofs.Ytojamicakkecbab
