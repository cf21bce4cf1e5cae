/- Layer 4 (nand): Erase; read where no bits are turned. -/
import Derived.Test.YtojamicakkecbabNk
namespace Go.Proofs.Ytojamicakkecbab
open Go.RowKit Go.Maps
namespace Nd
def St.doErase (A : St) (d b : Nat) : St × Int :=
  match A.cuts A.num with
  | some part => if A.num < A.dead d then ((A.tick 2).cutOff.erasePart A.num d b (min part A.P).toNat, 40) else ((A.tick 2).cutOff, 40)
  | none => if A.num < A.dead d then ((A.tick 2).eraseAll A.num d b, eraseRet A A.num d b) else (A.tick 2, 41)
set_option maxHeartbeats 1600000 in
theorem Erase_refused {w : World} {M : Lay} {A : St} {lab : Lab} (h : Arr w M A lab) (d b : Int) (hr : refS A d b 0 ≠ 0) :
    Calls Try.prog 10 #[ptr M.a 0, num d, num b] w fun e w' => e = .returned (num (refS A d b 0)) ∧ w' = w := by
  have hr' : (refS A d b 0 != 0) = true := by simpa using hr
  have HR : Hid (Calls Try.prog 21 #[ptr M.a 0, num d, num b, num 0] w _) := refuses_ok h d b 0
  generalize refS A d b 0 = r at hr' HR hr
  clear hr
  go_enter Try.func10, Try.ntmps10
  go_wp2_with fail
  refine HR.out.mono ?_
  rintro e w1 ⟨rfl, rfl⟩
  go_wp2_with fail
  go_ret
  exact ⟨rfl, rfl⟩
set_option maxHeartbeats 3200000 in
set_option maxRecDepth 4000 in
theorem Erase_done {w : World} {M : Lay} {A : St} {lab : Lab} (h : Arr w M A lab) {N : Int} (hB : Bd A N) (hN : N ≤ 900000) (d b : Nat) (hon : A.on = true) (hd : d < A.D) (hb : b < A.B) :
    Calls Try.prog 10 #[ptr M.a 0, num d, num b] w (OpPost w M lab (A.doErase d b)) := by
  have hq := refuses_ok h d b 0
  have hr0 : refS A d b 0 = 0 := refS_ok (p := 0) hon hd hb (by have := h.dims.p1; omega)
  rw [hr0] at hq
  have HR : Hid (Calls Try.prog 21 #[ptr M.a 0, num d, num b, num 0] w _) := hq
  have hI := num_i64 hB (by omega)
  have HBg : Hid (Calls Try.prog 22 #[ptr M.a 0, ptr M.a 9, num d, num b, num 0] w (BeginPost w M A lab 2 d b 0)) := begin_ok h 9 (by decide) (by decide) hB (by omega) d b hd hb 0
  clear hq hr0
  go_enter Try.func10, Try.ntmps10
  go_wp2_with fail
  refine HR.out.mono ?_
  rintro e w1 ⟨rfl, rfl⟩
  go_wp2_with fail
  refine HBg.out.mono ?_
  rintro e w3 ⟨s, rfl, hsz, hs3, h3, st3⟩
  have hsl : addLab lab s .step s = some .step := by simp [addLab]
  have hB3 : Bd (A.tick 2) (N + 1) := hB.tick 2
  have hrun : Calls Try.prog 23 #[ptr s 0, .func (.func 26) #[ptr s 0] #[], .func (.func 27) #[ptr s 0] #[]] w3 fun e w' => e = .returned (num (A.doErase d b).2) ∧ ∃ lab', Arr w' M (A.doErase d b).1 lab' ∧ Stp lab lab' w1 w' := by
    unfold St.doErase
    cases hcut : A.cuts A.num with
    | some part =>
      have hp0 := hB.cu _ _ hcut
      by_cases hdead : A.num < A.dead d
      · simp only [hdead, if_true]
        refine run_cut_er h3 hs3 hsl hI hd hB3 (by omega) (part := part) hcut hdead (fun wx hx sx ex => ?_)
        refine (erasePart_ok hx (ex.trans hs3) hsl hd hb (min part A.P).toNat part (by show (min part (A.P : Int)).toNat ≤ A.P; omega) (by show (((min part (A.P : Int)).toNat : Nat) : Int) = min part (A.P : Int); omega) hB3.cutOff (by omega)).mono ?_
        rintro e wy ⟨lab', rfl, hy, sy, _, _⟩
        exact ⟨rfl, lab', hy, st3.trans (sx.trans sy)⟩
      · simp only [hdead, if_false]
        refine (run_cut_dead h3 hs3 hsl hI hd hB3 (by omega) (part := part) hcut (by show A.dead d ≤ A.num; omega) _ _).mono ?_
        rintro e wy ⟨rfl, hy, sy, _⟩
        exact ⟨rfl, _, hy, st3.trans sy⟩
    | none =>
      by_cases hdead : A.num < A.dead d
      · simp only [hdead, if_true]
        refine run_whole_er h3 hs3 hI hd hcut hdead (fun wx hx sx ex => ?_)
        refine (erase_ok hx (by rw [ex]; exact hs3) hsl hd hb hB3 (by omega)).mono ?_
        rintro e wy ⟨lab', rfl, hy, sy, _, _⟩
        exact ⟨rfl, lab', hy, st3.trans (sx.trans sy)⟩
      · simp only [hdead, if_false]
        refine (run_dead h3 hs3 hI hd hcut (by show A.dead d ≤ A.num; omega) _ _).mono ?_
        rintro e wy ⟨rfl, hy, sy, _⟩
        exact ⟨rfl, _, hy, st3.trans sy⟩
  have HRun : Hid (Calls Try.prog 23 #[ptr s 0, .func (.func 26) #[ptr s 0] #[], .func (.func 27) #[ptr s 0] #[]] w3 _) := hrun
  clear hrun hI hB3
  go_wp2_with fail
  refine HRun.out.mono ?_
  rintro e w4 ⟨rfl, lab', h4, st4⟩
  go_wp2
  go_ret
  exact ⟨lab', rfl, h4, st4⟩
/-! ### read, where no bits are turned -/
def pageS (Y : Nat) (o : Option (List Nat)) : List Nat := o.getD (List.replicate Y 255)
def Read0Post (w : World) (M : Lay) (A : St) (lab : Lab) (s : Nat) (n : Int) (d b p : Nat) (w' : World) : Prop :=
  ∃ g, w.heap.size ≤ g ∧ w'.heap[s]? = some (stepO M n d b p (.slice (some ⟨g, 0, none⟩) A.Y A.Y)) ∧ w'.heap[g]? = some (.cells (valsB (pageS A.Y ((A.blk d b).pages p))).toArray 5) ∧ (pageS A.Y ((A.blk d b).pages p)).length = A.Y ∧ (∀ i, nth (pageS A.Y ((A.blk d b).pages p)) i ≤ 255) ∧ Arr w' M A lab ∧ Stp lab lab w w'
theorem FlipsM.nil {w : World} {lab : Lab} {d b : Nat} {v : Value} (h : FlipsM w lab d b v []) : ∃ ao cap, v = .slice ao 0 cap := by
  rcases h with ⟨_, h⟩ | ⟨g, cap, _, _, h, _⟩
  · exact ⟨_, _, h⟩
  · exact ⟨_, _, h⟩
theorem splice_all {Y : Nat} {a bs : List Nat} (ha : a.length = Y) (hb : bs.length = Y) : splice (valsB a) 0 (valsB bs) = valsB bs := by
  simp [splice, valsB, ha, hb]
theorem zeros_le (n : Nat) : ∀ i, nth (List.replicate n 255) i ≤ 255 := nth_mem_le fun x hx => by simp at hx; omega
set_option maxHeartbeats 3200000 in
set_option maxRecDepth 4000 in
theorem read0_ok {w : World} {M : Lay} {A : St} {lab : Lab} (h : Arr w M A lab) {s : Nat} {n : Int} {d b p : Nat} {v : Value} (hs : w.heap[s]? = some (stepO M n d b p v)) (hsl : lab s = some .step)
    (hd : d < A.D) (hb : b < A.B) (hp : p < A.P) (hf : (A.blk d b).flips = []) :
    Calls Try.prog 28 #[ptr s 0] w fun e w' => e = .returned (num 0) ∧ Read0Post w M A lab s n d b p w' := by
  obtain ⟨c0, c1, c2, c3, c4, c5⟩ := step_cells hs
  have z5 : w.frozen? ⟨s, 5, none⟩ = false := (At.of_row (o := 5) hs rfl).2
  have y1 : (A.Y : Int) ≤ 4096 := by have := h.dims.y2; omega
  have cY := h.cY.1
  have hmk := make_byte w A.Y (by omega)
  have hlt := lt_of_heap hs
  go_enter Try.func28, Try.ntmps28
  go_wp2_with fail
  have hsz : (w.setCell ⟨s, 5, none⟩ (.slice (some ⟨w.heap.size, 0, none⟩) A.Y A.Y)).heap.size = w.heap.size := setCell_size _ _ _
  obtain ⟨W, hW⟩ : ∃ W, W = (w.setCell ⟨s, 5, none⟩ (.slice (some ⟨w.heap.size, 0, none⟩) A.Y A.Y)).alloc (.cells (valsB (List.replicate A.Y 0)).toArray 5) := ⟨_, rfl⟩
  have hrow : W.heap[w.heap.size]? = some (.cells (valsB (List.replicate A.Y 0)).toArray 5) := by
    have := heap_alloc_new (w.setCell ⟨s, 5, none⟩ (.slice (some ⟨w.heap.size, 0, none⟩) A.Y A.Y)) (.cells (valsB (List.replicate A.Y 0)).toArray 5)
    rw [hsz] at this
    rw [hW]; exact this
  have hA : Arr W M A lab := by rw [hW]; exact (h.set (.inr hsl) _).alloc _
  have hgW := World.grownBy_alloc (w.setCell ⟨s, 5, none⟩ (.slice (some ⟨w.heap.size, 0, none⟩) A.Y A.Y)) (.cells (valsB (List.replicate A.Y 0)).toArray 5) none
  have st : Stp lab lab w W := by rw [hW]; exact ((Stp.refl _ _).set (.inl (by rw [hsl]; simp)) _).alloc _
  have hsW : W.heap[s]? = some (stepO M n d b p (.slice (some ⟨w.heap.size, 0, none⟩) A.Y A.Y)) := by
    rw [hW, hgW.block s (by rw [hsz]; exact hlt) (by simp)]
    exact setCell_step hs _
  have hWs : W.heap.size = w.heap.size + 1 := by rw [hW]; simp [hsz]
  rw [← hW]
  have hfresh : lab w.heap.size = none := h.fresh (Nat.le_refl _)
  clear hmk hW hgW hsz c0 c1 c2 c3 c4 c5 z5 cY
  obtain ⟨c0, c1, c2, c3, c4, c5⟩ := step_cells hsW
  have hx := hA.blk d b hd hb
  obtain ⟨pg, a1, a2, a3⟩ := hx.pages
  obtain ⟨u, u1, u2⟩ := a3 p hp
  have a1c := a1.1
  have u1c := u1.1
  have p1 : (p : Int) < (A.P : Int) := by omega
  have p2 : (A.P : Int) ≤ 64 := by have := h.dims.p2; omega
  have hq : ∀ (w : World) (a : Option Addr) (l c : Nat), (binOp .eql 33 (.slice a l c) (.slice none 0 0)).run Try.prog w = .ok (.bool a.isNone) w := fun w a l c => Lib.run_eql_slice_nil w _ _ _ _ _ _ _ Try.underlying33
  have HT : Hid (∀ w3 : World, W.grownBy w3 (some w.heap.size) → Arr w3 M A lab ∧ Stp lab lab w w3 ∧ w3.heap[s]? = some (stepO M n d b p (.slice (some ⟨w.heap.size, 0, none⟩) A.Y A.Y)) ∧ ∃ ao cap, w3.cell? ⟨M.bk d, b * 7 + 6, none⟩ = some (.slice ao 0 cap)) := fun w3 hg => by
    have h3 : Arr w3 M A lab := hA.kept (fun g r hr _ => ⟨hg.block g (hA.lt g (by rw [hr]; simp)) (by rintro e; have := Option.some.inj e; rw [this, hfresh] at hr; cases hr), hr⟩) (fun g hl => Nat.lt_of_lt_of_le (hA.lt g hl) hg.size)
    refine ⟨h3, ⟨hg.os.trans st.os, hg.tape.trans st.tape, hg.output.trans st.output, Nat.le_trans st.size hg.size, fun g hg' hl => (hg.block g (Nat.lt_of_lt_of_le hg' st.size) (by rintro e; have := Option.some.inj e; omega)).trans (st.same g hg' hl), st.own⟩, ?_, ?_⟩
    · rw [hg.block s (lt_of_heap hsW) (by rintro e; have := Option.some.inj e; omega)]; exact hsW
    · obtain ⟨fv, f1, f2⟩ := (h3.blk d b hd hb).flips
      rw [hf] at f2
      obtain ⟨ao, cap, rfl⟩ := f2.nil
      exact ⟨ao, cap, f1.1⟩
  rcases u2 with ⟨hpn, rfl⟩ | ⟨bs, g, hpn, hbl, hble, rfl, hlg, hcell⟩
  · have HFl : Hid (∀ nq, Calls Try.prog 35 #[.slice (some ⟨w.heap.size, 0, none⟩) A.Y A.Y] (W.drewN nq) fun e w' => e = .returned (.tuple #[]) ∧ w'.heap[w.heap.size]? = some (.cells (valsB (List.replicate A.Y 255)).toArray 5) ∧ (W.drewN nq).grownBy w' (some w.heap.size)) := fun nq => by
      have := fill_ok (w := W.drewN nq) w.heap.size (List.replicate A.Y 0) hrow (by simp; omega)
      simpa using this
    have HPS : Hid (pageS A.Y ((A.blk d b).pages p) = List.replicate A.Y 255) := by rw [Hid, hpn]; rfl
    clear hpn hf hrow hx a3
    go_quiet (fail)
    go_wp2_with fail
    refine (HFl.out _).mono ?_
    rintro e w3 ⟨rfl, hr3, hg3⟩
    obtain ⟨h3, st3, hs3, ao, cap, f3⟩ := HT.out w3 ⟨hg3.os, hg3.tape, hg3.output, hg3.size, hg3.block⟩
    clear c0 c1 c2 c3 c4 c5 a1c u1c HFl
    obtain ⟨c0, c1, c2, c3, c4, c5⟩ := step_cells hs3
    have HE : Hid (Read0Post w M A lab s n d b p w3) := ⟨w.heap.size, Nat.le_refl _, hs3, by rw [HPS.out]; exact hr3, by rw [HPS.out]; simp, by rw [HPS.out]; exact zeros_le _, h3, st3⟩
    clear hr3 hg3 hs3 h3 st3 HPS HT
    go_wp2_with fail
    go_loopw [51] (fun i wr => i = num 0 ∧ wr = w3) (fun _ _ => 0)
    case atStart => exact ⟨rfl, rfl⟩
    case round =>
      obtain ⟨rfl, rfl⟩ := hrel
      go_wp2
      go_ret
      exact ⟨rfl, HE.out⟩
  · have HPS : Hid (pageS A.Y ((A.blk d b).pages p) = bs) := by rw [Hid, hpn]; rfl
    have hgne : g ≠ w.heap.size := by rintro e; rw [e, hfresh] at hlg; cases hlg
    have hsrc : Src W g 0 bs := ⟨hble, fun i hi => by rw [Nat.zero_add]; exact hcell i (by omega)⟩
    have HN : Hid (∀ j x, (valsB (bs.take A.Y))[j]? = some x → W.cell? ((⟨g, 0, none⟩ : Addr).add j) = some x) := hsrc.news A.Y
    have HR : Hid _ := hrow
    have htk : bs.take A.Y = bs := List.take_of_length_le (by omega)
    rw [htk] at HN
    clear hpn hf hrow hx a3 hcell hsrc htk
    go_quiet (fail)
    go_wp2_with (first | (refine wpList_copy_splice rfl (.tmp 40) (.tmp 41) 33 33 rfl 5 Try.underlying33 sz5 _ _ A.Y A.Y A.Y A.Y rfl rfl w.heap.size 0 (valsB (List.replicate A.Y 0)) 5 HR.out (valsB bs) ?c1 ?c2 ?c3 (valsB_one _) w.heap.size (W.drewN nq) (Below.refl _ _) (Nat.le_refl _) ?_))
    case c1 => rw [valsB_len, hbl]; exact (Nat.min_self _).symm
    case c2 =>
      intro _ j x hx
      have := HN.out j x hx
      rwa [addr_add', Nat.zero_add] at this
    case c3 => rw [valsB_len, valsB_len, List.length_replicate, hbl]; omega
    intro w3 HW3 hb3
    obtain ⟨h3, st3, hs3, ao, cap, f3⟩ := HT.out w3 ⟨hb3.os, hb3.tape, hb3.output, hb3.size, fun x hx hne => hb3.block x (by
      have : x ≠ w.heap.size := fun e => hne (by rw [e])
      omega)⟩
    clear c0 c1 c2 c3 c4 c5 a1c u1c
    obtain ⟨c0, c1, c2, c3, c4, c5⟩ := step_cells hs3
    have HE : Hid (Read0Post w M A lab s n d b p w3) := ⟨w.heap.size, Nat.le_refl _, hs3, by rw [HPS.out, ← splice_all (a := List.replicate A.Y 0) (by simp) hbl]; exact HW3.out, by rw [HPS.out]; exact hbl, by rw [HPS.out]; exact hble, h3, st3⟩
    clear HW3 hb3 hs3 h3 st3 HPS HT HN HR
    go_wp2_with fail
    go_loopw [51] (fun i wr => i = num 0 ∧ wr = w3) (fun _ _ => 0)
    case atStart => exact ⟨rfl, rfl⟩
    case round =>
      obtain ⟨rfl, rfl⟩ := hrel
      go_wp2
      go_ret
      exact ⟨rfl, HE.out⟩
end Nd
end Go.Proofs.Ytojamicakkecbab
