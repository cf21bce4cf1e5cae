/- Layer 4 (nand): the walks of programPart, program. -/
import Derived.Test.YtojamicakkecbabNg
import Derived.Laws.MakeOwn
import Derived.OwnWalk
namespace Go.Proofs.Ytojamicakkecbab
open Go.RowKit Go.Maps
namespace Nd
theorem step_cells {w : World} {M : Lay} {s : Nat} {n : Int} {d b : Nat} {p : Int} {v : Value} (hs : w.heap[s]? = some (stepO M n d b p v)) :
    w.cell? ⟨s, 0, none⟩ = some (ptr M.a 0) ∧ w.cell? ⟨s, 1, none⟩ = some (num n) ∧ w.cell? ⟨s, 2, none⟩ = some (ptr M.ds (d * 2)) ∧ w.cell? ⟨s, 3, none⟩ = some (ptr (M.bk d) (b * 7)) ∧ w.cell? ⟨s, 4, none⟩ = some (num p) ∧ w.cell? ⟨s, 5, none⟩ = some v :=
  ⟨(At.of_row (o := 0) hs rfl).1, (At.of_row (o := 1) hs rfl).1, (At.of_row (o := 2) hs rfl).1, (At.of_row (o := 3) hs rfl).1, (At.of_row (o := 4) hs rfl).1, (At.of_row (o := 5) hs rfl).1⟩
theorem info5 : (Try.prog.info? 5).map (fun i => (i.zero, i.size, i.bytes)) = some (some (.int .u8 0), 1, 1) := by kernel_rfl
/-- 'make([]byte, n)', run. -/
theorem make_byte (w : World) (n : Nat) (hn : n ≤ 281474976710656) :
    (Instr.makeSlice 33 (num (n : Int)) (num (n : Int))).run Try.prog w = .ok (.slice (some ⟨w.heap.size, 0, none⟩) n n) (w.alloc (.cells (valsB (List.replicate n 0)).toArray 5)) := by
  obtain ⟨i0, hi, hz0, hz1, hz2⟩ := info_parts info5
  have hr := run_make (P := Try.prog) w 33 5 i0 (.int .u8 0) Try.underlying33 hi hz0 .i64 .i64 n n (by omega) (Int.le_refl _) (by rw [hz2]; omega) (by omega)
  simp only [Int.toNat_natCast, hz1, Nat.mul_one] at hr
  have e1 : (madeCells (Value.int .u8 0).cells n) = (valsB (List.replicate n 0)).toArray := by
    apply Array.toList_inj.1
    exact (toList_madeCells_one (.int .u8 0) n).trans (by simp [valsB])
  rw [e1] at hr
  exact hr
theorem grown_new {w W w2 : World} {g : Nat} (h : w.grownBy W none) (k : W.grownBy w2 (some g)) (hg : w.heap.size ≤ g) : w.grownBy w2 none :=
  ⟨k.os.trans h.os, k.tape.trans h.tape, k.output.trans h.output, Nat.le_trans h.size k.size, fun x hx _ => (k.block x (Nat.lt_of_lt_of_le hx h.size) (fun e => by have := Option.some.inj e; omega)).trans (h.block x hx (by simp))⟩
theorem splice_page {Y k : Nat} {bs : List Nat} (hb : bs.length = Y) (hk : k ≤ Y) : splice (valsB (List.replicate Y 255)) 0 (valsB (bs.take k)) = valsB (bs.take k ++ List.replicate (Y - k) 255) := by
  simp [splice, valsB, hb, Nat.min_eq_left hk]
theorem below_of_grown {w w' : World} (h : w.grownBy w' none) : Below w.heap.size w w' := ⟨h.os, h.tape, h.output, h.size, fun k hk => h.block k hk (by simp)⟩
theorem grown_of_below {w w' : World} (h : Below w.heap.size w w') : w.grownBy w' none := ⟨h.os, h.tape, h.output, h.size, fun k hk _ => h.block k hk⟩
theorem sz5 : (Try.prog.info? 5).map (·.size) = some 1 := by kernel_rfl
set_option maxHeartbeats 3200000 in
set_option maxRecDepth 4000 in
theorem part_yes {w : World} {M : Lay} {A : St} {lab : Lab} (h : Arr w M A lab) {s : Nat} {n : Int} {d b p gs os cap : Nat} (hs : w.heap[s]? = some (stepO M n d b p (.slice (some ⟨gs, os, none⟩) A.Y cap))) (hsl : lab s = some .step)
    (hd : d < A.D) (hb : b < A.B) (hp : p < A.P) {bs : List Nat} (src : Src w gs os bs) (hbl : bs.length = A.Y) (hcap : A.Y ≤ cap) (k : Nat) (done : Int) (hk1 : k ≤ A.Y) (hk2 : (k : Int) = min done A.Y) (hlt : n < (A.blk d b).noP) {N : Int} (hB : Bd A N) :
    Calls Try.prog 25 #[ptr s 0, num done] w (ProgPost w M (A.progPart n d b p k bs) lab s (.tuple #[])) := by
  have c5 := (step_cells hs).2.2.2.2.2
  have y1 : (A.Y : Int) ≤ 4096 := by have := h.dims.y2; omega
  have hmk := make_byte w A.Y (by omega)
  go_enter Try.func25, Try.ntmps25
  go_wp2_with fail
  obtain ⟨W, hW⟩ : ∃ W, W = w.alloc (.cells (valsB (List.replicate A.Y 0)).toArray 5) := ⟨_, rfl⟩
  have hgW : w.grownBy W none := by rw [hW]; exact World.grownBy_alloc w _ none
  have hrow : W.heap[w.heap.size]? = some (.cells (valsB (List.replicate A.Y 0)).toArray 5) := by rw [hW]; exact heap_alloc_new w _
  rw [← hW]
  have hsW : W.heap[s]? = some (stepO M n d b p (.slice (some ⟨gs, os, none⟩) A.Y cap)) := by rw [hgW.block s (lt_of_heap hs) (by simp)]; exact hs
  clear hmk hW c5
  obtain ⟨c0, c1, c2, c3, c4, c5⟩ := step_cells hsW
  have x3 := ((h.more hgW).blk d b hd hb).noP.1
  have HFl : Hid (∀ nq, Calls Try.prog 35 #[.slice (some ⟨w.heap.size, 0, none⟩) A.Y A.Y] (W.drewN nq) fun e w' => e = .returned (.tuple #[]) ∧ w'.heap[w.heap.size]? = some (.cells (valsB (List.replicate A.Y 255)).toArray 5) ∧ (W.drewN nq).grownBy w' (some w.heap.size)) := fun nq => by
    have := fill_ok (w := W.drewN nq) w.heap.size (List.replicate A.Y 0) hrow (by simp; omega)
    simpa using this
  have HFo : Hid (Try.prog.follows .mixedOrders = true) := follows_mixed
  go_quiet (fail)
  go_wp2_with fail
  refine (HFl.out _).mono ?_
  rintro e w2 ⟨rfl, hr2, hg2⟩
  have hgw : w.grownBy w2 none := grown_new (grownBy_drewN hgW _) hg2 (Nat.le_refl _)
  have hs2 : w2.heap[s]? = some (stepO M n d b p (.slice (some ⟨gs, os, none⟩) A.Y cap)) := by rw [hgw.block s (lt_of_heap hs) (by simp)]; exact hs
  clear c0 c1 c2 c3 c4 c5 x3 hrow hsW HFl
  obtain ⟨c0, c1, c2, c3, c4, c5⟩ := step_cells hs2
  go_wp2_with fail
  have HK : Hid ((if (A.Y : Int) < done then (A.Y : Int) else done) = (k : Int)) := by rw [Hid, hk2]; split <;> omega
  have k1 : (k : Int) ≤ (A.Y : Int) := by omega
  have k2 : (k : Int) ≤ (cap : Int) := by omega
  have k3 : (A.Y : Int) ≤ (cap : Int) := by omega
  clear hk2
  go_still_tail 13, HFo.out
  rw [HK.out]
  repeat still_step
  refine wpStill_nil ?_
  change wpList _ _ _ _ _ (w2.drew)
  have hb2 : Below w.heap.size w w2.drew := below_of_grown (grownBy_drew hgw)
  have hr2' : w2.drew.heap[w.heap.size]? = some (.cells (valsB (List.replicate A.Y 255)).toArray 5) := hr2
  have src2 : Src w2.drew gs os bs := src.of_heap (hgw.block gs (lt_of_cell (src.cell 0 (by have := h.dims.y1; omega))) (by simp))
  have HN : Hid _ := src2.news k
  have HR2 : Hid _ := hr2'
  clear hr2 hr2' hg2 src2
  refine wpList_copy_splice rfl (.tmp 25) (.tmp 37) 33 33 rfl 5 Try.underlying33 sz5 _ _ A.Y A.Y k cap rfl rfl w.heap.size 0 (valsB (List.replicate A.Y 255)) 5 HR2.out (valsB (bs.take k)) ?c1 ?c2 ?c3 (valsB_one _) w.heap.size w hb2 (Nat.le_refl _) ?_
  case c1 => rw [valsB_len, List.length_take, hbl]
  case c2 => exact fun _ => ⟨rfl, _, rfl, HN.out⟩
  case c3 => rw [valsB_len, valsB_len, List.length_take, List.length_replicate]; omega
  intro w3 HW3 hb3
  have hg3 : w.grownBy w3 none := grown_of_below hb3
  have HR3 : Hid (w3.heap[w.heap.size]? = some (.cells (valsB (newPage n (A.blk d b).noP A.Y k bs)).toArray 5)) := by
    have := HW3.out
    rw [splice_page hbl hk1] at this
    rw [Hid, newPage, if_pos hlt]
    exact this
  clear HN HR2 hs2 c0 c1 c2 c3 c4 c5 HW3 hb3 hb2
  go_wp2_with fail
  have hs3 : w3.heap[s]? = some (stepO M n d b p (.slice (some ⟨gs, os, none⟩) A.Y cap)) := by rw [hg3.block s (lt_of_heap hs) (by simp)]; exact hs
  obtain ⟨c0, c1, c2, c3, c4, c5⟩ := step_cells hs3
  have h3 := h.more hg3
  have hx := h3.blk d b hd hb
  obtain ⟨pg, a1, a2, a3⟩ := hx.pages
  obtain ⟨u, u1, u2⟩ := a3 p hp
  have hpg0 : w.cell? ⟨M.bk d, b * 7 + 5, none⟩ = some (.slice (some ⟨pg, 0, none⟩) A.P A.P) := by
    have := a1.1
    rwa [cell_of_block (hg3.block _ (h.lt _ (by rw [h.lbk d hd]; simp)) (by simp))] at this
  have HE : Hid (Arr ((w3.drew.setCell ⟨pg, p, none⟩ (.slice (some ⟨w.heap.size, 0, none⟩) A.Y A.Y)).setCell ⟨M.bk d, b * 7, none⟩ (num ((A.blk d b).next + 1))) M (A.progPart n d b p k bs) (addLab lab w.heap.size (.page d b p))) := by
    have := h.prog hd hb hp (grownBy_drew hg3) (newPage_len (n := n) (noP := (A.blk d b).noP) hbl hk1) (newPage_le src.le) (Nat.le_refl _) HR3.out hpg0 rfl
    exact this
  have HSt : Hid (Stp lab (addLab lab w.heap.size (.page d b p)) w ((w3.drew.setCell ⟨pg, p, none⟩ (.slice (some ⟨w.heap.size, 0, none⟩) A.Y A.Y)).setCell ⟨M.bk d, b * 7, none⟩ (num ((A.blk d b).next + 1)))) := by
    refine ((((Stp.refl lab w).grown (grownBy_drew hg3)).set (.inl (by rw [a2]; simp)) _).set (.inl (by rw [h.lbk d hd]; simp)) _).lab (fun g hl => ?_)
    by_cases eg : g = w.heap.size
    · exact .inr (by omega)
    · exact .inl (by simpa [addLab, eg] using hl)
  have hsp : s ≠ pg := fun e => by rw [← e, hsl] at a2; cases a2
  have hsb : s ≠ M.bk d := fun e => by have := h.lbk d hd; rw [← e, hsl] at this; cases this
  have hpb : M.bk d ≠ pg := fun e => by have := h.lbk d hd; rw [e, a2] at this; cases this
  have hss : lab w.heap.size = none := h.fresh (Nat.le_refl _)
  have hs4 : s ≠ w.heap.size := fun e => by rw [← e, hsl] at hss; cases hss
  have HS : Hid (((w3.drew.setCell ⟨pg, p, none⟩ (.slice (some ⟨w.heap.size, 0, none⟩) A.Y A.Y)).setCell ⟨M.bk d, b * 7, none⟩ (num ((A.blk d b).next + 1))).heap[s]? = w.heap[s]?) := by
    rw [Hid, setCell_else hsb, setCell_else hsp]; exact hg3.block s (lt_of_heap hs) (by simp)
  have hN1 := hB.nx d b
  have hP1 : (A.P : Int) ≤ 64 := by have := h.dims.p2; omega
  have p1 : (p : Int) < (A.P : Int) := by omega
  obtain ⟨a1c, a1z⟩ := a1
  obtain ⟨u1c, u1z⟩ := u1
  have n0 : (w3.setCell ⟨pg, p, none⟩ (.slice (some ⟨w.heap.size, 0, none⟩) A.Y A.Y)).cell? ⟨M.bk d, b * 7, none⟩ = some (num (A.blk d b).next) ∧ (w3.setCell ⟨pg, p, none⟩ (.slice (some ⟨w.heap.size, 0, none⟩) A.Y A.Y)).frozen? ⟨M.bk d, b * 7, none⟩ = false := hx.next.of_heap (setCell_else hpb _)
  have n1 : (w3.setCell ⟨pg, p, none⟩ (.slice (some ⟨w.heap.size, 0, none⟩) A.Y A.Y)).cell? ⟨s, 3, none⟩ = some (ptr (M.bk d) (b * 7)) := (cell_of_block (setCell_else hsp _)).trans c3
  obtain ⟨n0c, n0z⟩ := n0
  clear hx a3 u2 hpg0 HR3
  go_still_tail 13, HFo.out
  change wpList _ _ _ _ _ (w3.drew)
  go_wp2_with fail
  go_wp2
  go_end0
  exact ⟨_, rfl, HE.out, HSt.out, HS.out, by simp [addLab, hs4, hsl]⟩
set_option maxHeartbeats 3200000 in
set_option maxRecDepth 4000 in
theorem part_no {w : World} {M : Lay} {A : St} {lab : Lab} (h : Arr w M A lab) {s : Nat} {n : Int} {d b p gs os cap : Nat} (hs : w.heap[s]? = some (stepO M n d b p (.slice (some ⟨gs, os, none⟩) A.Y cap))) (hsl : lab s = some .step)
    (hd : d < A.D) (hb : b < A.B) (hp : p < A.P) {bs : List Nat} (src : Src w gs os bs) (hbl : bs.length = A.Y) (_hcap : A.Y ≤ cap) (k : Nat) (done : Int) (hk1 : k ≤ A.Y) (hlt : ¬ n < (A.blk d b).noP) {N : Int} (hB : Bd A N) :
    Calls Try.prog 25 #[ptr s 0, num done] w (ProgPost w M (A.progPart n d b p k bs) lab s (.tuple #[])) := by
  have c5 := (step_cells hs).2.2.2.2.2
  have y1 : (A.Y : Int) ≤ 4096 := by have := h.dims.y2; omega
  have hmk := make_byte w A.Y (by omega)
  go_enter Try.func25, Try.ntmps25
  go_wp2_with fail
  obtain ⟨W, hW⟩ : ∃ W, W = w.alloc (.cells (valsB (List.replicate A.Y 0)).toArray 5) := ⟨_, rfl⟩
  have hgW : w.grownBy W none := by rw [hW]; exact World.grownBy_alloc w _ none
  have hrow : W.heap[w.heap.size]? = some (.cells (valsB (List.replicate A.Y 0)).toArray 5) := by rw [hW]; exact heap_alloc_new w _
  rw [← hW]
  have hsW : W.heap[s]? = some (stepO M n d b p (.slice (some ⟨gs, os, none⟩) A.Y cap)) := by rw [hgW.block s (lt_of_heap hs) (by simp)]; exact hs
  clear hmk hW c5
  obtain ⟨c0, c1, c2, c3, c4, c5⟩ := step_cells hsW
  have x3 := ((h.more hgW).blk d b hd hb).noP.1
  have HFo : Hid (Try.prog.follows .mixedOrders = true) := follows_mixed
  go_quiet (fail)
  go_wp2_with fail
  obtain ⟨w3, hw3⟩ : ∃ w3, w3 = W.drewN nq := ⟨_, rfl⟩
  have hg3 : w.grownBy w3 none := by rw [hw3]; exact grownBy_drewN hgW _
  have HR3 : Hid (w3.heap[w.heap.size]? = some (.cells (valsB (newPage n (A.blk d b).noP A.Y k bs)).toArray 5)) := by
    rw [Hid, newPage, if_neg (by omega), hw3]
    exact hrow
  rw [← hw3]
  clear hrow hsW c0 c1 c2 c3 c4 c5 x3 hw3 hgW
  have hs3 : w3.heap[s]? = some (stepO M n d b p (.slice (some ⟨gs, os, none⟩) A.Y cap)) := by rw [hg3.block s (lt_of_heap hs) (by simp)]; exact hs
  obtain ⟨c0, c1, c2, c3, c4, c5⟩ := step_cells hs3
  have h3 := h.more hg3
  have hx := h3.blk d b hd hb
  obtain ⟨pg, a1, a2, a3⟩ := hx.pages
  obtain ⟨u, u1, u2⟩ := a3 p hp
  have hpg0 : w.cell? ⟨M.bk d, b * 7 + 5, none⟩ = some (.slice (some ⟨pg, 0, none⟩) A.P A.P) := by
    have := a1.1
    rwa [cell_of_block (hg3.block _ (h.lt _ (by rw [h.lbk d hd]; simp)) (by simp))] at this
  have HE : Hid (Arr ((w3.drew.setCell ⟨pg, p, none⟩ (.slice (some ⟨w.heap.size, 0, none⟩) A.Y A.Y)).setCell ⟨M.bk d, b * 7, none⟩ (num ((A.blk d b).next + 1))) M (A.progPart n d b p k bs) (addLab lab w.heap.size (.page d b p))) := by
    have := h.prog hd hb hp (grownBy_drew hg3) (newPage_len (n := n) (noP := (A.blk d b).noP) hbl hk1) (newPage_le src.le) (Nat.le_refl _) HR3.out hpg0 rfl
    exact this
  have HSt : Hid (Stp lab (addLab lab w.heap.size (.page d b p)) w ((w3.drew.setCell ⟨pg, p, none⟩ (.slice (some ⟨w.heap.size, 0, none⟩) A.Y A.Y)).setCell ⟨M.bk d, b * 7, none⟩ (num ((A.blk d b).next + 1)))) := by
    refine ((((Stp.refl lab w).grown (grownBy_drew hg3)).set (.inl (by rw [a2]; simp)) _).set (.inl (by rw [h.lbk d hd]; simp)) _).lab (fun g hl => ?_)
    by_cases eg : g = w.heap.size
    · exact .inr (by omega)
    · exact .inl (by simpa [addLab, eg] using hl)
  have hsp : s ≠ pg := fun e => by rw [← e, hsl] at a2; cases a2
  have hsb : s ≠ M.bk d := fun e => by have := h.lbk d hd; rw [← e, hsl] at this; cases this
  have hpb : M.bk d ≠ pg := fun e => by have := h.lbk d hd; rw [e, a2] at this; cases this
  have hss : lab w.heap.size = none := h.fresh (Nat.le_refl _)
  have hs4 : s ≠ w.heap.size := fun e => by rw [← e, hsl] at hss; cases hss
  have HS : Hid (((w3.drew.setCell ⟨pg, p, none⟩ (.slice (some ⟨w.heap.size, 0, none⟩) A.Y A.Y)).setCell ⟨M.bk d, b * 7, none⟩ (num ((A.blk d b).next + 1))).heap[s]? = w.heap[s]?) := by
    rw [Hid, setCell_else hsb, setCell_else hsp]; exact hg3.block s (lt_of_heap hs) (by simp)
  have hN1 := hB.nx d b
  have hP1 : (A.P : Int) ≤ 64 := by have := h.dims.p2; omega
  have p1 : (p : Int) < (A.P : Int) := by omega
  obtain ⟨a1c, a1z⟩ := a1
  obtain ⟨u1c, u1z⟩ := u1
  have n0 : (w3.setCell ⟨pg, p, none⟩ (.slice (some ⟨w.heap.size, 0, none⟩) A.Y A.Y)).cell? ⟨M.bk d, b * 7, none⟩ = some (num (A.blk d b).next) ∧ (w3.setCell ⟨pg, p, none⟩ (.slice (some ⟨w.heap.size, 0, none⟩) A.Y A.Y)).frozen? ⟨M.bk d, b * 7, none⟩ = false := hx.next.of_heap (setCell_else hpb _)
  have n1 : (w3.setCell ⟨pg, p, none⟩ (.slice (some ⟨w.heap.size, 0, none⟩) A.Y A.Y)).cell? ⟨s, 3, none⟩ = some (ptr (M.bk d) (b * 7)) := (cell_of_block (setCell_else hsp _)).trans c3
  obtain ⟨n0c, n0z⟩ := n0
  clear hx a3 u2 hpg0 HR3
  go_still_tail 13, HFo.out
  change wpList _ _ _ _ _ (w3.drew)
  go_wp2_with fail
  go_wp2
  go_end0
  exact ⟨_, rfl, HE.out, HSt.out, HS.out, by simp [addLab, hs4, hsl]⟩
theorem part_ok {w : World} {M : Lay} {A : St} {lab : Lab} (h : Arr w M A lab) {s : Nat} {n : Int} {d b p gs os cap : Nat} (hs : w.heap[s]? = some (stepO M n d b p (.slice (some ⟨gs, os, none⟩) A.Y cap))) (hsl : lab s = some .step)
    (hd : d < A.D) (hb : b < A.B) (hp : p < A.P) {bs : List Nat} (src : Src w gs os bs) (hbl : bs.length = A.Y) (hcap : A.Y ≤ cap) (k : Nat) (done : Int) (hk1 : k ≤ A.Y) (hk2 : (k : Int) = min done A.Y) {N : Int} (hB : Bd A N) :
    Calls Try.prog 25 #[ptr s 0, num done] w (ProgPost w M (A.progPart n d b p k bs) lab s (.tuple #[])) := by
  by_cases hlt : n < (A.blk d b).noP
  · exact part_yes h hs hsl hd hb hp src hbl hcap k done hk1 hk2 hlt hB
  · exact part_no h hs hsl hd hb hp src hbl hcap k done hk1 hlt hB
theorem Bd.prog {A : St} {N : Int} (h : Bd A N) {n : Int} {d b p k : Nat} {bs : List Nat} (hn : (A.blk d b).next < A.P) : Bd (A.progPart n d b p k bs) N := by
  refine ⟨h.cnt, fun d' b' => ?_, fun d' b' => ?_, h.cu⟩
  · show 0 ≤ (if d' = d ∧ b' = b then _ else A.blk d' b').erases ∧ (if d' = d ∧ b' = b then _ else A.blk d' b').erases ≤ N
    split
    · exact h.er d b
    · exact h.er d' b'
  · show -1 ≤ (if d' = d ∧ b' = b then _ else A.blk d' b').next ∧ (if d' = d ∧ b' = b then _ else A.blk d' b').next ≤ A.P
    split
    · have := h.nx d b
      simp only [Blk.prog]
      omega
    · exact h.nx d' b'
/-- A page is programmed whole. -/
def St.progAll (A : St) (n : Int) (d b p : Nat) (bs : List Nat) : St := if n < (A.blk d b).noP then A.progPart n d b p A.Y bs else (A.progPart n d b p A.Y bs).tick 4
def progRet (A : St) (n : Int) (d b : Nat) : Int := if n < (A.blk d b).noP then 0 else 43
set_option maxHeartbeats 800000 in
theorem program_ok {w : World} {M : Lay} {A : St} {lab : Lab} (h : Arr w M A lab) {s : Nat} {n : Int} {d b p gs os cap : Nat} (hs : w.heap[s]? = some (stepO M n d b p (.slice (some ⟨gs, os, none⟩) A.Y cap))) (hsl : lab s = some .step)
    (hd : d < A.D) (hb : b < A.B) (hp : p < A.P) {bs : List Nat} (src : Src w gs os bs) (hbl : bs.length = A.Y) (hcap : A.Y ≤ cap) {N : Int} (hB : Bd A N) (hN : N ≤ 1000000) (hn : (A.blk d b).next = p) :
    Calls Try.prog 24 #[ptr s 0] w (ProgPost w M (A.progAll n d b p bs) lab s (num (progRet A n d b))) := by
  have c5 := (step_cells hs).2.2.2.2.2
  have hpt := part_ok h hs hsl hd hb hp src hbl hcap A.Y A.Y (Nat.le_refl _) (by omega) hB
  have HPt : Hid (Calls Try.prog 25 #[ptr s 0, num A.Y] w (ProgPost w M (A.progPart n d b p A.Y bs) lab s (.tuple #[]))) := hpt
  clear hpt
  have y1 : (A.Y : Int) ≤ 4096 := by have := h.dims.y2; omega
  go_enter Try.func24, Try.ntmps24
  go_wp2_with fail
  refine HPt.out.mono ?_
  rintro e w2 ⟨lab2, rfl, h2, st2, hss, hsl2⟩
  have hs2 := hss.trans hs
  obtain ⟨c0, c1, c2, c3, c4, c5⟩ := step_cells hs2
  have x3 : w2.cell? ⟨M.bk d, b * 7 + 3, none⟩ = some (num (A.blk d b).noP) := by
    have := (h2.blk d b hd hb).noP.1
    simpa [St.progPart, St.setBlk, Blk.prog] using this
  have hB2 : Bd (A.progPart n d b p A.Y bs) N := hB.prog (by omega)
  by_cases hlt : n < (A.blk d b).noP
  · have hv := verdict_yes hs2 (A.blk d b).noP hlt
    have HV : Hid (Calls Try.prog 34 #[ptr s 0, num (A.blk d b).noP] w2 _) := hv
    have HP : Hid (A.progAll n d b p bs = A.progPart n d b p A.Y bs ∧ progRet A n d b = 0) := by simp [Hid, St.progAll, progRet, hlt]
    clear hv hlt HPt
    go_wp2_with fail
    refine HV.out.mono ?_
    rintro e w3 ⟨rfl, rfl⟩
    go_wp2
    go_ret
    rw [HP.out.1, HP.out.2]
    exact ⟨lab2, rfl, h2, st2, hss, hsl2⟩
  · have hv := verdict_no h2 hs2 hsl2 (A.blk d b).noP (by omega) hB2 hN
    have HV : Hid (Calls Try.prog 34 #[ptr s 0, num (A.blk d b).noP] w2 _) := hv
    have HP : Hid (A.progAll n d b p bs = (A.progPart n d b p A.Y bs).tick 4 ∧ progRet A n d b = 43) := by simp [Hid, St.progAll, progRet, hlt]
    clear hv hlt HPt
    go_wp2_with fail
    refine HV.out.mono ?_
    rintro e w3 ⟨rfl, h3, st3, hs3⟩
    go_wp2
    go_ret
    rw [HP.out.1, HP.out.2]
    exact ⟨lab2, rfl, h3, st2.trans st3, hs3.trans hss, hsl2⟩
end Nd
end Go.Proofs.Ytojamicakkecbab
