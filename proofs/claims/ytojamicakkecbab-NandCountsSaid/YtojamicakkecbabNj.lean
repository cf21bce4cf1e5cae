/- Layer 4 (nand): Program. -/
import Derived.Test.YtojamicakkecbabNi
namespace Go.Proofs.Ytojamicakkecbab
open Go.RowKit Go.Maps
namespace Nd
theorem Bd.tick {A : St} {N : Int} (h : Bd A N) (i : Nat) : Bd (A.tick i) (N + 1) := by
  refine ⟨fun j hj => ?_, fun d b => ?_, h.nx, h.cu⟩
  · have := h.cnt j hj
    simp only [St.tick, St.setCnt]
    split
    · rename_i e; subst e; omega
    · omega
  · have := h.er d b
    exact ⟨this.1, by have := this.2; show (A.blk d b).erases ≤ N + 1; omega⟩
theorem Bd.mono {A : St} {N K : Int} (h : Bd A N) (hK : N ≤ K) : Bd A K :=
  ⟨fun j hj => ⟨(h.cnt j hj).1, by have := (h.cnt j hj).2; omega⟩, fun d b => ⟨(h.er d b).1, by have := (h.er d b).2; omega⟩, h.nx, h.cu⟩
/-- What is programmed of an operation that isn't refused. -/
def St.doProgram (A : St) (d b p : Nat) (bs : List Nat) : St × Int :=
  match A.cuts A.num with
  | some part => if A.num < A.dead d then ((A.tick 1).cutOff.progPart A.num d b p (min part A.Y).toNat bs, 40) else ((A.tick 1).cutOff, 40)
  | none => if A.num < A.dead d then ((A.tick 1).progAll A.num d b p bs, progRet A A.num d b) else (A.tick 1, 41)
/-- What an operation leaves. -/
def OpPost (w : World) (M : Lay) (lab : Lab) (r : St × Int) (e : Ending) (w' : World) : Prop := ∃ lab', e = .returned (num r.2) ∧ Arr w' M r.1 lab' ∧ Stp lab lab' w w'
theorem refS_ok {A : St} {d b p : Nat} (hon : A.on = true) (hd : d < A.D) (hb : b < A.B) (hp : p < A.P) : refS A d b p = 0 := by
  have h1 : inB A d b = true := by simp [inB]; omega
  simp [refS, hon, h1]
  omega
set_option maxHeartbeats 1600000 in
theorem Program_refused {w : World} {M : Lay} {A : St} {lab : Lab} (h : Arr w M A lab) (d b p : Int) (v : Value) (hr : refS A d b p ≠ 0) :
    Calls Try.prog 9 #[ptr M.a 0, num d, num b, num p, v] w fun e w' => e = .returned (num (refS A d b p)) ∧ w' = w := by
  have hr' : (refS A d b p != 0) = true := by simpa using hr
  have HR : Hid (Calls Try.prog 21 #[ptr M.a 0, num d, num b, num p] w _) := refuses_ok h d b p
  generalize refS A d b p = r at hr' HR hr
  clear hr
  go_enter Try.func9, Try.ntmps9
  go_wp2_with fail
  refine HR.out.mono ?_
  rintro e w1 ⟨rfl, rfl⟩
  go_wp2_with fail
  go_ret
  exact ⟨rfl, rfl⟩
set_option maxHeartbeats 1600000 in
theorem Program_len {w : World} {M : Lay} {A : St} {lab : Lab} (h : Arr w M A lab) (d b p : Int) (ao : Option Addr) (len cap : Nat) (hr : refS A d b p = 0) (hl : len ≠ A.Y)  :
    Calls Try.prog 9 #[ptr M.a 0, num d, num b, num p, .slice ao len cap] w fun e w' => e = .returned (num 1) ∧ w' = w := by
  have hq := refuses_ok h d b p
  rw [hr] at hq
  have HR : Hid (Calls Try.prog 21 #[ptr M.a 0, num d, num b, num p] w _) := hq
  have hl' : ((len : Int) != (A.Y : Int)) = true := by rw [bne_iff_ne]; omega
  have c3 := h.cY.1
  clear hq hr
  go_enter Try.func9, Try.ntmps9
  go_wp2_with fail
  refine HR.out.mono ?_
  rintro e w1 ⟨rfl, rfl⟩
  go_wp2_with fail
  go_ret
  exact ⟨rfl, rfl⟩
set_option maxHeartbeats 1600000 in
theorem Program_order {w : World} {M : Lay} {A : St} {lab : Lab} (h : Arr w M A lab) (d b p : Nat) (ao : Option Addr) (cap : Nat) (hon : A.on = true) (hd : d < A.D) (hb : b < A.B) (hp : p < A.P) (hn : (A.blk d b).next ≠ p) :
    Calls Try.prog 9 #[ptr M.a 0, num d, num b, num p, .slice ao A.Y cap] w fun e w' => e = .returned (num 42) ∧ w' = w := by
  have hq := refuses_ok h d b p
  rw [refS_ok hon hd hb hp] at hq
  have HR : Hid (Calls Try.prog 21 #[ptr M.a 0, num d, num b, num p] w _) := hq
  have HN : Hid (Calls Try.prog 8 #[ptr M.a 0, num d, num b] w _) := next_ok h d b hd hb
  have hl' : ((A.Y : Int) != (A.Y : Int)) = false := by simp
  have hn' : ((p : Int) != (A.blk d b).next) = true := by rw [bne_iff_ne]; omega
  have c3 := h.cY.1
  clear hq
  go_enter Try.func9, Try.ntmps9
  go_wp2_with fail
  refine HR.out.mono ?_
  rintro e w1 ⟨rfl, rfl⟩
  go_wp2_with fail
  refine HN.out.mono ?_
  rintro e w1 ⟨rfl, rfl⟩
  go_wp2_with fail
  go_ret
  exact ⟨rfl, rfl⟩
theorem setCell_step {w : World} {M : Lay} {s : Nat} {n : Int} {d b : Nat} {p : Int} {v : Value} (hs : w.heap[s]? = some (stepO M n d b p v)) (u : Value) : (w.setCell ⟨s, 5, none⟩ u).heap[s]? = some (stepO M n d b p u) := by
  simp [World.setCell, Array.getElem?_modify, hs]
set_option maxHeartbeats 3200000 in
set_option maxRecDepth 4000 in
theorem Program_done {w : World} {M : Lay} {A : St} {lab : Lab} (h : Arr w M A lab) {N : Int} (hB : Bd A N) (hN : N ≤ 900000) (d b p gs os cap : Nat) (hon : A.on = true) (hd : d < A.D) (hb : b < A.B) (hp : p < A.P) (hn : (A.blk d b).next = p)
    {bs : List Nat} (src : Src w gs os bs) (hbl : bs.length = A.Y) (hcap : A.Y ≤ cap) (hgs : lab gs = none) :
    Calls Try.prog 9 #[ptr M.a 0, num d, num b, num p, .slice (some ⟨gs, os, none⟩) A.Y cap] w (OpPost w M lab (A.doProgram d b p bs)) := by
  have hq := refuses_ok h d b p
  rw [refS_ok hon hd hb hp] at hq
  have HR : Hid (Calls Try.prog 21 #[ptr M.a 0, num d, num b, num p] w _) := hq
  have HN := next_ok h d b hd hb
  rw [hn] at HN
  have HNx : Hid (Calls Try.prog 8 #[ptr M.a 0, num d, num b] w _) := HN
  have hl' : ((A.Y : Int) != (A.Y : Int)) = false := by simp
  have hn' : ((p : Int) != (p : Int)) = false := by simp
  have c3 := h.cY.1
  have hI := num_i64 hB (by omega)
  have HBg : Hid (Calls Try.prog 22 #[ptr M.a 0, ptr M.a 8, num d, num b, num p] w (BeginPost w M A lab 1 d b p)) := begin_ok h 8 (by decide) (by decide) hB (by omega) d b hd hb p
  clear hq HN
  go_enter Try.func9, Try.ntmps9
  go_wp2_with fail
  refine HR.out.mono ?_
  rintro e w1 ⟨rfl, rfl⟩
  go_wp2_with fail
  refine HNx.out.mono ?_
  rintro e w1 ⟨rfl, rfl⟩
  go_wp2_with fail
  refine HBg.out.mono ?_
  rintro e w2 ⟨s, rfl, hsz, hs2, h2, st2⟩
  obtain ⟨q1, q2⟩ : At w2 s 5 (.slice none 0 0) := At.of_row (o := 5) hs2 rfl
  have hsl : addLab lab s .step s = some .step := by simp [addLab]
  have hgl : gs < w1.heap.size := lt_of_cell (src.cell 0 (by have := h.dims.y1; omega))
  have src2 : Src w2 gs os bs := src.of_heap (st2.same gs hgl hgs)
  have hgn : s ≠ gs := by omega
  have src3 : Src (w2.setCell ⟨s, 5, none⟩ (.slice (some ⟨gs, os, none⟩) A.Y cap)) gs os bs := src2.of_heap (setCell_else (Ne.symm hgn) _)
  have hs3 := setCell_step hs2 (.slice (some ⟨gs, os, none⟩) A.Y cap)
  have h3 := h2.set (g := s) (o := 5) (.inr hsl) (.slice (some ⟨gs, os, none⟩) A.Y cap)
  have st3 := st2.set (g := s) (o := 5) (.inr hsz) (.slice (some ⟨gs, os, none⟩) A.Y cap)
  have hB3 : Bd (A.tick 1) (N + 1) := hB.tick 1
  generalize hw3 : w2.setCell ⟨s, 5, none⟩ (.slice (some ⟨gs, os, none⟩) A.Y cap) = w3 at h3 st3 hs3 src3
  have Hw3 : Hid _ := hw3
  have glob : gs < w3.heap.size := lt_of_cell (src3.cell 0 (by have := h.dims.y1; omega))
  have hgs3 : addLab lab s .step gs = none := by simp [addLab, Ne.symm hgn, hgs]
  have hrun : Calls Try.prog 23 #[ptr s 0, .func (.func 24) #[ptr s 0] #[], .func (.func 25) #[ptr s 0] #[]] w3 fun e w' => e = .returned (num (A.doProgram d b p bs).2) ∧ ∃ lab', Arr w' M (A.doProgram d b p bs).1 lab' ∧ Stp lab lab' w1 w' := by
    unfold St.doProgram
    cases hcut : A.cuts A.num with
    | some part =>
      have hp0 := hB.cu _ _ hcut
      by_cases hdead : A.num < A.dead d
      · simp only [hdead, if_true]
        refine run_cut_pr h3 hs3 hsl hI hd hB3 (by omega) (part := part) hcut hdead (fun wx hx sx ex => ?_)
        have hsx := ex.trans hs3
        refine (part_ok hx hsx hsl hd hb hp (src3.of_heap (sx.same gs glob hgs3)) hbl hcap (min part A.Y).toNat part (by show (min part (A.Y : Int)).toNat ≤ A.Y; omega) (by show (((min part (A.Y : Int)).toNat : Nat) : Int) = min part (A.Y : Int); omega) hB3.cutOff).mono ?_
        rintro e wy ⟨lab', rfl, hy, sy, _, _⟩
        exact ⟨rfl, lab', hy, st3.trans (sx.trans sy)⟩
      · simp only [hdead, if_false]
        refine (run_cut_dead h3 hs3 hsl hI hd hB3 (by omega) (part := part) hcut (by show A.dead d ≤ A.num; omega) _ _).mono ?_
        rintro e wy ⟨rfl, hy, sy, _⟩
        exact ⟨rfl, _, hy, st3.trans sy⟩
    | none =>
      by_cases hdead : A.num < A.dead d
      · simp only [hdead, if_true]
        refine run_whole_pr h3 hs3 hI hd hcut hdead (fun wx hx sx ex => ?_)
        refine (program_ok hx (by rw [ex]; exact hs3) hsl hd hb hp (src3.of_heap (by rw [ex])) hbl hcap hB3 (by omega) hn).mono ?_
        rintro e wy ⟨lab', rfl, hy, sy, _, _⟩
        exact ⟨rfl, lab', hy, st3.trans (sx.trans sy)⟩
      · simp only [hdead, if_false]
        refine (run_dead h3 hs3 hI hd hcut (by show A.dead d ≤ A.num; omega) _ _).mono ?_
        rintro e wy ⟨rfl, hy, sy, _⟩
        exact ⟨rfl, _, hy, st3.trans sy⟩
  have HRun : Hid (Calls Try.prog 23 #[ptr s 0, .func (.func 24) #[ptr s 0] #[], .func (.func 25) #[ptr s 0] #[]] w3 _) := hrun
  clear hrun hw3 hI hB3
  go_wp2_with fail
  rw [Hw3.out]
  refine HRun.out.mono ?_
  rintro e w4 ⟨rfl, lab', h4, st4⟩
  go_wp2
  go_ret
  exact ⟨lab', rfl, h4, st4⟩
end Nd
end Go.Proofs.Ytojamicakkecbab
