/- Layer 4 (nand): Read, bits turned or not. -/
import Derived.Test.YtojamicakkecbabOe
namespace Go.Proofs.Ytojamicakkecbab
open Go.RowKit Go.Maps
namespace Nd
def St.doRead (A : St) (d b p : Nat) : St × Option (List Nat) × Int :=
  match A.cuts A.num with
  | some _ => ((A.tick 0).cutOff, none, 40)
  | none => if A.num < A.dead d then ((A.tick 0).turns A.num d b p (A.blk d b).flips.length, some (turnsB (A.blk d b).flips A.num p (pageS A.Y ((A.blk d b).pages p)) (A.blk d b).flips.length), 0) else (A.tick 0, none, 41)
set_option maxHeartbeats 3200000 in
set_option maxRecDepth 4000 in
theorem Read_done {w : World} {M : Lay} {A : St} {lab : Lab} (h : Arr w M A lab) {N : Int} (hB : Bd A N) (hN : N ≤ 900000) (d b p : Nat) (hon : A.on = true) (hd : d < A.D) (hb : b < A.B) (hp : p < A.P) (hok : FlOk A) (hfl : (A.blk d b).flips.length ≤ 2000) :
    Calls Try.prog 11 #[ptr M.a 0, num d, num b, num p] w (ReadPost w M lab (A.doRead d b p)) := by
  have hq := refuses_ok h d b p
  rw [refS_ok hon hd hb hp] at hq
  have HR : Hid (Calls Try.prog 21 #[ptr M.a 0, num d, num b, num p] w _) := hq
  have hI := num_i64 hB (by omega)
  have HBg : Hid (Calls Try.prog 22 #[ptr M.a 0, ptr M.a 7, num d, num b, num p] w (BeginPost w M A lab 0 d b p)) := begin_ok h 7 (by decide) (by decide) hB (by omega) d b hd hb p
  clear hq
  go_enter Try.func11, Try.ntmps11
  go_wp2_with fail
  refine HR.out.mono ?_
  rintro e w1 ⟨rfl, rfl⟩
  go_wp2_with fail
  refine HBg.out.mono ?_
  rintro e w3 ⟨s, rfl, hsz, hs3, h3, st3⟩
  have hsl : addLab lab s .step s = some .step := by simp [addLab]
  have hB3 : Bd (A.tick 0) (N + 1) := hB.tick 0
  have hrun : Calls Try.prog 23 #[ptr s 0, .func (.func 28) #[ptr s 0] #[], .func (.func 29) #[ptr s 0] #[]] w3 fun e w' => e = .returned (num (A.doRead d b p).2.2) ∧ ∃ v, w'.heap[s]? = some (stepO M A.num d b p v) ∧ ∃ lab', Arr w' M (A.doRead d b p).1 lab' ∧ Stp lab lab' w1 w' ∧ RdV w1 lab' w' v (A.doRead d b p).2.1 := by
    unfold St.doRead
    cases hcut : A.cuts A.num with
    | some part =>
      by_cases hdead : A.num < A.dead d
      · refine run_cut_rd h3 hs3 hsl hI hd hB3 (by omega) (part := part) hcut hdead (fun wx hx sx ex => ?_)
        refine (leave_ok _ _ _).mono ?_
        rintro e wy ⟨rfl, rfl⟩
        exact ⟨rfl, _, ex.trans hs3, _, hx, st3.trans sx, .inl ⟨rfl, rfl⟩⟩
      · refine (run_cut_dead h3 hs3 hsl hI hd hB3 (by omega) (part := part) hcut (by show A.dead d ≤ A.num; omega) _ _).mono ?_
        rintro e wy ⟨rfl, hy, sy, ey⟩
        exact ⟨rfl, _, ey.trans hs3, _, hy, st3.trans sy, .inl ⟨rfl, rfl⟩⟩
    | none =>
      by_cases hdead : A.num < A.dead d
      · simp only [hdead, if_true]
        refine run_whole_rd h3 hs3 hI hd hcut hdead (fun wx hx sx ex => ?_)
        refine (read_ok hx (show FlOk (A.tick 0) from hok) (by rw [ex]; exact hs3) hsl hd hb hp hfl).mono ?_
        rintro e wy ⟨rfl, g, hg, hsy, hrow, hlen, hle, hy, sy⟩
        have hgx : w1.heap.size ≤ g := Nat.le_trans (st3.trans sx).size hg
        have hlg : addLab lab s .step g = none := hx.fresh hg
        refine ⟨rfl, _, hsy, _, hy, st3.trans (sx.trans sy), .inr ⟨turnsB (A.blk d b).flips A.num p (pageS A.Y ((A.blk d b).pages p)) (A.blk d b).flips.length, g, rfl, ?_, hgx, hlg, hrow, hle⟩⟩
        have hlen' : (turnsB (A.blk d b).flips A.num p (pageS A.Y ((A.blk d b).pages p)) (A.blk d b).flips.length).length = A.Y := hlen
        rw [hlen']
        rfl
      · simp only [hdead, if_false]
        refine (run_dead h3 hs3 hI hd hcut (by show A.dead d ≤ A.num; omega) _ _).mono ?_
        rintro e wy ⟨rfl, hy, sy, ey⟩
        exact ⟨rfl, _, by rw [ey]; exact hs3, _, hy, st3.trans sy, .inl ⟨rfl, rfl⟩⟩
  have HRun : Hid (Calls Try.prog 23 #[ptr s 0, .func (.func 28) #[ptr s 0] #[], .func (.func 29) #[ptr s 0] #[]] w3 _) := hrun
  clear hrun hI hB3
  go_wp2_with fail
  refine HRun.out.mono ?_
  rintro e w4 ⟨rfl, v, hs4, lab', h4, st4, hv⟩
  have c5 := (step_cells hs4).2.2.2.2.2
  go_wp2
  go_ret2
  exact ⟨lab', v, rfl, h4, st4, hv⟩
end Nd
end Go.Proofs.Ytojamicakkecbab
