/- Layer 4 (nand): run: the whole of an operation, or a part of it. -/
import Derived.Test.YtojamicakkecbabNh
namespace Go.Proofs.Ytojamicakkecbab
open Go.RowKit Go.Maps
namespace Nd
theorem keyed3 : Keyed Try.prog 3 := int_keyed Try.underlying3
theorem zero3 (w : World) : (zeroValue 3).run Try.prog w = .ok (.int .i64 0) w := by kernel_rfl
theorem wf_i64 {k : Int} (h : I64 k) : (Lit.int .i64 k).wf = true := by
  simp [Lit.wf, IntKind.min, IntKind.max, IntKind.signed, IntKind.bits]
  unfold I64 at h
  omega
theorem i64_of_wf {x : Int} (h : (Lit.int .i64 x).wf = true) : I64 x := by
  simp [Lit.wf, IntKind.min, IntKind.max, IntKind.signed, IntKind.bits] at h
  exact ⟨by omega, by omega⟩
/-- How much of an operation is done, if it is cut. -/
def partV (f : Int → Option Int) (k : Int) : Value := .tuple #[num ((f k).getD 0), .bool (f k).isSome]
theorem CutsM.look {w : World} {mp : Nat} {f : Int → Option Int} {N : Nat} (h : CutsM w mp f N) {k : Int} (hk : I64 k) :
    (Instr.lookup 51 (.map (some mp)) (num k) true).run Try.prog w = .ok (partV f k) w := by
  obtain ⟨n, DM, hown, _, h1, h2, h3⟩ := h
  obtain ⟨v, ps, hrun, hv⟩ := hown.look_ok (t := 51) keyed3 Try.underlying51 (zero3 w) (plainElem_int Try.underlying3 (by decide)) (keyOf_int_mk Try.underlying3 (wf_i64 hk))
  obtain ⟨c, rfl, hc, hwc⟩ := plainElem_int_inv Try.underlying3 hv
  rw [hrun, h1]
  have hc' := congrArg Prod.fst hc
  simp only at hc'
  have e : c = (f k).getD 0 := by
    cases hf : f k with
    | none =>
      rw [h3 k hf] at hc'
      simp at hc'
      simpa using hc'.symm
    | some x =>
      rw [h2 k x hf] at hc'
      simp at hc'
      simpa using hc'.symm
  rw [e]
  rfl
theorem num_i64 {A : St} {N : Int} (hB : Bd A N) (hN : N ≤ 1000000) : I64 A.num := by
  obtain ⟨a1, a2, a3, a4, a5, a6⟩ := num_le hB
  unfold St.num I64
  omega
/-- The power is off, a cut is counted. -/
def St.cutOff (A : St) : St := (A.setOn false).tick 5
theorem Arr.cutOff {w : World} {M : Lay} {A : St} {lab : Lab} (h : Arr w M A lab) {N : Int} (hB : Bd A N) (hN : N ≤ 1000000) :
    Arr ((w.setCell ⟨M.a, 4, none⟩ (.bool false)).setCell ⟨M.a, 12, none⟩ (num (wr (A.cnt 5 + 1)))) M A.cutOff lab ∧ Stp lab lab w ((w.setCell ⟨M.a, 4, none⟩ (.bool false)).setCell ⟨M.a, 12, none⟩ (num (wr (A.cnt 5 + 1)))) := by
  have hb := hB.cnt 5 (by decide)
  have h2 := (h.power false).setCnt (i := 5) (by decide) (wr (A.cnt 5 + 1))
  have ha : lab M.a ≠ none := by rw [h.la]; simp
  refine ⟨?_, ((Stp.refl _ _).set (.inl ha) _).set (.inl ha) _⟩
  rw [wr_in (by omega) (by omega)] at h2 ⊢
  exact h2
theorem Bd.cutOff {A : St} {N : Int} (h : Bd A N) : Bd A.cutOff (N + 1) := by
  refine ⟨fun i hi => ?_, fun d b => ?_, h.nx, h.cu⟩
  · have := h.cnt i hi
    simp only [St.cutOff, St.tick, St.setOn, St.setCnt]
    split
    · rename_i e; subst e; omega
    · omega
  · have := h.er d b
    exact ⟨this.1, by have := this.2; show (A.blk d b).erases ≤ N + 1; omega⟩
set_option maxHeartbeats 1600000 in
set_option maxRecDepth 4000 in
/-- No cut, the die is dead. -/
theorem run_dead {w : World} {M : Lay} {A : St} {lab : Lab} (h : Arr w M A lab) {s : Nat} {n : Int} {d b : Nat} {p : Int} {v : Value} (hs : w.heap[s]? = some (stepO M n d b p v)) (hn : I64 n) (hd : d < A.D) (hc : A.cuts n = none) (hdead : A.dead d ≤ n) (f1 f2 : Value) :
    Calls Try.prog 23 #[ptr s 0, f1, f2] w fun e w' => e = .returned (num 41) ∧ Arr w' M A lab ∧ Stp lab lab w w' ∧ w'.heap = w.heap := by
  obtain ⟨c0, c1, c2, c3, c4, c5⟩ := step_cells hs
  have cd := (h.die d hd).1.1
  have cm := h.cMp.1
  have hlk : ∀ nq, (Instr.lookup 51 (.map (some M.mp)) (num n) true).run Try.prog (w.drewN nq) = .ok (.tuple #[num 0, .bool false]) (w.drewN nq) := fun nq => by
    have := (h.drewN nq).cuts.look hn
    rw [partV, hc] at this
    exact this
  have hnn := hnot
  have hdd : decide (A.dead d ≤ n) = true := by simp; omega
  go_enter Try.func23, Try.ntmps23
  go_wp2_with fail
  go_quiet (fail)
  go_wp2_with fail
  go_quiet (fail)
  go_wp2_with fail
  go_ret
  exact ⟨rfl, h.drewN _, (Stp.refl _ _).drewN _, rfl⟩
set_option maxHeartbeats 1600000 in
set_option maxRecDepth 4000 in
/-- A cut, the die is dead. -/
theorem run_cut_dead {w : World} {M : Lay} {A : St} {lab : Lab} (h : Arr w M A lab) {s : Nat} {n : Int} {d b : Nat} {p : Int} {v : Value} (hs : w.heap[s]? = some (stepO M n d b p v)) (hsl : lab s = some .step) (hn : I64 n) (hd : d < A.D) {N : Int} (hB : Bd A N) (hN : N ≤ 1000000)
    {part : Int} (hc : A.cuts n = some part) (hdead : A.dead d ≤ n) (f1 f2 : Value) :
    Calls Try.prog 23 #[ptr s 0, f1, f2] w fun e w' => e = .returned (num 40) ∧ Arr w' M A.cutOff lab ∧ Stp lab lab w w' ∧ w'.heap[s]? = w.heap[s]? := by
  obtain ⟨c0, c1, c2, c3, c4, c5⟩ := step_cells hs
  have cd := (h.die d hd).1.1
  have cm := h.cMp.1
  have hlk : ∀ nq, (Instr.lookup 51 (.map (some M.mp)) (num n) true).run Try.prog (w.drewN nq) = .ok (.tuple #[num part, .bool true]) (w.drewN nq) := fun nq => by
    have := (h.drewN nq).cuts.look hn
    rw [partV, hc] at this
    exact this
  have hnn := hnot
  have hdd : decide (A.dead d ≤ n) = true := by simp; omega
  have hne : s ≠ M.a := fun e => by have := h.la; rw [← e, hsl] at this; cases this
  obtain ⟨o1, o2⟩ := h.cOn
  have q1 : (w.setCell ⟨M.a, 4, none⟩ (.bool false)).cell? ⟨s, 0, none⟩ = some (ptr M.a 0) := (cell_of_block (setCell_else hne _)).trans c0
  obtain ⟨q2, q3⟩ : At (w.setCell ⟨M.a, 4, none⟩ (.bool false)) M.a 12 (num (A.cnt 5)) := (h.cCnt 5 (by decide)).set_off (by decide) _
  have HH : Hid (∀ nq, Arr (((w.drewN nq).setCell ⟨M.a, 4, none⟩ (.bool false)).setCell ⟨M.a, 12, none⟩ (num (wr (A.cnt 5 + 1)))) M A.cutOff lab ∧ Stp lab lab w (((w.drewN nq).setCell ⟨M.a, 4, none⟩ (.bool false)).setCell ⟨M.a, 12, none⟩ (num (wr (A.cnt 5 + 1))))) := fun nq => by
    have hq := (h.drewN nq).cutOff hB hN
    exact ⟨hq.1, ((Stp.refl _ _).drewN nq).trans hq.2⟩
  clear hc
  go_enter Try.func23, Try.ntmps23
  go_wp2_with fail
  go_quiet (fail)
  go_wp2_with fail
  go_quiet (fail)
  go_wp2_with fail
  refine (add_ok (x := A.cnt 5) 1 ?ha ?hb).mono ?_
  case ha => exact q2
  case hb => exact q3
  rintro e w5 ⟨rfl, rfl⟩
  go_wp2_with fail
  go_ret
  exact ⟨rfl, (HH.out _).1, (HH.out _).2, by rw [setCell_else hne, setCell_else hne]; rfl⟩
set_option maxHeartbeats 1600000 in
set_option maxRecDepth 4000 in
/-- No cut, the die is not dead. -/
theorem run_whole_pr {w : World} {M : Lay} {A : St} {lab : Lab} (h : Arr w M A lab) {s : Nat} {n : Int} {d b : Nat} {p : Int} {v : Value} (hs : w.heap[s]? = some (stepO M n d b p v)) (hn : I64 n) (hd : d < A.D)
    (hc : A.cuts n = none) (hdead : n < A.dead d) {r : Int} {R : World → Prop} (HW : ∀ w1, Arr w1 M A lab → Stp lab lab w w1 → w1.heap = w.heap → Calls Try.prog 24 #[ptr s 0] w1 fun e w' => e = .returned (num r) ∧ R w') :
    Calls Try.prog 23 #[ptr s 0, .func (.func 24) #[ptr s 0] #[], .func (.func 25) #[ptr s 0] #[]] w fun e w' => e = .returned (num r) ∧ R w' := by
  obtain ⟨c0, c1, c2, c3, c4, c5⟩ := step_cells hs
  have cd := (h.die d hd).1.1
  have cm := h.cMp.1
  have hlk : ∀ nq, (Instr.lookup 51 (.map (some M.mp)) (num n) true).run Try.prog (w.drewN nq) = .ok (.tuple #[num 0, .bool false]) (w.drewN nq) := fun nq => by
    have := (h.drewN nq).cuts.look hn
    rw [partV, hc] at this
    exact this
  have hnn := hnot
  have hdd : decide (A.dead d ≤ n) = false := by simp; omega
  have HH : Hid (∀ nq, Calls Try.prog 24 #[ptr s 0] (w.drewN nq) fun e w' => e = .returned (num r) ∧ R w') := fun nq => HW _ (h.drewN nq) ((Stp.refl _ _).drewN nq) rfl
  clear HW
  go_enter Try.func23, Try.ntmps23
  go_wp2_with fail
  go_quiet (fail)
  go_wp2_with fail
  go_quiet (fail)
  go_wp2_with fail
  refine (HH.out _).mono ?_
  rintro e w5 ⟨rfl, hR⟩
  go_wp2
  go_ret
  exact ⟨rfl, hR⟩
set_option maxHeartbeats 1600000 in
set_option maxRecDepth 4000 in
/-- A cut, the die is not dead. -/
theorem run_cut_pr {w : World} {M : Lay} {A : St} {lab : Lab} (h : Arr w M A lab) {s : Nat} {n : Int} {d b : Nat} {p : Int} {v : Value} (hs : w.heap[s]? = some (stepO M n d b p v)) (hsl : lab s = some .step) (hn : I64 n) (hd : d < A.D) {N : Int} (hB : Bd A N) (hN : N ≤ 1000000)
    {part : Int} (hc : A.cuts n = some part) (hdead : n < A.dead d) {R : World → Prop} (HW : ∀ w1, Arr w1 M A.cutOff lab → Stp lab lab w w1 → w1.heap[s]? = w.heap[s]? → Calls Try.prog 25 #[ptr s 0, num part] w1 fun e w' => e = .returned (.tuple #[]) ∧ R w') :
    Calls Try.prog 23 #[ptr s 0, .func (.func 24) #[ptr s 0] #[], .func (.func 25) #[ptr s 0] #[]] w fun e w' => e = .returned (num 40) ∧ R w' := by
  obtain ⟨c0, c1, c2, c3, c4, c5⟩ := step_cells hs
  have cd := (h.die d hd).1.1
  have cm := h.cMp.1
  have hlk : ∀ nq, (Instr.lookup 51 (.map (some M.mp)) (num n) true).run Try.prog (w.drewN nq) = .ok (.tuple #[num part, .bool true]) (w.drewN nq) := fun nq => by
    have := (h.drewN nq).cuts.look hn
    rw [partV, hc] at this
    exact this
  have hnn := hnot
  have hdd : decide (A.dead d ≤ n) = false := by simp; omega
  have hne : s ≠ M.a := fun e => by have := h.la; rw [← e, hsl] at this; cases this
  obtain ⟨o1, o2⟩ := h.cOn
  have q1 : (w.setCell ⟨M.a, 4, none⟩ (.bool false)).cell? ⟨s, 0, none⟩ = some (ptr M.a 0) := (cell_of_block (setCell_else hne _)).trans c0
  obtain ⟨q2, q3⟩ : At (w.setCell ⟨M.a, 4, none⟩ (.bool false)) M.a 12 (num (A.cnt 5)) := (h.cCnt 5 (by decide)).set_off (by decide) _
  have HH : Hid (∀ nq, Calls Try.prog 25 #[ptr s 0, num part] (((w.drewN nq).setCell ⟨M.a, 4, none⟩ (.bool false)).setCell ⟨M.a, 12, none⟩ (num (wr (A.cnt 5 + 1)))) fun e w' => e = .returned (.tuple #[]) ∧ R w') := fun nq => by
    have hq := (h.drewN nq).cutOff hB hN
    exact HW _ hq.1 (((Stp.refl _ _).drewN nq).trans hq.2) (by rw [setCell_else hne, setCell_else hne]; rfl)
  clear HW hc
  go_enter Try.func23, Try.ntmps23
  go_wp2_with fail
  go_quiet (fail)
  go_wp2_with fail
  go_quiet (fail)
  go_wp2_with fail
  refine (add_ok (x := A.cnt 5) 1 ?ha ?hb).mono ?_
  case ha => exact q2
  case hb => exact q3
  rintro e w5 ⟨rfl, rfl⟩
  go_wp2_with fail
  refine (HH.out _).mono ?_
  rintro e w5 ⟨rfl, hR⟩
  go_wp2
  go_ret
  exact ⟨rfl, hR⟩
set_option maxHeartbeats 1600000 in
set_option maxRecDepth 4000 in
/-- No cut, the die is not dead. -/
theorem run_whole_er {w : World} {M : Lay} {A : St} {lab : Lab} (h : Arr w M A lab) {s : Nat} {n : Int} {d b : Nat} {p : Int} {v : Value} (hs : w.heap[s]? = some (stepO M n d b p v)) (hn : I64 n) (hd : d < A.D)
    (hc : A.cuts n = none) (hdead : n < A.dead d) {r : Int} {R : World → Prop} (HW : ∀ w1, Arr w1 M A lab → Stp lab lab w w1 → w1.heap = w.heap → Calls Try.prog 26 #[ptr s 0] w1 fun e w' => e = .returned (num r) ∧ R w') :
    Calls Try.prog 23 #[ptr s 0, .func (.func 26) #[ptr s 0] #[], .func (.func 27) #[ptr s 0] #[]] w fun e w' => e = .returned (num r) ∧ R w' := by
  obtain ⟨c0, c1, c2, c3, c4, c5⟩ := step_cells hs
  have cd := (h.die d hd).1.1
  have cm := h.cMp.1
  have hlk : ∀ nq, (Instr.lookup 51 (.map (some M.mp)) (num n) true).run Try.prog (w.drewN nq) = .ok (.tuple #[num 0, .bool false]) (w.drewN nq) := fun nq => by
    have := (h.drewN nq).cuts.look hn
    rw [partV, hc] at this
    exact this
  have hnn := hnot
  have hdd : decide (A.dead d ≤ n) = false := by simp; omega
  have HH : Hid (∀ nq, Calls Try.prog 26 #[ptr s 0] (w.drewN nq) fun e w' => e = .returned (num r) ∧ R w') := fun nq => HW _ (h.drewN nq) ((Stp.refl _ _).drewN nq) rfl
  clear HW
  go_enter Try.func23, Try.ntmps23
  go_wp2_with fail
  go_quiet (fail)
  go_wp2_with fail
  go_quiet (fail)
  go_wp2_with fail
  refine (HH.out _).mono ?_
  rintro e w5 ⟨rfl, hR⟩
  go_wp2
  go_ret
  exact ⟨rfl, hR⟩
set_option maxHeartbeats 1600000 in
set_option maxRecDepth 4000 in
/-- A cut, the die is not dead. -/
theorem run_cut_er {w : World} {M : Lay} {A : St} {lab : Lab} (h : Arr w M A lab) {s : Nat} {n : Int} {d b : Nat} {p : Int} {v : Value} (hs : w.heap[s]? = some (stepO M n d b p v)) (hsl : lab s = some .step) (hn : I64 n) (hd : d < A.D) {N : Int} (hB : Bd A N) (hN : N ≤ 1000000)
    {part : Int} (hc : A.cuts n = some part) (hdead : n < A.dead d) {R : World → Prop} (HW : ∀ w1, Arr w1 M A.cutOff lab → Stp lab lab w w1 → w1.heap[s]? = w.heap[s]? → Calls Try.prog 27 #[ptr s 0, num part] w1 fun e w' => e = .returned (.tuple #[]) ∧ R w') :
    Calls Try.prog 23 #[ptr s 0, .func (.func 26) #[ptr s 0] #[], .func (.func 27) #[ptr s 0] #[]] w fun e w' => e = .returned (num 40) ∧ R w' := by
  obtain ⟨c0, c1, c2, c3, c4, c5⟩ := step_cells hs
  have cd := (h.die d hd).1.1
  have cm := h.cMp.1
  have hlk : ∀ nq, (Instr.lookup 51 (.map (some M.mp)) (num n) true).run Try.prog (w.drewN nq) = .ok (.tuple #[num part, .bool true]) (w.drewN nq) := fun nq => by
    have := (h.drewN nq).cuts.look hn
    rw [partV, hc] at this
    exact this
  have hnn := hnot
  have hdd : decide (A.dead d ≤ n) = false := by simp; omega
  have hne : s ≠ M.a := fun e => by have := h.la; rw [← e, hsl] at this; cases this
  obtain ⟨o1, o2⟩ := h.cOn
  have q1 : (w.setCell ⟨M.a, 4, none⟩ (.bool false)).cell? ⟨s, 0, none⟩ = some (ptr M.a 0) := (cell_of_block (setCell_else hne _)).trans c0
  obtain ⟨q2, q3⟩ : At (w.setCell ⟨M.a, 4, none⟩ (.bool false)) M.a 12 (num (A.cnt 5)) := (h.cCnt 5 (by decide)).set_off (by decide) _
  have HH : Hid (∀ nq, Calls Try.prog 27 #[ptr s 0, num part] (((w.drewN nq).setCell ⟨M.a, 4, none⟩ (.bool false)).setCell ⟨M.a, 12, none⟩ (num (wr (A.cnt 5 + 1)))) fun e w' => e = .returned (.tuple #[]) ∧ R w') := fun nq => by
    have hq := (h.drewN nq).cutOff hB hN
    exact HW _ hq.1 (((Stp.refl _ _).drewN nq).trans hq.2) (by rw [setCell_else hne, setCell_else hne]; rfl)
  clear HW hc
  go_enter Try.func23, Try.ntmps23
  go_wp2_with fail
  go_quiet (fail)
  go_wp2_with fail
  go_quiet (fail)
  go_wp2_with fail
  refine (add_ok (x := A.cnt 5) 1 ?ha ?hb).mono ?_
  case ha => exact q2
  case hb => exact q3
  rintro e w5 ⟨rfl, rfl⟩
  go_wp2_with fail
  refine (HH.out _).mono ?_
  rintro e w5 ⟨rfl, hR⟩
  go_wp2
  go_ret
  exact ⟨rfl, hR⟩
set_option maxHeartbeats 1600000 in
set_option maxRecDepth 4000 in
/-- No cut, the die is not dead. -/
theorem run_whole_rd {w : World} {M : Lay} {A : St} {lab : Lab} (h : Arr w M A lab) {s : Nat} {n : Int} {d b : Nat} {p : Int} {v : Value} (hs : w.heap[s]? = some (stepO M n d b p v)) (hn : I64 n) (hd : d < A.D)
    (hc : A.cuts n = none) (hdead : n < A.dead d) {r : Int} {R : World → Prop} (HW : ∀ w1, Arr w1 M A lab → Stp lab lab w w1 → w1.heap = w.heap → Calls Try.prog 28 #[ptr s 0] w1 fun e w' => e = .returned (num r) ∧ R w') :
    Calls Try.prog 23 #[ptr s 0, .func (.func 28) #[ptr s 0] #[], .func (.func 29) #[ptr s 0] #[]] w fun e w' => e = .returned (num r) ∧ R w' := by
  obtain ⟨c0, c1, c2, c3, c4, c5⟩ := step_cells hs
  have cd := (h.die d hd).1.1
  have cm := h.cMp.1
  have hlk : ∀ nq, (Instr.lookup 51 (.map (some M.mp)) (num n) true).run Try.prog (w.drewN nq) = .ok (.tuple #[num 0, .bool false]) (w.drewN nq) := fun nq => by
    have := (h.drewN nq).cuts.look hn
    rw [partV, hc] at this
    exact this
  have hnn := hnot
  have hdd : decide (A.dead d ≤ n) = false := by simp; omega
  have HH : Hid (∀ nq, Calls Try.prog 28 #[ptr s 0] (w.drewN nq) fun e w' => e = .returned (num r) ∧ R w') := fun nq => HW _ (h.drewN nq) ((Stp.refl _ _).drewN nq) rfl
  clear HW
  go_enter Try.func23, Try.ntmps23
  go_wp2_with fail
  go_quiet (fail)
  go_wp2_with fail
  go_quiet (fail)
  go_wp2_with fail
  refine (HH.out _).mono ?_
  rintro e w5 ⟨rfl, hR⟩
  go_wp2
  go_ret
  exact ⟨rfl, hR⟩
set_option maxHeartbeats 1600000 in
set_option maxRecDepth 4000 in
/-- A cut, the die is not dead. -/
theorem run_cut_rd {w : World} {M : Lay} {A : St} {lab : Lab} (h : Arr w M A lab) {s : Nat} {n : Int} {d b : Nat} {p : Int} {v : Value} (hs : w.heap[s]? = some (stepO M n d b p v)) (hsl : lab s = some .step) (hn : I64 n) (hd : d < A.D) {N : Int} (hB : Bd A N) (hN : N ≤ 1000000)
    {part : Int} (hc : A.cuts n = some part) (hdead : n < A.dead d) {R : World → Prop} (HW : ∀ w1, Arr w1 M A.cutOff lab → Stp lab lab w w1 → w1.heap[s]? = w.heap[s]? → Calls Try.prog 29 #[ptr s 0, num part] w1 fun e w' => e = .returned (.tuple #[]) ∧ R w') :
    Calls Try.prog 23 #[ptr s 0, .func (.func 28) #[ptr s 0] #[], .func (.func 29) #[ptr s 0] #[]] w fun e w' => e = .returned (num 40) ∧ R w' := by
  obtain ⟨c0, c1, c2, c3, c4, c5⟩ := step_cells hs
  have cd := (h.die d hd).1.1
  have cm := h.cMp.1
  have hlk : ∀ nq, (Instr.lookup 51 (.map (some M.mp)) (num n) true).run Try.prog (w.drewN nq) = .ok (.tuple #[num part, .bool true]) (w.drewN nq) := fun nq => by
    have := (h.drewN nq).cuts.look hn
    rw [partV, hc] at this
    exact this
  have hnn := hnot
  have hdd : decide (A.dead d ≤ n) = false := by simp; omega
  have hne : s ≠ M.a := fun e => by have := h.la; rw [← e, hsl] at this; cases this
  obtain ⟨o1, o2⟩ := h.cOn
  have q1 : (w.setCell ⟨M.a, 4, none⟩ (.bool false)).cell? ⟨s, 0, none⟩ = some (ptr M.a 0) := (cell_of_block (setCell_else hne _)).trans c0
  obtain ⟨q2, q3⟩ : At (w.setCell ⟨M.a, 4, none⟩ (.bool false)) M.a 12 (num (A.cnt 5)) := (h.cCnt 5 (by decide)).set_off (by decide) _
  have HH : Hid (∀ nq, Calls Try.prog 29 #[ptr s 0, num part] (((w.drewN nq).setCell ⟨M.a, 4, none⟩ (.bool false)).setCell ⟨M.a, 12, none⟩ (num (wr (A.cnt 5 + 1)))) fun e w' => e = .returned (.tuple #[]) ∧ R w') := fun nq => by
    have hq := (h.drewN nq).cutOff hB hN
    exact HW _ hq.1 (((Stp.refl _ _).drewN nq).trans hq.2) (by rw [setCell_else hne, setCell_else hne]; rfl)
  clear HW hc
  go_enter Try.func23, Try.ntmps23
  go_wp2_with fail
  go_quiet (fail)
  go_wp2_with fail
  go_quiet (fail)
  go_wp2_with fail
  refine (add_ok (x := A.cnt 5) 1 ?ha ?hb).mono ?_
  case ha => exact q2
  case hb => exact q3
  rintro e w5 ⟨rfl, rfl⟩
  go_wp2_with fail
  refine (HH.out _).mono ?_
  rintro e w5 ⟨rfl, hR⟩
  go_wp2
  go_ret
  exact ⟨rfl, hR⟩
end Nd
end Go.Proofs.Ytojamicakkecbab
