/- Layer 4 (nand): erase, erasePart, Erase. -/
import Derived.Test.YtojamicakkecbabNj
namespace Go.Proofs.Ytojamicakkecbab
open Go.RowKit Go.Maps
namespace Nd
def St.upB (A : St) (d b : Nat) (f : Blk → Blk) : St := A.setBlk d b (f (A.blk d b))
def Blk.incE (x : Blk) : Blk := { x with erases := x.erases + 1 }
def Blk.setN (v : Int) (x : Blk) : Blk := { x with next := v }
def Blk.clr (k : Nat) (x : Blk) : Blk := { x with pages := fun q => if q < k then none else x.pages q }
/-- What stays of a block when a cell of its own is written. -/
theorem BlkM.rest {w : World} {lab : Lab} {P Y d b g o : Nat} {x : Blk} (h : BlkM w lab P Y d b g o x) (hg : lab g = some (.bk d)) {i : Nat} (hi : i < 5) (v : Value) :
    (∃ pg, At (w.setCell ⟨g, o + i, none⟩ v) g (o + 5) (.slice (some ⟨pg, 0, none⟩) P P) ∧ lab pg = some (.pg d b) ∧ ∀ p, p < P → ∃ u, At (w.setCell ⟨g, o + i, none⟩ v) pg p u ∧ PageM (w.setCell ⟨g, o + i, none⟩ v) lab Y d b p u (x.pages p)) ∧
    (∃ u, At (w.setCell ⟨g, o + i, none⟩ v) g (o + 6) u ∧ FlipsM (w.setCell ⟨g, o + i, none⟩ v) lab d b u x.flips) := by
  have e : ∀ g' r, lab g' = some r → r ≠ .bk d → (w.setCell ⟨g, o + i, none⟩ v).heap[g']? = w.heap[g']? := fun g' r hr hne => setCell_else (by rintro rfl; rw [hg] at hr; cases hr; exact hne rfl) _
  obtain ⟨pg, a1, a2, a3⟩ := h.pages
  obtain ⟨fv, f1, f2⟩ := h.flips
  refine ⟨⟨pg, a1.set_off (by omega) _, a2, fun p hp => ?_⟩, fv, f1.set_off (by omega) _, f2.kept (fun g' hg' => ⟨e g' _ hg' (by simp), hg'⟩) (fun k g' hg' => ⟨e g' _ hg' (by simp), hg'⟩)⟩
  obtain ⟨u, u1, u2⟩ := a3 p hp
  exact ⟨u, u1.of_heap (e pg _ a2 (by simp)), u2.kept (fun g' hg' => ⟨e g' _ hg' (by simp), hg'⟩)⟩
theorem Arr.cellB {w : World} {M : Lay} {A : St} {lab : Lab} (h : Arr w M A lab) {d b : Nat} (hd : d < A.D) (hb : b < A.B) {i : Nat} (hi : i < 7) (v : Value) {x : Blk}
    (hx : BlkM (w.setCell ⟨M.bk d, b * 7 + i, none⟩ v) lab A.P A.Y d b (M.bk d) (b * 7) x) : Arr (w.setCell ⟨M.bk d, b * 7 + i, none⟩ v) M (A.setBlk d b x) lab :=
  h.setBlk hd hb (fun g r hr hno _ => setCell_else (by rintro rfl; rw [h.lbk d hd] at hr; cases hr; exact hno (.inl rfl)) _) (fun o u ho hu => hu.set_off (by omega) _) (fun _ _ hr => hr) (fun g hg => by rw [setCell_size]; exact h.lt g hg) hx
theorem Arr.incE {w : World} {M : Lay} {A : St} {lab : Lab} (h : Arr w M A lab) {d b : Nat} (hd : d < A.D) (hb : b < A.B) :
    Arr (w.setCell ⟨M.bk d, b * 7 + 1, none⟩ (num ((A.blk d b).erases + 1))) M (A.upB d b Blk.incE) lab := by
  have hx := h.blk d b hd hb
  obtain ⟨r1, r2⟩ := hx.rest (h.lbk d hd) (i := 1) (by decide) (num ((A.blk d b).erases + 1))
  exact h.cellB hd hb (by decide) _ ⟨hx.next.set_off (by omega) _, hx.erases.set_same _, hx.marked.set_off (by omega) _, hx.noP.set_off (by omega) _, hx.noE.set_off (by omega) _, r1, r2⟩
theorem Arr.setN {w : World} {M : Lay} {A : St} {lab : Lab} (h : Arr w M A lab) {d b : Nat} (hd : d < A.D) (hb : b < A.B) (v : Int) :
    Arr (w.setCell ⟨M.bk d, b * 7, none⟩ (num v)) M (A.upB d b (Blk.setN v)) lab := by
  have hx := h.blk d b hd hb
  obtain ⟨r1, r2⟩ := hx.rest (h.lbk d hd) (i := 0) (by decide) (num v)
  exact h.cellB (i := 0) hd hb (by decide) _ ⟨hx.next.set_same _, hx.erases.set_off (by omega) _, hx.marked.set_off (by omega) _, hx.noP.set_off (by omega) _, hx.noE.set_off (by omega) _, r1, r2⟩
/-! ### clear -/
theorem setCells_else {g j : Nat} (hne : j ≠ g) : ∀ (vs : List Value) (o : Nat) (w : World), (w.setCells g o vs).heap[j]? = w.heap[j]?
  | [], _, _ => rfl
  | v :: r, o, w => by rw [World.setCells, setCells_else hne r, setCell_else hne]
theorem setCells_size {g : Nat} : ∀ (vs : List Value) (o : Nat) (w : World), (w.setCells g o vs).heap.size = w.heap.size
  | [], _, _ => rfl
  | v :: r, o, w => by rw [World.setCells, setCells_size r, setCell_size]
theorem At.setCells {g i : Nat} (z : Value) : ∀ (k o : Nat) (w : World) (v : Value), At w g i v → At (w.setCells g o (List.replicate k z)) g i (if o ≤ i ∧ i < o + k then z else v)
  | 0, o, w, v, h => by rw [if_neg (by omega)]; exact h
  | k + 1, o, w, v, h => by
    rw [List.replicate_succ, World.setCells]
    by_cases e : i = o
    · subst e
      have := At.setCells z k (i + 1) _ z (h.set_same z)
      rw [if_neg (by omega)] at this
      rw [if_pos (by omega)]
      exact this
    · have := At.setCells z k (o + 1) _ v (h.set_off e z)
      by_cases c : o ≤ i ∧ i < o + (k + 1)
      · rw [if_pos c]
        rw [if_pos (by omega)] at this
        exact this
      · rw [if_neg c]
        rw [if_neg (by omega)] at this
        exact this
theorem run_clear {w : World} {pg : Nat} (k c : Nat) (ty : TypeId) (hc : ∀ i, i < k → ∃ v, At w pg i v) :
    (Builtin.clear_ #[68] ty #[.slice (some ⟨pg, 0, none⟩) k c]).run Try.prog w = .ok (.tuple #[]) (w.setCells pg 0 (List.replicate k (.slice none 0 0))) := by
  cases k with
  | zero => simp [Builtin.clear_, run_underlying Try.underlying68, World.setCells, Result.andThen]
  | succ k =>
    have hz : (zeroValue 33).run Try.prog w = .ok (.slice none 0 0) w := by kernel_rfl
    have hl : (Builtin.zeroCells (Value.slice none 0 0).cells (k + 1)).toList = List.replicate (k + 1) (Value.slice none 0 0) := by
      apply List.ext_getElem
      · simp [Builtin.zeroCells, Value.cells]
      · intro i i1 i2
        simp [Builtin.zeroCells, Value.cells, Nat.mod_one]
    have hst := run_storeCells_cells (P := Try.prog) pg 0 (List.replicate (k + 1) (.slice none 0 0)) 0 w (fun j hj => by
      obtain ⟨v, hv⟩ := hc j (by simpa using hj)
      simp [hv.1]) (fun j hj => by
      obtain ⟨v, hv⟩ := hc j (by simpa using hj)
      simpa using hv.2) (fun v hv => by simp at hv; rw [hv]; rfl)
    simp only [Builtin.clear_]
    simp [run_underlying Try.underlying68, Result.andThen, hz]
    rw [hl, hst]
/-- Pages are erased. -/
theorem Arr.clear {w : World} {M : Lay} {A : St} {lab : Lab} (h : Arr w M A lab) {d b : Nat} (hd : d < A.D) (hb : b < A.B) {pg k : Nat} (hpg : w.cell? ⟨M.bk d, b * 7 + 5, none⟩ = some (.slice (some ⟨pg, 0, none⟩) A.P A.P)) :
    Arr (w.setCells pg 0 (List.replicate k (.slice none 0 0))) M (A.upB d b (Blk.clr k)) lab ∧ Stp lab lab w (w.setCells pg 0 (List.replicate k (.slice none 0 0))) ∧ lab pg = some (.pg d b) ∧ ∀ i, i < A.P → ∃ v, At w pg i v := by
  have hx := h.blk d b hd hb
  obtain ⟨pg', a1, a2, a3⟩ := hx.pages
  have e : pg' = pg := by
    have := a1.1
    rw [hpg] at this
    simpa using this.symm
  subst e
  have hbk := h.lbk d hd
  have el : ∀ g r, lab g = some r → r ≠ .pg d b → (w.setCells pg' 0 (List.replicate k (.slice none 0 0))).heap[g]? = w.heap[g]? := fun g r hr hne => setCells_else (by rintro rfl; rw [a2] at hr; cases hr; exact hne rfl) _ _ _
  have eb := el _ _ hbk (by simp)
  obtain ⟨fv, f1, f2⟩ := hx.flips
  refine ⟨?_, ?_, a2, fun i hi => ?_⟩
  · refine h.setBlk hd hb (fun g r hr hno _ => el g r hr (fun e => hno (.inr (.inl e)))) (fun o u _ hu => hu.of_heap eb) (fun _ _ hr => hr) (fun g hg => by rw [setCells_size]; exact h.lt g hg) ?_
    refine ⟨hx.next.of_heap eb, hx.erases.of_heap eb, hx.marked.of_heap eb, hx.noP.of_heap eb, hx.noE.of_heap eb, ⟨pg', a1.of_heap eb, a2, fun p hp => ?_⟩, fv, f1.of_heap eb, f2.kept (fun g' hg' => ⟨el g' _ hg' (by simp), hg'⟩) (fun k g' hg' => ⟨el g' _ hg' (by simp), hg'⟩)⟩
    obtain ⟨u, u1, u2⟩ := a3 p hp
    refine ⟨_, u1.setCells (.slice none 0 0) k 0, ?_⟩
    by_cases hk : p < k
    · rw [if_pos (by omega)]
      exact .inl ⟨by simp [Blk.clr, hk], rfl⟩
    · rw [if_neg (by omega)]
      have e2 : (Blk.clr k (A.blk d b)).pages p = (A.blk d b).pages p := by simp [Blk.clr, hk]
      rw [e2]
      exact u2.kept (fun g' hg' => ⟨el g' _ hg' (by simp), hg'⟩)
  · have hos : ∀ (vs : List Value) (o : Nat) (w : World), (w.setCells pg' o vs).os = w.os ∧ (w.setCells pg' o vs).tape = w.tape ∧ (w.setCells pg' o vs).output = w.output := by
      intro vs
      induction vs with
      | nil => intro o w; exact ⟨rfl, rfl, rfl⟩
      | cons v r ih => intro o w; rw [World.setCells]; exact ih _ _
    obtain ⟨o1, o2, o3⟩ := hos (List.replicate k (.slice none 0 0)) 0 w
    exact ⟨o1, o2, o3, by rw [setCells_size]; exact Nat.le_refl _, fun g _ hl => setCells_else (by rintro rfl; rw [a2] at hl; cases hl) _ _ _, fun _ hl => .inl hl⟩
  · obtain ⟨u, u1, _⟩ := a3 i hi
    exact ⟨u, u1⟩
/-! ### erase -/
def St.eraseAll (A : St) (n : Int) (d b : Nat) : St := if n < (A.blk d b).noE then ((A.upB d b Blk.incE).upB d b (Blk.clr A.P)).upB d b (Blk.setN 0) else (A.upB d b Blk.incE).tick 4
def eraseRet (A : St) (n : Int) (d b : Nat) : Int := if n < (A.blk d b).noE then 0 else 43
def St.erasePart (A : St) (n : Int) (d b k : Nat) : St := if n < (A.blk d b).noE then ((A.upB d b Blk.incE).upB d b (Blk.setN (-1))).upB d b (Blk.clr k) else (A.upB d b Blk.incE).upB d b (Blk.setN (-1))
theorem Bd.incE {A : St} {N : Int} (h : Bd A N) (d b : Nat) : Bd (A.upB d b Blk.incE) (N + 1) := by
  refine ⟨fun i hi => ⟨(h.cnt i hi).1, by have := (h.cnt i hi).2; show A.cnt i ≤ N + 1; omega⟩, fun d' b' => ?_, fun d' b' => ?_, h.cu⟩
  · show 0 ≤ (if d' = d ∧ b' = b then _ else A.blk d' b').erases ∧ (if d' = d ∧ b' = b then _ else A.blk d' b').erases ≤ N + 1
    have h1 := h.er d b
    have h2 := h.er d' b'
    split
    · simp only [Blk.incE]; omega
    · omega
  · show -1 ≤ (if d' = d ∧ b' = b then _ else A.blk d' b').next ∧ (if d' = d ∧ b' = b then _ else A.blk d' b').next ≤ A.P
    split
    · exact h.nx d b
    · exact h.nx d' b'
theorem upB_same (A : St) (d b : Nat) (f : Blk → Blk) : (A.upB d b f).blk d b = f (A.blk d b) := by simp [St.upB, St.setBlk]
set_option maxHeartbeats 1600000 in
set_option maxRecDepth 4000 in
theorem erase_ok {w : World} {M : Lay} {A : St} {lab : Lab} (h : Arr w M A lab) {s : Nat} {n : Int} {d b : Nat} {p : Int} {v : Value} (hs : w.heap[s]? = some (stepO M n d b p v)) (hsl : lab s = some .step)
    (hd : d < A.D) (hb : b < A.B) {N : Int} (hB : Bd A N) (hN : N ≤ 990000) :
    Calls Try.prog 26 #[ptr s 0] w (ProgPost w M (A.eraseAll n d b) lab s (num (eraseRet A n d b))) := by
  obtain ⟨c0, c1, c2, c3, c4, c5⟩ := step_cells hs
  have hx := h.blk d b hd hb
  obtain ⟨e1, e2⟩ := hx.erases
  have hbe := hB.er d b
  have hsb : s ≠ M.bk d := fun e => by have := h.lbk d hd; rw [← e, hsl] at this; cases this
  have h1 := h.incE hd hb
  have st1 : Stp lab lab w (w.setCell ⟨M.bk d, b * 7 + 1, none⟩ (num ((A.blk d b).erases + 1))) := (Stp.refl _ _).set (.inl (by rw [h.lbk d hd]; simp)) _
  have hB1 := hB.incE d b
  have hs1 : (w.setCell ⟨M.bk d, b * 7 + 1, none⟩ (num ((A.blk d b).erases + 1))).heap[s]? = some (stepO M n d b p v) := (setCell_else hsb _).trans hs
  obtain ⟨w1, hw1⟩ : ∃ w1, w1 = w.setCell ⟨M.bk d, b * 7 + 1, none⟩ (num ((A.blk d b).erases + 1)) := ⟨_, rfl⟩
  rw [← hw1] at h1 st1 hs1
  have Hw1 : Hid _ := hw1
  clear hw1
  obtain ⟨k0, k1, k2, k3, k4, k5⟩ := step_cells hs1
  have hx1 := h1.blk d b hd hb
  rw [upB_same] at hx1
  have n4 : w1.cell? ⟨M.bk d, b * 7 + 4, none⟩ = some (num (A.blk d b).noE) := hx1.noE.1
  go_enter Try.func26, Try.ntmps26
  go_wp2_with (rw [← Hw1.out])
  clear c0 c1 c2 c3 c4 c5 e1 e2 hx
  by_cases hlt : n < (A.blk d b).noE
  · have HP : Hid (A.eraseAll n d b = ((A.upB d b Blk.incE).upB d b (Blk.clr A.P)).upB d b (Blk.setN 0) ∧ eraseRet A n d b = 0) := by simp [Hid, St.eraseAll, eraseRet, hlt]
    obtain ⟨pg, a1, a2, a3⟩ := hx1.pages
    obtain ⟨h2, st2, lpg, hat⟩ := h1.clear hd hb (k := A.P) a1.1
    have hclr : ∀ ty, (Builtin.clear_ #[68] ty #[.slice (some ⟨pg, 0, none⟩) A.P A.P]).run Try.prog w1 = .ok (.tuple #[]) (w1.setCells pg 0 (List.replicate A.P (.slice none 0 0))) := fun ty => run_clear A.P A.P ty hat
    have h3 := h2.setN hd hb 0
    have st3 := st2.set (g := M.bk d) (o := b * 7) (.inl (by rw [h.lbk d hd]; simp)) (num 0)
    have hsp : s ≠ pg := fun e => by rw [← e, hsl] at lpg; cases lpg
    have hs2 : (w1.setCells pg 0 (List.replicate A.P (.slice none 0 0))).heap[s]? = some (stepO M n d b p v) := (setCells_else hsp _ _ _).trans hs1
    have hs3 : ((w1.setCells pg 0 (List.replicate A.P (.slice none 0 0))).setCell ⟨M.bk d, b * 7, none⟩ (num 0)).heap[s]? = w.heap[s]? := by rw [setCell_else hsb, hs2, hs]
    obtain ⟨w2, hw2⟩ : ∃ w2, w2 = w1.setCells pg 0 (List.replicate A.P (.slice none 0 0)) := ⟨_, rfl⟩
    rw [← hw2] at hclr h2 st2 h3 st3 hs2 hs3
    obtain ⟨x1, x2⟩ := (h2.blk d b hd hb).next
    have j3 := (step_cells hs2).2.2.2.1
    have p5 : w1.cell? ⟨M.bk d, b * 7 + 5, none⟩ = some (.slice (some ⟨pg, 0, none⟩) A.P A.P) := a1.1
    have HV : Hid (Calls Try.prog 34 #[ptr s 0, num (A.blk d b).noE] w1 _) := verdict_yes hs1 (A.blk d b).noE hlt
    have H3 : Hid _ := h3
    have HS3 : Hid _ := hs3
    clear hlt hw2 h2 a1 a3 hat h3 hs2 hs3
    refine HV.out.mono ?_
    rintro e w1 ⟨rfl, rfl⟩
    go_wp2
    go_ret
    rw [HP.out.1, HP.out.2]
    exact ⟨lab, rfl, H3.out, st1.trans st3, HS3.out, hsl⟩
  · have HP : Hid (A.eraseAll n d b = (A.upB d b Blk.incE).tick 4 ∧ eraseRet A n d b = 43) := by simp [Hid, St.eraseAll, eraseRet, hlt]
    have HV : Hid (Calls Try.prog 34 #[ptr s 0, num (A.blk d b).noE] w1 _) := verdict_no h1 hs1 hsl (A.blk d b).noE (by omega) hB1 (by omega)
    refine HV.out.mono ?_
    rintro e w2 ⟨rfl, h2, st2, hs2⟩
    have hs3 : w2.heap[s]? = w.heap[s]? := by rw [hs2, hs1, hs]
    clear hs2
    go_wp2
    go_ret
    rw [HP.out.1, HP.out.2]
    exact ⟨lab, rfl, h2, st1.trans st2, hs3, hsl⟩
set_option maxHeartbeats 1600000 in
set_option maxRecDepth 4000 in
theorem erasePart_ok {w : World} {M : Lay} {A : St} {lab : Lab} (h : Arr w M A lab) {s : Nat} {n : Int} {d b : Nat} {p : Int} {v : Value} (hs : w.heap[s]? = some (stepO M n d b p v)) (hsl : lab s = some .step)
    (hd : d < A.D) (hb : b < A.B) (k : Nat) (done : Int) (hk1 : k ≤ A.P) (hk2 : (k : Int) = min done A.P) {N : Int} (hB : Bd A N) (hN : N ≤ 990000) :
    Calls Try.prog 27 #[ptr s 0, num done] w (ProgPost w M (A.erasePart n d b k) lab s (.tuple #[])) := by
  obtain ⟨c0, c1, c2, c3, c4, c5⟩ := step_cells hs
  have hx := h.blk d b hd hb
  obtain ⟨e1, e2⟩ := hx.erases
  have hbe := hB.er d b
  have hsb : s ≠ M.bk d := fun e => by have := h.lbk d hd; rw [← e, hsl] at this; cases this
  have h1 := h.incE hd hb
  have st1 : Stp lab lab w (w.setCell ⟨M.bk d, b * 7 + 1, none⟩ (num ((A.blk d b).erases + 1))) := (Stp.refl _ _).set (.inl (by rw [h.lbk d hd]; simp)) _
  have hs1 : (w.setCell ⟨M.bk d, b * 7 + 1, none⟩ (num ((A.blk d b).erases + 1))).heap[s]? = some (stepO M n d b p v) := (setCell_else hsb _).trans hs
  obtain ⟨w1, hw1⟩ : ∃ w1, w1 = w.setCell ⟨M.bk d, b * 7 + 1, none⟩ (num ((A.blk d b).erases + 1)) := ⟨_, rfl⟩
  rw [← hw1] at h1 st1 hs1
  have Hw1 : Hid _ := hw1
  have k3 := (step_cells hs1).2.2.2.1
  have hx1 := h1.blk d b hd hb
  rw [upB_same] at hx1
  obtain ⟨n1, n2⟩ := hx1.next
  have h2 := h1.setN hd hb (-1)
  have st2 := st1.set (g := M.bk d) (o := b * 7) (.inl (by rw [h.lbk d hd]; simp)) (num (-1))
  have hs2 : (w1.setCell ⟨M.bk d, b * 7, none⟩ (num (-1))).heap[s]? = some (stepO M n d b p v) := (setCell_else hsb _).trans hs1
  obtain ⟨w2, hw2⟩ : ∃ w2, w2 = w1.setCell ⟨M.bk d, b * 7, none⟩ (num (-1)) := ⟨_, rfl⟩
  rw [← hw2] at h2 st2 hs2
  have Hw2 : Hid _ := hw2
  obtain ⟨j0, j1, j2, j3, j4, j5⟩ := step_cells hs2
  have hx2 := h2.blk d b hd hb
  rw [upB_same, upB_same] at hx2
  have n4 : w2.cell? ⟨M.bk d, b * 7 + 4, none⟩ = some (num (A.blk d b).noE) := hx2.noE.1
  have HFo : Hid (Try.prog.follows .mixedOrders = true) := follows_mixed
  clear hw1 hw2
  go_enter Try.func27, Try.ntmps27
  go_wp2_with (rw [← Hw1.out])
  clear c0 c1 c2 c3 c4 c5 e1 e2 hx Hw1
  rw [← Hw2.out]
  clear n1 n2 k3 Hw2
  by_cases hlt : n < (A.blk d b).noE
  · have HP : Hid (A.erasePart n d b k = ((A.upB d b Blk.incE).upB d b (Blk.setN (-1))).upB d b (Blk.clr k)) := by simp [Hid, St.erasePart, hlt]
    go_quiet (fail)
    go_wp2_with fail
    obtain ⟨pg, a1, a2, a3⟩ := hx2.pages
    obtain ⟨w3, hw3⟩ : ∃ w3, w3 = w2.drewN nq := ⟨_, rfl⟩
    have h3 : Arr w3.drew M ((A.upB d b Blk.incE).upB d b (Blk.setN (-1))) lab := by rw [hw3]; exact (h2.drewN nq).drew
    have st3 : Stp lab lab w w3.drew := by rw [hw3]; exact (st2.drewN nq).drew
    have hs3 : w3.heap[s]? = some (stepO M n d b p v) := by rw [hw3]; exact hs2
    have p5 : w3.cell? ⟨M.bk d, b * 7 + 5, none⟩ = some (.slice (some ⟨pg, 0, none⟩) A.P A.P) := by rw [hw3]; exact a1.1
    rw [← hw3]
    obtain ⟨h4, st4, lpg, hat⟩ := h3.clear hd hb (k := k) (pg := pg) p5
    have hclr : ∀ ty, (Builtin.clear_ #[68] ty #[.slice (some ⟨pg, 0, none⟩) k A.P]).run Try.prog w3.drew = .ok (.tuple #[]) (w3.drew.setCells pg 0 (List.replicate k (.slice none 0 0))) := fun ty => run_clear k A.P ty (fun i hi => hat i (Nat.lt_of_lt_of_le hi hk1))
    have hsp : s ≠ pg := fun e => by rw [← e, hsl] at lpg; cases lpg
    have hs4 : (w3.drew.setCells pg 0 (List.replicate k (.slice none 0 0))).heap[s]? = w.heap[s]? := (setCells_else hsp _ _ _).trans (hs3.trans hs.symm)
    obtain ⟨w4, hw4⟩ : ∃ w4, w4 = w3.drew.setCells pg 0 (List.replicate k (.slice none 0 0)) := ⟨_, rfl⟩
    rw [← hw4] at h4 st4 hs4 hclr
    clear j0 j1 j2 j3 j4 j5 hx2 hx1 h1 hs1 st1 a1 a3 n4 hw3 hw4 h3 h2 hs2 hat
    obtain ⟨j0, j1, j2, j3, j4, j5⟩ := step_cells hs3
    have HK : Hid ((if (A.P : Int) < done then (A.P : Int) else done) = (k : Int)) := by rw [Hid, hk2]; split <;> omega
    have k1 : (k : Int) ≤ (A.P : Int) := by omega
    have k2 : (A.P : Int) ≤ 64 := by have := h.dims.p2; omega
    have HS4 : Hid _ := hs4
    clear hk2 hs4
    go_still_tail 18, HFo.out
    rw [HK.out]
    repeat still_step
    refine wpStill_nil ?_
    change wpList _ _ _ _ _ (w3.drew)
    go_wp2
    go_end0
    rw [HP.out]
    exact ⟨lab, rfl, h4, st3.trans st4, HS4.out, hsl⟩
  · have HP : Hid (A.erasePart n d b k = (A.upB d b Blk.incE).upB d b (Blk.setN (-1))) := by simp [Hid, St.erasePart, hlt]
    go_quiet (fail)
    go_wp2
    go_end0
    rw [HP.out]
    exact ⟨lab, rfl, h2.drewN _, st2.drewN _, by rw [hs]; exact hs2, hsl⟩
end Nd
end Go.Proofs.Ytojamicakkecbab
