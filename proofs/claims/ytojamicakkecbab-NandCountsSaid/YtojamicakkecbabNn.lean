/- Layer 4 (nand): within, below, shapeMayBe, newBlocks. -/
import Derived.Test.YtojamicakkecbabNm
namespace Go.Proofs.Ytojamicakkecbab
open Go.RowKit Go.Maps
namespace Nd
set_option maxHeartbeats 400000 in
theorem within_ok (n most : Int) (w : World) : Calls Try.prog 31 #[num n, num most] w fun e w' => e = .returned (.bool (decide (1 ≤ n) && decide (n ≤ most))) ∧ w' = w := by
  by_cases h : 1 ≤ n
  · have h1 : decide (1 ≤ n) = true := by simpa using h
    go_enter Try.func31, Try.ntmps31
    go_wp2
    go_ret
    exact ⟨ret_bool (by simp [h]), rfl⟩
  · have h1 : decide (1 ≤ n) = false := by simpa using h
    go_enter Try.func31, Try.ntmps31
    go_wp2
    go_ret
    exact ⟨ret_bool (by simp), rfl⟩
set_option maxHeartbeats 400000 in
theorem below_ok (n end_ : Int) (w : World) : Calls Try.prog 38 #[num n, num end_] w fun e w' => e = .returned (.bool (decide (0 ≤ n) && decide (n < end_))) ∧ w' = w := by
  by_cases h : 0 ≤ n
  · have h1 : decide (0 ≤ n) = true := by simpa using h
    go_enter Try.func38, Try.ntmps38
    go_wp2
    go_ret
    exact ⟨ret_bool (by simp [h]), rfl⟩
  · have h1 : decide (0 ≤ n) = false := by simpa using h
    go_enter Try.func38, Try.ntmps38
    go_wp2
    go_ret
    exact ⟨ret_bool (by simp), rfl⟩
abbrev shapeV (D B P Y : Int) : Value := .agg #[num D, num B, num P, num Y]
theorem within_yes {n most : Int} (h1 : 1 ≤ n) (h2 : n ≤ most) (w : World) : Calls Try.prog 31 #[num n, num most] w fun e w' => e = .returned (.bool true) ∧ w' = w := by
  have := within_ok n most w
  rwa [show (decide (1 ≤ n) && decide (n ≤ most)) = true by simp [h1, h2]] at this
theorem below_yes {n most : Int} (h1 : 0 ≤ n) (h2 : n < most) (w : World) : Calls Try.prog 38 #[num n, num most] w fun e w' => e = .returned (.bool true) ∧ w' = w := by
  have := below_ok n most w
  rwa [show (decide (0 ≤ n) && decide (n < most)) = true by simp [h1, h2]] at this
set_option maxHeartbeats 1600000 in
theorem shape_yes (D B P Y : Int) (d1 : 1 ≤ D) (d2 : D ≤ 8) (b1 : 1 ≤ B) (b2 : B ≤ 64) (p1 : 1 ≤ P) (p2 : P ≤ 64) (y1 : 1 ≤ Y) (y2 : Y ≤ 4096) (hm : D * B * P * Y ≤ 4194304) (w : World) :
    Calls Try.prog 15 #[shapeV D B P Y] w fun e w' => e = .returned (.bool true) ∧ w.grownBy w' none := by
  have m1 : 0 ≤ D * B := Int.mul_nonneg (by omega) (by omega)
  have m2 : D * B ≤ 8 * 64 := Int.mul_le_mul d2 b2 (by omega) (by omega)
  have m3 : 0 ≤ D * B * P := Int.mul_nonneg m1 (by omega)
  have m4 : D * B * P ≤ 8 * 64 * 64 := Int.mul_le_mul m2 p2 (by omega) (by omega)
  have m5 : 0 ≤ D * B * P * Y := Int.mul_nonneg m3 (by omega)
  go_enter Try.func15, Try.ntmps15
  go_wp2_with fail
  refine (within_yes d1 d2 _).mono ?_
  rintro e w1 ⟨rfl, rfl⟩
  go_wp2_with fail
  refine (within_yes b1 b2 _).mono ?_
  rintro e w1 ⟨rfl, rfl⟩
  go_wp2_with fail
  refine (within_yes p1 p2 _).mono ?_
  rintro e w1 ⟨rfl, rfl⟩
  go_wp2_with fail
  refine (within_yes y1 y2 _).mono ?_
  rintro e w1 ⟨rfl, rfl⟩
  go_wp2
  go_ret
  exact ⟨ret_bool (by simp), World.grownBy_alloc w _ none⟩
/-! ### newBlocks -/
theorem info104 : ∃ z b, (Try.prog.info? 71).map (fun i => (i.zero, i.size, i.bytes)) = some (some z, 7, b) ∧ b ≤ 1000 := ⟨.agg #[num 0, num 0, .bool false, num 0, num 0, .slice none 0 0, .slice none 0 0], 88, by kernel_rfl, by decide⟩
theorem info78 : ∃ z b, (Try.prog.info? 64).map (fun i => (i.zero, i.size, i.bytes)) = some (some z, 2, b) ∧ b ≤ 1000 := ⟨.agg #[num 0, .slice none 0 0], 32, by kernel_rfl, by decide⟩
theorem info35 : (Try.prog.info? 33).map (fun i => (i.zero, i.size, i.bytes)) = some (some (.slice none 0 0), 1, 24) := by kernel_rfl
theorem make_blks (w : World) (n : Nat) (hn : n ≤ 64) : ∃ cur : Array Value, cur.size = n * 7 ∧ (Instr.makeSlice 61 (num (n : Int)) (num (n : Int))).run Try.prog w = .ok (.slice (some ⟨w.heap.size, 0, none⟩) n n) (w.alloc (.cells cur 71)) := by
  obtain ⟨z, by_, hz, hle⟩ := info104
  obtain ⟨i0, hi, hz0, hz1, hz2⟩ := info_parts hz
  have hr := run_make (P := Try.prog) w 61 71 i0 z Try.underlying61 hi hz0 .i64 .i64 n n (by omega) (Int.le_refl _) (by
    rw [hz2]
    have : (by_ : Int) * (n : Int) ≤ 1000 * 64 := Int.mul_le_mul (by omega) (by omega) (by omega) (by omega)
    omega) (by omega)
  simp only [Int.toNat_natCast, hz1] at hr
  exact ⟨_, size_madeCells _ _, hr⟩
theorem make_dies (n : Nat) (hn : n ≤ 64) : ∃ cur : Array Value, cur.size = n * 2 ∧ ∀ w : World, (Instr.makeSlice 50 (num (n : Int)) (num (n : Int))).run Try.prog w = .ok (.slice (some ⟨w.heap.size, 0, none⟩) n n) (w.alloc (.cells cur 64)) := by
  obtain ⟨z, by_, hz, hle⟩ := info78
  obtain ⟨i0, hi, hz0, hz1, hz2⟩ := info_parts hz
  refine ⟨_, size_madeCells z.cells (n * 2), fun w => ?_⟩
  have hr := run_make (P := Try.prog) w 50 64 i0 z Try.underlying50 hi hz0 .i64 .i64 n n (by omega) (Int.le_refl _) (by
    rw [hz2]
    have : (by_ : Int) * (n : Int) ≤ 1000 * 64 := Int.mul_le_mul (by omega) (by omega) (by omega) (by omega)
    omega) (by omega)
  simp only [Int.toNat_natCast, hz1] at hr
  exact hr
def nils (n : Nat) : List Value := List.replicate n (.slice none 0 0)
theorem make_pages (w : World) (n : Nat) (hn : n ≤ 64) : (Instr.makeSlice 68 (num (n : Int)) (num (n : Int))).run Try.prog w = .ok (.slice (some ⟨w.heap.size, 0, none⟩) n n) (w.alloc (.cells (nils n).toArray 33)) := by
  obtain ⟨i0, hi, hz0, hz1, hz2⟩ := info_parts info35
  have hr := run_make (P := Try.prog) w 68 33 i0 (.slice none 0 0) Try.underlying68 hi hz0 .i64 .i64 n n (by omega) (Int.le_refl _) (by rw [hz2]; omega) (by omega)
  simp only [Int.toNat_natCast, hz1, Nat.mul_one] at hr
  have e1 : (madeCells (Value.slice none 0 0).cells n) = (nils n).toArray := by
    apply Array.toList_inj.1
    exact (toList_madeCells_one (.slice none 0 0) n)
  rw [e1] at hr
  exact hr
/-- Cells that are there and may be written. -/
def There (w : World) (g n : Nat) : Prop := ∀ j, j < n → ∃ v, At w g j v
theorem There.of_row {w : World} {g n : Nat} {L : Array Value} {t : TypeId} (h : w.heap[g]? = some (.cells L t)) (hn : n ≤ L.size) : There w g n := fun j hj => ⟨_, At.of_row h (Array.getElem?_eq_getElem (show j < L.size by omega))⟩
theorem There.set {w : World} {g n o : Nat} (h : There w g n) (v : Value) : There (w.setCell ⟨g, o, none⟩ v) g n := fun j hj => by
  obtain ⟨u, hu⟩ := h j hj
  by_cases e : j = o
  · subst e; exact ⟨v, hu.set_same v⟩
  · exact ⟨u, hu.set_off e v⟩
theorem There.of_heap {w w' : World} {g n : Nat} (h : There w g n) (e : w'.heap[g]? = w.heap[g]?) : There w' g n := fun j hj => by
  obtain ⟨u, hu⟩ := h j hj
  exact ⟨u, hu.of_heap e⟩
theorem There.cells {g : Nat} : ∀ (vs : List Value) (o n : Nat) (w : World), There w g n → There (w.setCells g o vs) g n
  | [], _, _, _, h => h
  | v :: r, o, n, _, h => There.cells r (o + 1) n _ (h.set v)
theorem at_cells_out {g x : Nat} {u : Value} : ∀ (vs : List Value) (o : Nat) (w : World), At w g x u → (x < o ∨ o + vs.length ≤ x) → At (w.setCells g o vs) g x u
  | [], _, _, h, _ => h
  | v :: r, o, _, h, hx => by
    have : x ≠ o := by simp at hx; omega
    exact at_cells_out r (o + 1) _ (h.set_off this v) (by simp at hx; omega)
theorem at_cells_in {g : Nat} : ∀ (vs : List Value) (o n : Nat) (w : World), There w g n → o + vs.length ≤ n → ∀ j v, vs[j]? = some v → At (w.setCells g o vs) g (o + j) v
  | [], _, _, _, _, _, j, v, hj => by simp at hj
  | v :: r, o, _, _, h, hn, 0, u, hj => by
    obtain ⟨x, hx⟩ := h o (by simp at hn; omega)
    simp at hj
    subst hj
    exact at_cells_out r (o + 1) _ (hx.set_same v) (by omega)
  | v :: r, o, n, _, h, hn, j + 1, u, hj => by
    have := at_cells_in r (o + 1) n _ (h.set (o := o) v) (by simp at hn; omega) j u (by simpa using hj)
    rw [show o + 1 + j = o + (j + 1) by omega] at this
    exact this
/-- Labels that came to others. -/
structure Ext (lab lab' : Lab) (w w' : World) : Prop where
  old : ∀ x r, lab x = some r → lab' x = some r
  new : ∀ x, lab' x ≠ none → lab x ≠ none ∨ w.heap.size ≤ x
  lt : ∀ x, lab' x ≠ none → x < w'.heap.size
def BlksPost (w : World) (lab : Lab) (B P Y d : Nat) (e : Ending) (w' : World) : Prop :=
  ∃ g lab', e = .returned (.slice (some ⟨g, 0, none⟩) B B) ∧ w.grownBy w' none ∧ Ext lab lab' w w' ∧ lab' g = some (.bk d) ∧ w.heap.size ≤ g ∧ ∀ b, b < B → BlkM w' lab' P Y d b g (b * 7) Blk.new
/-- What holds while blocks are made. -/
structure BlksRel (w wr : World) (lab lab' : Lab) (B P Y d g k : Nat) : Prop where
  grown : w.grownBy wr none
  ext : Ext lab lab' w wr
  lg : lab' g = some (.bk d)
  ge : w.heap.size ≤ g
  there : There wr g (B * 7)
  blks : ∀ b, b < k → BlkM wr lab' P Y d b g (b * 7) Blk.new
abbrev newBlkL (pg P : Nat) : List Value := [num 0, num 0, .bool false, num never, num never, .slice (some ⟨pg, 0, none⟩) P P, .slice none 0 0]
theorem BlksRel.next {w wr : World} {lab lab' : Lab} {B P Y d g k : Nat} (h : BlksRel w wr lab lab' B P Y d g k) (hk : k < B) :
    BlksRel w ((wr.alloc (.cells (nils P).toArray 33)).setCells g (k * 7) (newBlkL wr.heap.size P)) lab (addLab lab' wr.heap.size (.pg d k)) B P Y d g (k + 1) := by
  have hA := World.grownBy_alloc wr (.cells (nils P).toArray 33) none
  have hglt : g < wr.heap.size := h.ext.lt g (by rw [h.lg]; simp)
  have hfr : lab' wr.heap.size = none := by
    cases e : lab' wr.heap.size with
    | none => rfl
    | some r => have := h.ext.lt wr.heap.size (by simp [e]); omega
  have hrow : (wr.alloc (.cells (nils P).toArray 33)).heap[wr.heap.size]? = some (.cells (nils P).toArray 33) := heap_alloc_new wr _
  have hsz : wr.heap.size < (wr.alloc (.cells (nils P).toArray 33)).heap.size := lt_of_heap hrow
  have hlab : ∀ x r, lab' x = some r → addLab lab' wr.heap.size (.pg d k) x = some r := fun x r hr => by
    have : x ≠ wr.heap.size := fun e => by rw [e, hfr] at hr; cases hr
    simp [addLab, this, hr]
  have hel : ∀ x, x ≠ g → ((wr.alloc (.cells (nils P).toArray 33)).setCells g (k * 7) (newBlkL wr.heap.size P)).heap[x]? = (wr.alloc (.cells (nils P).toArray 33)).heap[x]? := fun x hx => setCells_else hx _ _ _
  have hos : ∀ (vs : List Value) (o : Nat) (w : World), (w.setCells g o vs).os = w.os ∧ (w.setCells g o vs).tape = w.tape ∧ (w.setCells g o vs).output = w.output := by
    intro vs
    induction vs with
    | nil => intro o w; exact ⟨rfl, rfl, rfl⟩
    | cons v r ih => intro o w; rw [World.setCells]; exact ih _ _
  obtain ⟨o1, o2, o3⟩ := hos (newBlkL wr.heap.size P) (k * 7) (wr.alloc (.cells (nils P).toArray 33))
  have hth := h.there.of_heap (hA.block g hglt (by simp))
  have hin := at_cells_in (newBlkL wr.heap.size P) (k * 7) (B * 7) _ hth (by simp; omega)
  refine ⟨⟨o1.trans (hA.os.trans h.grown.os), o2.trans (hA.tape.trans h.grown.tape), o3.trans (hA.output.trans h.grown.output), by rw [setCells_size]; exact Nat.le_trans h.grown.size hA.size, fun x hx _ => ?_⟩, ⟨fun x r hr => hlab x r (h.ext.old x r hr), fun x hx => ?_, fun x hx => ?_⟩, hlab _ _ h.lg, h.ge, There.cells _ _ _ _ hth, fun b hb => ?_⟩
  · rw [hel x (by have := h.ge; omega), hA.block x (Nat.lt_of_lt_of_le hx h.grown.size) (by simp)]
    exact h.grown.block x hx (by simp)
  · by_cases e : x = wr.heap.size
    · exact .inr (by rw [e]; exact h.grown.size)
    · exact h.ext.new x (by simpa [addLab, e] using hx)
  · rw [setCells_size]
    by_cases e : x = wr.heap.size
    · omega
    · have := h.ext.lt x (by simpa [addLab, e] using hx)
      omega
  · by_cases hbk : b < k
    · refine (h.blks b hbk).kept (fun i v hi hv => ?_) (fun r g' hr hg' => ?_)
      · exact at_cells_out _ _ _ (hv.of_heap (hA.block g hglt (by simp))) (by simp; omega)
      · have hne : g' ≠ g := by
          rintro rfl
          rw [h.lg] at hg'
          rcases hr with rfl | ⟨_, rfl⟩ | rfl | ⟨_, rfl⟩ <;> cases hg'
        exact ⟨(hel g' hne).trans (hA.block g' (h.ext.lt g' (by rw [hg']; simp)) (by simp)), hlab _ _ hg'⟩
    · obtain rfl : b = k := by omega
      refine ⟨hin 0 _ rfl, hin 1 _ rfl, hin 2 _ rfl, hin 3 _ rfl, hin 4 _ rfl, ⟨wr.heap.size, hin 5 _ rfl, by simp [addLab], fun p hp => ⟨.slice none 0 0, ?_, .inl ⟨rfl, rfl⟩⟩⟩, .slice none 0 0, hin 6 _ rfl, .inl ⟨rfl, rfl⟩⟩
      exact (At.of_row hrow (by simp [nils, hp])).of_heap (hel _ (by omega))
end Nd
end Go.Proofs.Ytojamicakkecbab
