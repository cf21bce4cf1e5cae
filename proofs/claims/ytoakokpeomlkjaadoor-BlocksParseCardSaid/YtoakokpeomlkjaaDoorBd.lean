/- Layer 7 (blocks): New. -/
import Derived.Test.YtoakokpeomlkjaaDoorBc
import Derived.Deep.RegionHeld3
namespace Go.Proofs.YtoakokpeomlkjaaDoor
open Go.RowKit Go.Maps
namespace Bk
theorem infoD : (Tryd.prog.info? 54).map (fun i => (i.zero, i.size, i.bytes)) = some (some (.slice none 0 0), 1, 24) := by kernel_rfl
def nils (n : Nat) : List Value := List.replicate n (.slice none 0 0)
theorem make_dies (w : World) (n : Nat) (hn : n ≤ 8) : (Instr.makeSlice 50 (num (n : Int)) (num (n : Int))).run Tryd.prog w = .ok (sl0 w.heap.size n) (w.alloc (.cells (nils n).toArray 54)) := by
  obtain ⟨i0, hi, hz0, hz1, hz2⟩ := info_parts infoD
  have hr := run_make (P := Tryd.prog) w 50 54 i0 (.slice none 0 0) Tryd.underlying50 hi hz0 .i64 .i64 n n (by omega) (Int.le_refl _) (by rw [hz2]; omega) (by omega)
  simp only [Int.toNat_natCast, hz1, Nat.mul_one] at hr
  have e1 : (madeCells (Value.slice none 0 0).cells n) = (nils n).toArray := by
    apply Array.toList_inj.1
    exact (toList_madeCells_one (.slice none 0 0) n)
  rw [e1] at hr
  exact hr
/-- What holds while dies are made. -/
structure NewI (w wr : World) (n m k : Nat) (b : Nat → Nat) : Prop where
  grown : w.grownBy wr none
  box : wr.heap[w.heap.size + 1]? = some (.cells #[sl0 w.heap.size n] 52)
  od : OwnR wr w.heap.size n 54
  die : ∀ i, i < k → wr.cell? ⟨w.heap.size, i, none⟩ = some (sl0 (b i) m)
  dd : ∀ i, i < k → DieI (b i) m (List.finRange m) wr
  ge : ∀ i, i < k → w.heap.size + 2 ≤ b i
  inj : ∀ i j, i < k → j < k → b i = b j → i = j
theorem NewI.next {w wr w6 : World} {n m k g : Nat} {b : Nat → Nat} (h : NewI w wr n m k b) (hk : k < n) (hg : wr.grownBy w6 none) (hgs : wr.heap.size ≤ g) (hD : DieI g m (List.finRange m) w6) :
    NewI w (w6.setCell ⟨w.heap.size, k, none⟩ (sl0 g m)) n m (k + 1) (fun i => if i = k then g else b i) := by
  have el : ∀ x, x ≠ w.heap.size → (w6.setCell ⟨w.heap.size, k, none⟩ (sl0 g m)).heap[x]? = w6.heap[x]? := fun x hx => setCell_else hx _
  have hl : ∀ i, i < k → b i < wr.heap.size := fun i hi => (h.dd i hi).own.lt
  have hw := h.od.lt
  have o6 := h.od.of_heap (hg.block _ h.od.lt (by simp))
  refine ⟨grownBy_set (grownBy_trans h.grown hg) (Nat.le_refl _) _, ?_, o6.set _ _, fun i hi => ?_, fun i hi => ?_, fun i hi => ?_, fun i j hi hj e => ?_⟩
  · rw [el _ (by omega), hg.block _ (lt_of_heap h.box) (by simp)]; exact h.box
  · by_cases e : i = k
    · subst e; simp only [if_pos]; exact o6.same hk _
    · simp only [if_neg e]; exact cell_off ((cell_of_block (hg.block _ h.od.lt (by simp))).trans (h.die i (by omega))) e
  · by_cases e : i = k
    · subst e; simp only [if_pos]; exact hD.of_block (el _ (by omega))
    · simp only [if_neg e]
      have := h.ge i (by omega)
      exact (h.dd i (by omega)).of_block ((el _ (by omega)).trans (hg.block _ (hl i (by omega)) (by simp)))
  · by_cases e : i = k
    · simp only [if_pos e]; have := lt_of_heap h.box; omega
    · simp only [if_neg e]; exact h.ge i (by omega)
  · by_cases e1 : i = k <;> by_cases e2 : j = k
    · omega
    · simp only [if_pos e1, if_neg e2] at e; have := hl j (by omega); omega
    · simp only [if_neg e1, if_pos e2] at e; have := hl i (by omega); omega
    · simp only [if_neg e1, if_neg e2] at e; exact h.inj i j (by omega) (by omega) e
def Hi (B : Nat) (P : Lay) : Prop := B ≤ P.p ∧ B ≤ P.d ∧ ∀ i, i < P.n → B ≤ P.b i
def fresh : Pool := fun _ _ => ⟨1, 0⟩
def InNew (n m : Int) : Prop := 1 ≤ n ∧ n ≤ 8 ∧ 1 ≤ m ∧ m ≤ 64
def NewPost (w : World) (n m : Nat) (e : Ending) (w' : World) : Prop := ∃ P, P.n = n ∧ P.m = m ∧ Hi w.heap.size P ∧ e = .returned (.tuple #[ptr P.p 0, num 0]) ∧ w.grownBy w' none ∧ PoolM w' P fresh
theorem NewI.done {w wr : World} {n m : Nat} {b : Nat → Nat} (h : NewI w wr n m n b) (h1 : 1 ≤ n) (h2 : n ≤ 8) (h3 : 1 ≤ m) (h4 : m ≤ 64) : NewPost w n m (.returned (.tuple #[ptr (w.heap.size + 1) 0, num 0])) wr :=
  ⟨⟨w.heap.size + 1, w.heap.size, b, n, m⟩, rfl, rfl, ⟨by simp, Nat.le_refl _, fun i hi => by have := h.ge i hi; show w.heap.size ≤ b i; omega⟩, rfl, h.grown,
    ⟨h1, h2, h3, h4, h.box, h.od, h.die, fun i hi => (h.dd i hi).own, fun i k hi hk => (h.dd i hi).st ⟨k, hk⟩ (by simp), fun i k hi hk => (h.dd i hi).er k hk, fun _ _ _ _ => Int.le_refl 1, fun _ _ _ _ => (by decide : (1 : Int) ≤ 4), fun _ _ _ _ => (by decide : 0 < 4294967296),
      fun i hi => by have := h.ge i hi; show b i ≠ w.heap.size + 1; omega, fun i hi => by have := h.ge i hi; show b i ≠ w.heap.size; omega, by show w.heap.size + 1 ≠ w.heap.size; omega, h.inj⟩⟩
set_option maxHeartbeats 3200000 in
theorem New_ok (n m : Nat) (h1 : 1 ≤ n) (h2 : n ≤ 8) (h3 : 1 ≤ m) (h4 : m ≤ 64) (w : World) : Calls Tryd.prog 7 #[num n, num m] w (NewPost w n m) := by
  have hmk := make_dies w n h2
  have i1 : (1 : Int) ≤ (n : Int) := by omega
  have i2 : (n : Int) ≤ 8 := by omega
  have i3 : (1 : Int) ≤ (m : Int) := by omega
  have i4 : (m : Int) ≤ 64 := by omega
  obtain ⟨V, hV⟩ : ∃ V, V = (w.alloc (.cells (nils n).toArray 54)).alloc (.cells #[sl0 w.heap.size n] 52) := ⟨_, rfl⟩
  have hbx : V.heap[w.heap.size + 1]? = some (.cells #[sl0 w.heap.size n] 52) := by
    have := heap_alloc_new (w.alloc (.cells (nils n).toArray 54)) (.cells #[sl0 w.heap.size n] 52)
    rw [hV]; simpa using this
  have hN0 : NewI w V n m 0 (fun _ => 0) := by
    have h := heap_alloc_new w (.cells (nils n).toArray 54)
    refine ⟨by rw [hV]; exact grownBy_alloc' (World.grownBy_alloc w _ none) _, hbx, ⟨nils n, ?_, by simp [nils]⟩, fun i hi => by omega, fun i hi => by omega, fun i hi => by omega, fun i j hi hj => by omega⟩
    rw [hV, Below.heap_alloc _ _ _ (lt_of_heap h)]; exact h
  have hc0 : V.cell? ⟨w.heap.size + 1, 0, none⟩ = some (sl0 w.heap.size n) := cell_at hbx rfl
  have Hw : Hid _ := hV
  clear hV hbx
  go_enter Tryd.func7, Tryd.ntmps7
  go_wp2_with (rw [← Hw.out])
  go_loopw [31] (fun i wr => ∃ k : Nat, k ≤ n ∧ i = num k ∧ ∃ b, NewI w wr n m k b) (fun i _ => n - (intOf i).toNat)
  case atStart => exact ⟨0, Nat.zero_le _, rfl, _, hN0⟩
  case round =>
    clear hmk hc0 hN0 Hw
    obtain ⟨k, hk, rfl, b, hN⟩ := hrel
    by_cases hkn : k < n
    · have q1 : (k : Int) < (n : Int) := by omega
      have c0 : wr.drew.cell? ⟨w.heap.size + 1, 0, none⟩ = some (sl0 w.heap.size n) := cell_at hN.box rfl
      have HS0 : Hid (wr.drew.cell? ⟨w.heap.size + 1, 0, none⟩ = some (sl0 w.heap.size n)) := c0
      have HD : Hid (∀ w5 : World, wr.drew.grownBy w5 none → Calls Tryd.prog 26 #[num m] w5 fun e w' => e = .returned (sl0 w5.heap.size m) ∧ w5.grownBy w' none ∧ w'.cell? ⟨w.heap.size + 1, 0, none⟩ = some (sl0 w.heap.size n) ∧ (∃ v, w'.cell? ⟨w.heap.size, k, none⟩ = some v) ∧ w'.frozen? ⟨w.heap.size, k, none⟩ = false ∧ NewI w (w'.setCell ⟨w.heap.size, k, none⟩ (sl0 w5.heap.size m)) n m (k + 1) (fun i => if i = k then w5.heap.size else b i)) := fun w5 hg5 => by
        refine (newDie_ok m h4 w5).mono ?_
        rintro e w6 ⟨rfl, hD6, hg6⟩
        have hgd : wr.grownBy w6 none := grownBy_trans (grownBy_trans (grownBy_drew (grownBy_refl wr none)) hg5) hg6
        have o6 := hN.od.of_heap (hgd.block _ hN.od.lt (by simp))
        exact ⟨rfl, hg6, (cell_of_block (hgd.block _ (lt_of_heap hN.box) (by simp))).trans c0, (o6.at hkn).1, o6.free k, hN.next hkn hgd (by have := hg5.size; exact this) hD6⟩
      have HNe : Hid (w.heap.size + 1 ≠ w.heap.size) := by unfold Hid; omega
      clear hN c0
      go_wp2_with fail
      go_region_held3 (fun w' => w'.cell? ⟨w.heap.size + 1, 0, none⟩ = some (sl0 w.heap.size n)) (first | assumption | exact HS0.out | exact cell_else ‹_› HNe.out)
        (first | (go_at_call 26; refine (HD.out _ (by first | assumption | exact grownBy_refl _ _)).mono ?_; rintro e w6 ⟨rfl, hg6, hc6, ⟨v1, y1⟩, y2, hN6⟩))
      all_goals
        have HN6 : Hid _ := hN6
        clear hN6 HD HS0 y1 y2 hg6 hc6
        go_wp2
        go_roundw
        case rel => exact ⟨k + 1, by omega, by go_num, _, HN6.out⟩
        case measure => simp [intOf]; omega
    · obtain rfl : k = n := by omega
      have q1 : ¬ (k : Int) < (k : Int) := by omega
      have HP : Hid _ := hN.done h1 h2 h3 h4
      clear hN
      go_wp2
      go_ret2
      exact HP.out
end Bk
end Go.Proofs.YtoakokpeomlkjaaDoor
