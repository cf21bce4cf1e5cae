/- Layer 7 (blocks): New's refusals; the document's pool as it lies; its In and its Turn. -/
import Derived.Test.YtoakokpeomlkjaaDoorBw
namespace Go.Proofs.YtoakokpeomlkjaaDoor
open Go.RowKit Go.Maps
namespace Bk
set_option maxHeartbeats 800000 in
theorem New_no (n m : Int) (h : ¬ InNew n m) (w : World) : Calls Tryd.prog 7 #[num n, num m] w fun e w' => e = .returned (.tuple #[.pointer none, num 1]) ∧ w' = w := by
  have HH := hide h
  clear h
  by_cases q1 : n < 1
  · go_enter Tryd.func7, Tryd.ntmps7
    go_wp2
    go_ret2
    exact ⟨rfl, rfl⟩
  · by_cases q2 : 8 < n
    · go_enter Tryd.func7, Tryd.ntmps7
      go_wp2
      go_ret2
      exact ⟨rfl, rfl⟩
    · by_cases q3 : m < 1
      · go_enter Tryd.func7, Tryd.ntmps7
        go_wp2
        go_ret2
        exact ⟨rfl, rfl⟩
      · have q4 : 64 < m := by have := HH.out; unfold InNew at this; omega
        go_enter Tryd.func7, Tryd.ntmps7
        go_wp2
        go_ret2
        exact ⟨rfl, rfl⟩
/-- Where the document's pool lies. -/
structure Ref where
  r : Nat
  sb : Nat
  eb : Nat
  n : Nat
  m : Nat
  l : Nat
  sc : Nat
  ec : Nat
def Ref.K (R : Ref) : Nat → Prop := fun g => g = R.sb ∨ g = R.eb
structure RefM (w : World) (R : Ref) (f : Pool) : Prop where
  n8 : R.n ≤ 8
  m64 : R.m ≤ 64
  len : R.l = R.n * R.m
  box : w.heap[R.r]? = some (.cells #[num R.n, num R.m, .slice (some ⟨R.sb, 0, none⟩) R.l R.sc, .slice (some ⟨R.eb, 0, none⟩) R.l R.ec] 36)
  os : OwnR w R.sb R.sc 3
  oe : OwnR w R.eb R.ec 3
  cs : R.l ≤ R.sc
  ce : R.l ≤ R.ec
  st : ∀ i k, i < R.n → k < R.m → w.cell? ⟨R.sb, i * R.m + k, none⟩ = some (num (f i k).st)
  er : ∀ i k, i < R.n → k < R.m → w.cell? ⟨R.eb, i * R.m + k, none⟩ = some (num (f i k).er)
  rs : R.r ≠ R.sb
  re : R.r ≠ R.eb
  se : R.sb ≠ R.eb
theorem RefM.stp {K : Nat → Prop} {w w' : World} {R : Ref} {f : Pool} (h : RefM w R f) (s : Stp K w w') (k1 : ¬ K R.r) (k2 : ¬ K R.sb) (k3 : ¬ K R.eb) : RefM w' R f :=
  ⟨h.n8, h.m64, h.len, s.obj k1 h.box, h.os.of_heap (s.same _ h.os.lt k2), h.oe.of_heap (s.same _ h.oe.lt k3), h.cs, h.ce, fun i k hi hk => s.cell k2 (h.st i k hi hk), fun i k hi hk => s.cell k3 (h.er i k hi hk), h.rs, h.re, h.se⟩
theorem RefM.grown {w w' : World} {R : Ref} {f : Pool} (h : RefM w R f) (s : w.grownBy w' none) : RefM w' R f := h.stp (K := No) (.of_grown s) (fun k => k) (fun k => k) fun k => k
theorem flat_lt {n m i k : Nat} (hi : i < n) (hk : k < m) : i * m + k < n * m := by
  have : (i + 1) * m ≤ n * m := Nat.mul_le_mul_right m hi
  rw [Nat.add_mul] at this
  omega
theorem flat_ne {m i k a c : Nat} (hk : k < m) (hc : c < m) (h : ¬ (a = i ∧ c = k)) : a * m + c ≠ i * m + k := by
  intro e
  have e1 : (a * m + c) % m = (i * m + k) % m := by rw [e]
  rw [Nat.add_comm, Nat.add_mul_mod_self_right, Nat.add_comm, Nat.add_mul_mod_self_right, Nat.mod_eq_of_lt hc, Nat.mod_eq_of_lt hk] at e1
  subst e1
  have e2 : a * m = i * m := by omega
  exact h ⟨Nat.eq_of_mul_eq_mul_right (by omega) e2, rfl⟩
theorem RefM.setSt {w : World} {R : Ref} {f : Pool} (h : RefM w R f) {i k : Nat} (hi : i < R.n) (hk : k < R.m) (s : Int) : RefM (w.setCell ⟨R.sb, i * R.m + k, none⟩ (num s)) R (upd f i k ⟨s, (f i k).er⟩) := by
  have el : ∀ g, g ≠ R.sb → (w.setCell ⟨R.sb, i * R.m + k, none⟩ (num s)).heap[g]? = w.heap[g]? := fun g hg => setCell_else hg _
  have hj := flat_lt hi hk
  rw [← h.len] at hj
  have hc := h.cs
  refine ⟨h.n8, h.m64, h.len, (el _ h.rs).trans h.box, h.os.set _ _, h.oe.of_heap (el _ h.se.symm), h.cs, h.ce, fun a c ha hc => ?_, fun a c ha hc => ?_, h.rs, h.re, h.se⟩
  · by_cases e : a = i ∧ c = k
    · obtain ⟨rfl, rfl⟩ := e
      rw [upd_same]; exact h.os.same (by omega) _
    · rw [upd_other _ e]; exact cell_off (h.st a c ha hc) (flat_ne hk hc e)
  · refine (cell_of_block (el _ h.se.symm)).trans ((h.er a c ha hc).trans ?_)
    unfold upd
    split
    · rename_i e; rw [e.1, e.2]
    · rfl
theorem RefM.setEr {w : World} {R : Ref} {f : Pool} (h : RefM w R f) {i k : Nat} (hi : i < R.n) (hk : k < R.m) (s : Nat) : RefM (w.setCell ⟨R.eb, i * R.m + k, none⟩ (num s)) R (upd f i k ⟨(f i k).st, s⟩) := by
  have el : ∀ g, g ≠ R.eb → (w.setCell ⟨R.eb, i * R.m + k, none⟩ (num s)).heap[g]? = w.heap[g]? := fun g hg => setCell_else hg _
  have hj := flat_lt hi hk
  rw [← h.len] at hj
  have hc := h.ce
  refine ⟨h.n8, h.m64, h.len, (el _ h.re).trans h.box, h.os.of_heap (el _ h.se), h.oe.set _ _, h.cs, h.ce, fun a c ha hc => ?_, fun a c ha hc => ?_, h.rs, h.re, h.se⟩
  · refine (cell_of_block (el _ h.se)).trans ((h.st a c ha hc).trans ?_)
    unfold upd
    split
    · rename_i e; rw [e.1, e.2]
    · rfl
  · by_cases e : a = i ∧ c = k
    · obtain ⟨rfl, rfl⟩ := e
      rw [upd_same]; exact h.oe.same (by omega) _
    · rw [upd_other _ e]; exact cell_off (h.er a c ha hc) (flat_ne hk hc e)
def InRef (R : Ref) (d b : Int) : Prop := 0 ≤ d ∧ d < R.n ∧ 0 ≤ b ∧ b < R.m
set_option maxHeartbeats 800000 in
theorem kIn_in {w : World} {R : Ref} {f : Pool} (h : RefM w R f) {i k : Nat} (hi : i < R.n) (hk : k < R.m) : Calls Tryd.prog 29 #[ptr R.r 0, num i, num k] w fun e w' => e = .returned (.bool true) ∧ w' = w := by
  have c0 : w.cell? ⟨R.r, 0, none⟩ = some (num R.n) := cell_at h.box rfl
  have c1 : w.cell? ⟨R.r, 1, none⟩ = some (num R.m) := cell_at h.box rfl
  have q1 : (i : Int) < (R.n : Int) := by omega
  have q2 : (k : Int) < (R.m : Int) := by omega
  clear h
  go_enter Tryd.func29, Tryd.ntmps29
  go_wp2
  go_ret
  exact ⟨rfl, rfl⟩
set_option maxHeartbeats 800000 in
theorem kIn_out {w : World} {R : Ref} {f : Pool} (h : RefM w R f) {d b : Int} (hd : ¬ InRef R d b) : Calls Tryd.prog 29 #[ptr R.r 0, num d, num b] w fun e w' => e = .returned (.bool false) ∧ w' = w := by
  have c0 : w.cell? ⟨R.r, 0, none⟩ = some (num R.n) := cell_at h.box rfl
  have c1 : w.cell? ⟨R.r, 1, none⟩ = some (num R.m) := cell_at h.box rfl
  have hq : (¬ 0 ≤ d) ∨ (0 ≤ d ∧ ¬ d < R.n) ∨ (0 ≤ d ∧ d < R.n ∧ ¬ 0 ≤ b) ∨ (0 ≤ d ∧ d < R.n ∧ 0 ≤ b ∧ ¬ b < R.m) := by unfold InRef at hd; omega
  clear h hd
  rcases hq with q1 | ⟨q1, q2⟩ | ⟨q1, q2, q3⟩ | ⟨q1, q2, q3, q4⟩
  all_goals
    go_enter Tryd.func29, Tryd.ntmps29
    go_wp2
    go_ret
    exact ⟨rfl, rfl⟩
set_option maxHeartbeats 800000 in
theorem kTurn_out {w : World} {R : Ref} {f : Pool} (h : RefM w R f) (c : Int) {d b : Int} (hd : ¬ InRef R d b) : Calls Tryd.prog 13 #[ptr R.r 0, num c, num d, num b] w fun e w' => e = .returned (num 1) ∧ w' = w := by
  have HI := hide (kIn_out h hd)
  clear h hd
  go_enter Tryd.func13, Tryd.ntmps13
  go_wp2_with fail
  refine HI.out.mono ?_
  rintro e w' ⟨rfl, rfl⟩
  go_wp2
  go_ret
  exact ⟨rfl, rfl⟩
/-- What the turn that counts an erase answers. -/
def RErased (w : World) (R : Ref) (f : Pool) (i k : Nat) (e : Ending) (w' : World) : Prop :=
  ((f i k).st = 4 ∧ e = .returned (num 71) ∧ w' = w) ∨ (¬ (f i k).st = 4 ∧ (f i k).er < 4294967295 ∧ e = .returned (num 0) ∧ RefM w' R (upd f i k ⟨(f i k).st, (f i k).er + 1⟩) ∧ Stp R.K w w') ∨ (¬ (f i k).st = 4 ∧ ¬ (f i k).er < 4294967295 ∧ e = .returned (num 0) ∧ w' = w)
/-- What a turn answers, and the block behind it. -/
def RTurn (w : World) (R : Ref) (f : Pool) (i k : Nat) (L : Int → Prop) (to : Int) (e : Ending) (w' : World) : Prop :=
  (L (f i k).st ∧ e = .returned (num 0) ∧ RefM w' R (upd f i k ⟨to, (f i k).er⟩) ∧ Stp R.K w w') ∨ (¬ L (f i k).st ∧ e = .returned (num 71) ∧ w' = w)
theorem RefM.flat {w : World} {R : Ref} {f : Pool} (h : RefM w R f) {i k : Nat} (hi : i < R.n) (hk : k < R.m) : ∃ z j : Nat, (i : Int) * (R.m : Int) = (z : Int) ∧ (z : Int) + (k : Int) = (j : Int) ∧ j = i * R.m + k ∧ (j : Int) < (R.l : Int) ∧ (z : Int) ≤ 512 ∧ (j : Int) ≤ 512 := by
  have hj := flat_lt hi hk
  have h1 := h.len
  have h2 : R.n * R.m ≤ 8 * 64 := Nat.mul_le_mul h.n8 h.m64
  exact ⟨i * R.m, i * R.m + k, by push_cast; rfl, by push_cast; rfl, rfl, by omega, by omega, by omega⟩
set_option maxHeartbeats 1600000 in
set_option maxRecDepth 8000 in
theorem kTurnClose {w : World} {R : Ref} {f : Pool} (h : RefM w R f) {i k : Nat} (hi : i < R.n) (hk : k < R.m) : Calls Tryd.prog 13 #[ptr R.r 0, num 1, num i, num k] w (RTurn w R f i k (fun s => s = 2) 3) := by
  have HI := hide (kIn_in h hi hk)
  obtain ⟨z, j, hz, hj, ej, q1, q2, q3⟩ := h.flat hi hk
  have c1 : w.cell? ⟨R.r, 1, none⟩ = some (num R.m) := cell_at h.box rfl
  have c2 : w.cell? ⟨R.r, 2, none⟩ = some (.slice (some ⟨R.sb, 0, none⟩) R.l R.sc) := cell_at h.box rfl
  have c3 : w.cell? ⟨R.sb, j, none⟩ = some (num (f i k).st) := by rw [ej]; exact h.st i k hi hk
  have hf : w.frozen? ⟨R.sb, j, none⟩ = false := h.os.free _
  have HY := hide (h.setSt hi hk 3)
  rw [← ej] at HY
  have HZ : Hid (Stp R.K w (w.setCell ⟨R.sb, j, none⟩ (num 3))) := (Stp.refl _ _).set (.inl (.inl rfl)) _
  obtain ⟨s, hs⟩ : ∃ s, (f i k).st = s := ⟨_, rfl⟩
  rw [hs] at c3
  have HS := hide hs
  clear h hi hk ej hs
  have hq : s = 2 ∨ ¬ s = 2 := by omega
  rcases hq with q | q
  · subst q
    go_enter Tryd.func13, Tryd.ntmps13
    go_wp2_with fail
    refine HI.out.mono ?_
    rintro e w' ⟨rfl, rfl⟩
    go_wp2
    go_ret
    exact .inl ⟨by simp [HS.out], rfl, HY.out, HZ.out⟩
  · go_enter Tryd.func13, Tryd.ntmps13
    go_wp2_with fail
    refine HI.out.mono ?_
    rintro e w' ⟨rfl, rfl⟩
    go_wp2
    go_ret
    exact .inr ⟨by simp only [HS.out]; omega, rfl, rfl⟩
set_option maxHeartbeats 1600000 in
set_option maxRecDepth 8000 in
theorem kTurnFree {w : World} {R : Ref} {f : Pool} (h : RefM w R f) {i k : Nat} (hi : i < R.n) (hk : k < R.m) : Calls Tryd.prog 13 #[ptr R.r 0, num 2, num i, num k] w (RTurn w R f i k (fun s => s = 2 ∨ s = 3) 1) := by
  have HI := hide (kIn_in h hi hk)
  obtain ⟨z, j, hz, hj, ej, q1, q2, q3⟩ := h.flat hi hk
  have c1 : w.cell? ⟨R.r, 1, none⟩ = some (num R.m) := cell_at h.box rfl
  have c2 : w.cell? ⟨R.r, 2, none⟩ = some (.slice (some ⟨R.sb, 0, none⟩) R.l R.sc) := cell_at h.box rfl
  have c3 : w.cell? ⟨R.sb, j, none⟩ = some (num (f i k).st) := by rw [ej]; exact h.st i k hi hk
  have hf : w.frozen? ⟨R.sb, j, none⟩ = false := h.os.free _
  have HY := hide (h.setSt hi hk 1)
  rw [← ej] at HY
  have HZ : Hid (Stp R.K w (w.setCell ⟨R.sb, j, none⟩ (num 1))) := (Stp.refl _ _).set (.inl (.inl rfl)) _
  obtain ⟨s, hs⟩ : ∃ s, (f i k).st = s := ⟨_, rfl⟩
  rw [hs] at c3
  have HS := hide hs
  clear h hi hk ej hs
  have hq : s = 2 ∨ s = 3 ∨ ¬ s = 2 ∧ ¬ s = 3 := by omega
  rcases hq with q | q | q
  · subst q
    go_enter Tryd.func13, Tryd.ntmps13
    go_wp2_with fail
    refine HI.out.mono ?_
    rintro e w' ⟨rfl, rfl⟩
    go_wp2
    go_ret
    exact .inl ⟨by simp [HS.out], rfl, HY.out, HZ.out⟩
  · subst q
    go_enter Tryd.func13, Tryd.ntmps13
    go_wp2_with fail
    refine HI.out.mono ?_
    rintro e w' ⟨rfl, rfl⟩
    go_wp2
    go_ret
    exact .inl ⟨by simp [HS.out], rfl, HY.out, HZ.out⟩
  · obtain ⟨q, q'⟩ := q
    have p1 : (s != 2) = true := by simpa using q
    have p2 : (s != 3) = true := by simpa using q'
    go_enter Tryd.func13, Tryd.ntmps13
    go_wp2_with fail
    refine HI.out.mono ?_
    rintro e w' ⟨rfl, rfl⟩
    go_wp2
    go_ret
    exact .inr ⟨by simp only [HS.out]; omega, rfl, rfl⟩
set_option maxHeartbeats 1600000 in
set_option maxRecDepth 8000 in
theorem kTurnBad {w : World} {R : Ref} {f : Pool} (h : RefM w R f) {i k : Nat} (hi : i < R.n) (hk : k < R.m) : Calls Tryd.prog 13 #[ptr R.r 0, num 3, num i, num k] w (RTurn w R f i k (fun _ => True) 4) := by
  have HI := hide (kIn_in h hi hk)
  obtain ⟨z, j, hz, hj, ej, q1, q2, q3⟩ := h.flat hi hk
  have c1 : w.cell? ⟨R.r, 1, none⟩ = some (num R.m) := cell_at h.box rfl
  have c2 : w.cell? ⟨R.r, 2, none⟩ = some (.slice (some ⟨R.sb, 0, none⟩) R.l R.sc) := cell_at h.box rfl
  have c3 : w.cell? ⟨R.sb, j, none⟩ = some (num (f i k).st) := by rw [ej]; exact h.st i k hi hk
  have hf : w.frozen? ⟨R.sb, j, none⟩ = false := h.os.free _
  have HY := hide (h.setSt hi hk 4)
  rw [← ej] at HY
  have HZ : Hid (Stp R.K w (w.setCell ⟨R.sb, j, none⟩ (num 4))) := (Stp.refl _ _).set (.inl (.inl rfl)) _
  obtain ⟨s, hs⟩ : ∃ s, (f i k).st = s := ⟨_, rfl⟩
  rw [hs] at c3
  have HS := hide hs
  clear h hi hk ej hs
  go_enter Tryd.func13, Tryd.ntmps13
  go_wp2_with fail
  refine HI.out.mono ?_
  rintro e w' ⟨rfl, rfl⟩
  go_wp2
  go_ret
  exact .inl ⟨by exact trivial, rfl, HY.out, HZ.out⟩
set_option maxHeartbeats 1600000 in
set_option maxRecDepth 8000 in
theorem kTurnHold {w : World} {R : Ref} {f : Pool} (h : RefM w R f) {i k : Nat} (hi : i < R.n) (hk : k < R.m) : Calls Tryd.prog 13 #[ptr R.r 0, num 5, num i, num k] w (RTurn w R f i k (fun s => s = 1) 2) := by
  have HI := hide (kIn_in h hi hk)
  obtain ⟨z, j, hz, hj, ej, q1, q2, q3⟩ := h.flat hi hk
  have c1 : w.cell? ⟨R.r, 1, none⟩ = some (num R.m) := cell_at h.box rfl
  have c2 : w.cell? ⟨R.r, 2, none⟩ = some (.slice (some ⟨R.sb, 0, none⟩) R.l R.sc) := cell_at h.box rfl
  have c3 : w.cell? ⟨R.sb, j, none⟩ = some (num (f i k).st) := by rw [ej]; exact h.st i k hi hk
  have hf : w.frozen? ⟨R.sb, j, none⟩ = false := h.os.free _
  have HY := hide (h.setSt hi hk 2)
  rw [← ej] at HY
  have HZ : Hid (Stp R.K w (w.setCell ⟨R.sb, j, none⟩ (num 2))) := (Stp.refl _ _).set (.inl (.inl rfl)) _
  obtain ⟨s, hs⟩ : ∃ s, (f i k).st = s := ⟨_, rfl⟩
  rw [hs] at c3
  have HS := hide hs
  clear h hi hk ej hs
  have hq : s = 1 ∨ ¬ s = 1 := by omega
  rcases hq with q | q
  · subst q
    go_enter Tryd.func13, Tryd.ntmps13
    go_wp2_with fail
    refine HI.out.mono ?_
    rintro e w' ⟨rfl, rfl⟩
    go_wp2
    go_ret
    exact .inl ⟨by simp [HS.out], rfl, HY.out, HZ.out⟩
  · go_enter Tryd.func13, Tryd.ntmps13
    go_wp2_with fail
    refine HI.out.mono ?_
    rintro e w' ⟨rfl, rfl⟩
    go_wp2
    go_ret
    exact .inr ⟨by simp only [HS.out]; omega, rfl, rfl⟩
set_option maxHeartbeats 1600000 in
set_option maxRecDepth 8000 in
theorem kTurnErased {w : World} {R : Ref} {f : Pool} (h : RefM w R f) {i k : Nat} (hi : i < R.n) (hk : k < R.m) (he : (f i k).er < 4294967296) : Calls Tryd.prog 13 #[ptr R.r 0, num 4, num i, num k] w (RErased w R f i k) := by
  have HI := hide (kIn_in h hi hk)
  obtain ⟨z, j, hz, hj, ej, q1, q2, q3⟩ := h.flat hi hk
  have c1 : w.cell? ⟨R.r, 1, none⟩ = some (num R.m) := cell_at h.box rfl
  have c2 : w.cell? ⟨R.r, 2, none⟩ = some (.slice (some ⟨R.sb, 0, none⟩) R.l R.sc) := cell_at h.box rfl
  have d2 : w.cell? ⟨R.r, 3, none⟩ = some (.slice (some ⟨R.eb, 0, none⟩) R.l R.ec) := cell_at h.box rfl
  have c3 : w.cell? ⟨R.sb, j, none⟩ = some (num (f i k).st) := by rw [ej]; exact h.st i k hi hk
  have d3 : w.cell? ⟨R.eb, j, none⟩ = some (num (f i k).er) := by rw [ej]; exact h.er i k hi hk
  have hf : w.frozen? ⟨R.eb, j, none⟩ = false := h.oe.free _
  have HY := hide (h.setEr hi hk ((f i k).er + 1))
  rw [← ej] at HY
  have HZ : Hid (Stp R.K w (w.setCell ⟨R.eb, j, none⟩ (num ((f i k).er + 1 : Nat)))) := (Stp.refl _ _).set (.inl (.inr rfl)) _
  have HM := hide h
  obtain ⟨s, hs⟩ : ∃ s, (f i k).st = s := ⟨_, rfl⟩
  obtain ⟨r, hr⟩ : ∃ r, (f i k).er = r := ⟨_, rfl⟩
  rw [hs] at c3
  rw [hr] at d3 HY HZ he
  have HS := hide hs
  have HR := hide hr
  clear h hi hk ej hs hr
  have hq : s = 4 ∨ (¬ s = 4 ∧ r < 4294967295) ∨ (¬ s = 4 ∧ ¬ r < 4294967295) := by omega
  rcases hq with q | ⟨q, p⟩ | ⟨q, p⟩
  · subst q
    clear he
    go_enter Tryd.func13, Tryd.ntmps13
    go_wp2_with fail
    refine HI.out.mono ?_
    rintro e w' ⟨rfl, rfl⟩
    go_wp2
    go_ret
    exact .inl ⟨HS.out, rfl, rfl⟩
  · have p1 : (r : Int) < 4294967295 := by omega
    have HP := hide p
    clear p he
    have p2 : ((r + 1 : Nat) : Int) = (r : Int) + 1 := by omega
    rw [p2] at HY HZ
    clear p2
    obtain ⟨x, hx⟩ : ∃ x : Int, (r : Int) = x := ⟨_, rfl⟩
    rw [hx] at d3 HY HZ p1
    have p0 : 0 ≤ x := by omega
    have HX := hide hx
    clear hx
    go_enter Tryd.func13, Tryd.ntmps13
    go_wp2_with fail
    refine HI.out.mono ?_
    rintro e w' ⟨rfl, rfl⟩
    go_wp2
    go_ret
    exact .inr (.inl ⟨by rw [HS.out]; exact q, by rw [HR.out]; exact HP.out, rfl, by rw [HR.out]; exact HY.out, HZ.out⟩)
  · have p1 : (r : Int) = 4294967295 := by omega
    have HP := hide p
    clear p he
    go_enter Tryd.func13, Tryd.ntmps13
    go_wp2_with fail
    refine HI.out.mono ?_
    rintro e w' ⟨rfl, rfl⟩
    go_wp2
    go_ret
    exact .inr (.inr ⟨by rw [HS.out]; exact q, by rw [HR.out]; exact HP.out, rfl, rfl⟩)
end Bk
end Go.Proofs.YtoakokpeomlkjaaDoor
