/- Layer 7 (blocks): die, find, Contains, move and what calls it, Erased, State. -/
import Derived.Test.YtoakokpeomlkjaaDoorBd
namespace Go.Proofs.YtoakokpeomlkjaaDoor
open Go.RowKit Go.Maps
namespace Bk
abbrev nilS : Value := .slice none 0 0
set_option maxHeartbeats 800000 in
theorem die_in {w : World} {P : Lay} {f : Pool} (h : PoolM w P f) {i : Nat} (hi : i < P.n) : Calls Tryd.prog 27 #[ptr P.p 0, num i] w fun e w' => e = .returned (sl0 (P.b i) P.m) ∧ w' = w := by
  have c0 := h.boxCell
  have c1 := h.die i hi
  have q1 : (i : Int) < (P.n : Int) := by omega
  have q2 : ¬ (P.n : Int) ≤ (i : Int) := by omega
  have q3 := h.n8
  have q4 : (P.n : Int) ≤ 8 := by omega
  clear h
  go_enter Tryd.func27, Tryd.ntmps27
  go_wp2
  go_ret
  exact ⟨rfl, rfl⟩
def InDie (P : Lay) (d : Int) : Prop := 0 ≤ d ∧ d < P.n
set_option maxHeartbeats 800000 in
theorem die_out {w : World} {P : Lay} {f : Pool} (h : PoolM w P f) {d : Int} (hd : ¬ InDie P d) : Calls Tryd.prog 27 #[ptr P.p 0, num d] w fun e w' => e = .returned nilS ∧ w' = w := by
  have c0 := h.boxCell
  have HD := hide hd
  have q3 := h.n8
  have q4 : (P.n : Int) ≤ 8 := by omega
  clear h hd
  by_cases q1 : d < 0
  · go_enter Tryd.func27, Tryd.ntmps27
    go_wp2
    go_ret
    exact ⟨rfl, rfl⟩
  · have q2 : (P.n : Int) ≤ d := by have := HD.out; unfold InDie at this; omega
    go_enter Tryd.func27, Tryd.ntmps27
    go_wp2
    go_ret
    exact ⟨rfl, rfl⟩
def InPool (P : Lay) (d b : Int) : Prop := 0 ≤ d ∧ d < P.n ∧ 0 ≤ b ∧ b < P.m
set_option maxHeartbeats 800000 in
theorem find_in {w : World} {P : Lay} {f : Pool} (h : PoolM w P f) {i k : Nat} (hi : i < P.n) (hk : k < P.m) : Calls Tryd.prog 31 #[ptr P.p 0, num i, num k] w fun e w' => e = .returned (ptr (P.b i) (k * 2)) ∧ w' = w := by
  have HD := hide (die_in h hi)
  have q2 : ¬ (P.m : Int) ≤ (k : Int) := by omega
  have q3 : (k : Int) < (P.m : Int) := by omega
  have q5 := h.m64
  have q4 : (P.m : Int) ≤ 64 := by omega
  clear h
  go_enter Tryd.func31, Tryd.ntmps31
  go_wp2_with fail
  refine HD.out.mono ?_
  rintro e w' ⟨rfl, rfl⟩
  go_wp2
  go_ret
  exact ⟨rfl, rfl⟩
set_option maxHeartbeats 800000 in
theorem find_out {w : World} {P : Lay} {f : Pool} (h : PoolM w P f) {d b : Int} (hd : ¬ InPool P d b) : Calls Tryd.prog 31 #[ptr P.p 0, num d, num b] w fun e w' => e = .returned (.pointer none) ∧ w' = w := by
  by_cases hi : InDie P d
  · obtain ⟨i, rfl⟩ : ∃ i : Nat, d = i := ⟨d.toNat, by have := hi.1; omega⟩
    have hi' : i < P.n := by have := hi.2; omega
    have HD := hide (die_in h hi')
    have HO : Hid (¬ (0 ≤ b ∧ b < P.m)) := fun x => hd ⟨hi.1, hi.2, x.1, x.2⟩
    have q5 := h.m64
    have q4 : (P.m : Int) ≤ 64 := by omega
    clear h hd hi
    by_cases q1 : b < 0
    · go_enter Tryd.func31, Tryd.ntmps31
      go_wp2_with fail
      refine HD.out.mono ?_
      rintro e w' ⟨rfl, rfl⟩
      go_wp2
      go_ret
      exact ⟨rfl, rfl⟩
    · have q2 : (P.m : Int) ≤ b := by have := HO.out; omega
      go_enter Tryd.func31, Tryd.ntmps31
      go_wp2_with fail
      refine HD.out.mono ?_
      rintro e w' ⟨rfl, rfl⟩
      go_wp2
      go_ret
      exact ⟨rfl, rfl⟩
  · have HD := hide (die_out h hi)
    clear h hd hi
    by_cases q1 : b < 0
    · go_enter Tryd.func31, Tryd.ntmps31
      go_wp2_with fail
      refine HD.out.mono ?_
      rintro e w' ⟨rfl, rfl⟩
      go_wp2
      go_ret
      exact ⟨rfl, rfl⟩
    · have q2 : 0 ≤ b := by omega
      go_enter Tryd.func31, Tryd.ntmps31
      go_wp2_with fail
      refine HD.out.mono ?_
      rintro e w' ⟨rfl, rfl⟩
      go_wp2
      go_ret
      exact ⟨rfl, rfl⟩
abbrev intsO (L : List Int) : Obj := .cells (L.map num).toArray 3
theorem ints_at {w : World} {g : Nat} {L : List Int} (h : w.heap[g]? = some (intsO L)) {j : Nat} (hj : j < L.length) : w.cell? ⟨g, j, none⟩ = some (num (L[j]?.getD 0)) := cell_at h (by simp [hj])
set_option maxHeartbeats 1600000 in
theorem Index_ok {w : World} {g : Nat} {L : List Int} (h : w.heap[g]? = some (intsO L)) (hl : L.length ≤ 64) (x : Int) : Calls Tryd.prog 47 #[sl0 g L.length, num x] w fun e w' => (∃ r : Int, e = .returned (num r) ∧ (0 ≤ r ↔ x ∈ L)) ∧ w' = w := by
  have HA : Hid (∀ j, j < L.length → w.cell? ⟨g, j, none⟩ = some (num (L[j]?.getD 0))) := fun j => ints_at h
  have HM : Hid (∀ j, j < L.length → x = L[j]?.getD 0 → x ∈ L) := fun j hj e => by rw [e, List.getElem?_eq_getElem hj]; simp
  have HN : Hid ((∀ j, j < L.length → ¬ x = L[j]?.getD 0) → x ∉ L) := fun hn hx => by
    obtain ⟨j, hj, e⟩ := List.getElem_of_mem hx
    exact hn j hj (by rw [List.getElem?_eq_getElem hj]; simp [e])
  generalize hn : L.length = n at *
  have q4 : (n : Int) ≤ 64 := by omega
  clear h hn
  go_enter Tryd.func47, Tryd.ntmps47
  go_wp2
  go_loopw [8] (fun i wr => wr = w ∧ ∃ k : Nat, k ≤ n ∧ i = num k ∧ ∀ j, j < k → ¬ x = L[j]?.getD 0) (fun i _ => n - (intOf i).toNat)
  case atStart => exact ⟨rfl, 0, Nat.zero_le _, rfl, fun j hj => by omega⟩
  case round =>
    obtain ⟨rfl, k, hk, rfl, hall⟩ := hrel
    by_cases hkn : k < n
    · have q1 : (k : Int) < (n : Int) := by omega
      have c0 := HA.out k hkn
      have HX : Hid _ := hall
      have HT : Hid (x = L[k]?.getD 0 → x ∈ L) := HM.out k hkn
      have HF : Hid (¬ x = L[k]?.getD 0 → ∀ j, j < k + 1 → ¬ x = L[j]?.getD 0) := fun hx j hj => by
        by_cases e : j = k
        · rw [e]; exact hx
        · exact hall j (by omega)
      clear hall
      generalize L[k]?.getD 0 = y at c0 HT HF
      by_cases e : x = y
      · have HI : Hid (x ∈ L) := HT.out e
        have e1 : (x == y) = true := by simpa using e
        clear e HT HF
        go_wp2
        go_ret
        exact ⟨⟨k, rfl, fun _ => HI.out, fun _ => by omega⟩, rfl⟩
      · have HI : Hid _ := HF.out e
        have e1 : (x == y) = false := by simpa using e
        clear e HT HF
        go_wp2
        go_roundw
        case rel => exact ⟨trivial, k + 1, by omega, by go_num, HI.out⟩
        case measure => simp [intOf]; omega
    · obtain rfl : k = n := by omega
      have q1 : ¬ (k : Int) < (k : Int) := by omega
      have HI : Hid _ := HN.out hall
      clear hall
      go_wp2
      go_ret
      exact ⟨⟨-1, rfl, fun x => by omega, fun x => absurd x HI.out⟩, rfl⟩
set_option maxHeartbeats 800000 in
theorem Contains_ok {w : World} {g : Nat} {L : List Int} (h : w.heap[g]? = some (intsO L)) (hl : L.length ≤ 64) (x : Int) : Calls Tryd.prog 43 #[sl0 g L.length, num x] w fun e w' => e = .returned (.bool (decide (x ∈ L))) ∧ w' = w := by
  have HI := hide (Index_ok h hl x)
  clear h
  go_enter Tryd.func43, Tryd.ntmps43
  go_wp2_with fail
  refine HI.out.mono ?_
  rintro e w' ⟨⟨r, rfl, hr⟩, rfl⟩
  have HR : Hid _ := hr
  clear hr
  go_wp2
  go_ret
  exact ⟨ret_bool (by have := HR.out; simp [this]), rfl⟩
/-- What comes of a block that is to go from one of some states to another. -/
def MovePost (w : World) (P : Lay) (f : Pool) (i k : Nat) (L : List Int) (to : Int) (e : Ending) (w' : World) : Prop :=
  ((f i k).st ∈ L ∧ e = .returned (num 0) ∧ PoolM w' P (upd f i k ⟨to, (f i k).er⟩) ∨ (f i k).st ∉ L ∧ e = .returned (num 71) ∧ PoolM w' P f) ∧ Stp P.K w w'
set_option maxHeartbeats 1600000 in
theorem move_in {w : World} {P : Lay} {f : Pool} (h : PoolM w P f) {i k : Nat} (hi : i < P.n) (hk : k < P.m) {g : Nat} {L : List Int} (hL : w.heap[g]? = some (intsO L)) (hl : L.length ≤ 64) (to : Int) (t1 : 1 ≤ to) (t4 : to ≤ 4) :
    Calls Tryd.prog 30 #[ptr P.p 0, num i, num k, num to, sl0 g L.length] w (MovePost w P f i k L to) := by
  have HF := hide (find_in h hi hk)
  have HC := hide (Contains_ok hL hl (f i k).st)
  have c0 := h.st i k hi hk
  have hf := (h.ob i hi).free (k * 2)
  have HP : Hid _ := h
  have HS : Hid _ := h.setSt hi hk to t1 t4
  clear h hL
  by_cases hm : (f i k).st ∈ L
  · have HM : Hid _ := hm
    have e1 : decide ((f i k).st ∈ L) = true := by simpa using hm
    rw [e1] at HC
    clear hm e1
    go_enter Tryd.func30, Tryd.ntmps30
    go_wp2_with (first | (go_at_call 31; refine HF.out.mono ?_; rintro e w' ⟨rfl, rfl⟩) | (go_at_call 43; refine HC.out.mono ?_; rintro e w' ⟨rfl, rfl⟩))
    go_ret
    exact ⟨.inl ⟨HM.out, rfl, HS.out⟩, (Stp.refl _ _).set (.inl ⟨i, hi, rfl⟩) _⟩
  · have HM : Hid _ := hm
    have e1 : decide ((f i k).st ∈ L) = false := by simpa using hm
    rw [e1] at HC
    clear hm e1
    go_enter Tryd.func30, Tryd.ntmps30
    go_wp2_with (first | (go_at_call 31; refine HF.out.mono ?_; rintro e w' ⟨rfl, rfl⟩) | (go_at_call 43; refine HC.out.mono ?_; rintro e w' ⟨rfl, rfl⟩))
    go_ret
    exact ⟨.inr ⟨HM.out, rfl, HP.out⟩, Stp.refl _ _⟩
set_option maxHeartbeats 1600000 in
theorem move_out {w : World} {P : Lay} {f : Pool} (h : PoolM w P f) {d b : Int} (hd : ¬ InPool P d b) (to : Int) (v : Value) :
    Calls Tryd.prog 30 #[ptr P.p 0, num d, num b, num to, v] w fun e w' => e = .returned (num 1) ∧ w' = w := by
  have HF := hide (find_out h hd)
  clear h hd
  go_enter Tryd.func30, Tryd.ntmps30
  go_wp2_with (first | (go_at_call 31; refine HF.out.mono ?_; rintro e w' ⟨rfl, rfl⟩))
  go_ret
  exact ⟨rfl, rfl⟩
end Bk
end Go.Proofs.YtoakokpeomlkjaaDoor
