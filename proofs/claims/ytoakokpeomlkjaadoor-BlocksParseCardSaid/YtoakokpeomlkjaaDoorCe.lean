/- Layer 7 (blocks): alike. -/
import Derived.Test.YtoakokpeomlkjaaDoorCd
namespace Go.Proofs.YtoakokpeomlkjaaDoor
open Go.RowKit Go.Maps Go.Shelf
namespace Bk
open Cr (valsB RdB Glob)
/-- A call that answers x and changes nothing of what lies. -/
def Ans (n : Nat) (args : Array Value) (w : World) (x : Int) : Prop := ∀ V, w.grownBy V none → Calls Tryd.prog n args V fun e w' => e = .returned (num x) ∧ V.grownBy w' none
theorem cnt_none (r : Nat → Blk) (s : Int) : cnt r 0 s = 0 := by simp [cnt, cntL]
theorem spread_none (r : Nat → Blk) : spread r 0 = 0 := by simp [spread, spL]
theorem count_two {w : World} {P : Lay} {R : Ref} {f : Pool} (h : PoolM w P f) (hr : RefM w R f) (hn : R.n = P.n) (hm : R.m = P.m) (d s : Int) : ∃ x, Ans 32 #[ptr P.p 0, num d, num s] w x ∧ Ans 33 #[ptr R.r 0, num d, num s] w x := by
  by_cases hd : 0 ≤ d ∧ d < R.n
  · obtain ⟨i, rfl⟩ : ∃ i : Nat, d = (i : Int) := ⟨d.toNat, by omega⟩
    have hi : i < R.n := by omega
    refine ⟨_, fun V g => Count_ok (h.grown g) (dieRow_in (h.grown g) (by omega)) s, fun V g => ?_⟩
    rw [← hm]
    exact kCount_in (hr.grown g) hi (by have := h.m1; omega) s
  · refine ⟨0, fun V g => (Count_ok (h.grown g) (dieRow_out (h.grown g) (by unfold InDie; omega)) s).mono ?_, fun V g => (kCount_out (hr.grown g) hd s).mono ?_⟩
    · rintro e w' ⟨rfl, hg⟩
      rw [cnt_none]
      exact ⟨rfl, hg⟩
    · rintro e w' ⟨rfl, rfl⟩
      exact ⟨rfl, grownBy_refl _ _⟩
theorem spread_two {w : World} {P : Lay} {R : Ref} {f : Pool} (h : PoolM w P f) (hr : RefM w R f) (hn : R.n = P.n) (hm : R.m = P.m) (d : Int) : ∃ x, Ans 25 #[ptr P.p 0, num d] w x ∧ Ans 34 #[ptr R.r 0, num d] w x := by
  by_cases hd : 0 ≤ d ∧ d < R.n
  · obtain ⟨i, rfl⟩ : ∃ i : Nat, d = (i : Int) := ⟨d.toNat, by omega⟩
    have hi : i < R.n := by omega
    refine ⟨_, fun V g => Spread_ok (h.grown g) (dieRow_in (h.grown g) (by omega)), fun V g => ?_⟩
    rw [← hm]
    exact kSpread_in (hr.grown g) hi (by have := h.m1; omega) fun k hk => h.e1 i k (by omega) (by omega)
  · refine ⟨0, fun V g => (Spread_ok (h.grown g) (dieRow_out (h.grown g) (by unfold InDie; omega))).mono ?_, fun V g => (kSpread_out (hr.grown g) hd).mono ?_⟩
    · rintro e w' ⟨rfl, hg⟩
      rw [spread_none]
      exact ⟨rfl, hg⟩
    · rintro e w' ⟨rfl, rfl⟩
      exact ⟨rfl, grownBy_refl _ _⟩
theorem state_two {w : World} {P : Lay} {R : Ref} {f : Pool} (h : PoolM w P f) (hn : R.n = P.n) (hm : R.m = P.m) (d b : Int) : (∃ i k, d = ((i : Nat) : Int) ∧ b = ((k : Nat) : Int) ∧ i < R.n ∧ k < R.m ∧ Ans 23 #[ptr P.p 0, num d, num b] w (f i k).st ∧ Ans 24 #[ptr P.p 0, num d, num b] w (f i k).er) ∨ (¬ InRef R d b ∧ Ans 23 #[ptr P.p 0, num d, num b] w 0 ∧ Ans 24 #[ptr P.p 0, num d, num b] w 0) := by
  by_cases hd : InRef R d b
  · unfold InRef at hd
    refine .inl ⟨d.toNat, b.toNat, by omega, by omega, by omega, by omega, ?_⟩
    obtain ⟨i, rfl⟩ : ∃ i : Nat, d = (i : Int) := ⟨d.toNat, by omega⟩
    obtain ⟨k, rfl⟩ : ∃ i : Nat, b = (i : Int) := ⟨b.toNat, by omega⟩
    refine ⟨fun V g => (State_in (h.grown g) (by omega) (by omega)).mono ?_, fun V g => (Erases_in (h.grown g) (by omega) (by omega)).mono ?_⟩
    · rintro e w' ⟨rfl, rfl⟩
      exact ⟨rfl, grownBy_refl _ _⟩
    · rintro e w' ⟨rfl, rfl⟩
      exact ⟨rfl, grownBy_refl _ _⟩
  · have hp : ¬ InPool P d b := by unfold InRef at hd; unfold InPool; omega
    refine .inr ⟨hd, fun V g => (State_out (h.grown g) hp).mono ?_, fun V g => (Erases_out (h.grown g) hp).mono ?_⟩
    · rintro e w' ⟨rfl, rfl⟩
      exact ⟨rfl, grownBy_refl _ _⟩
    · rintro e w' ⟨rfl, rfl⟩
      exact ⟨rfl, grownBy_refl _ _⟩
/-- What is read of the document's pool. -/
structure Rd (V : World) (R : Ref) (j : Nat) (s e : Int) : Prop where
  c1 : V.cell? ⟨R.r, 1, none⟩ = some (num R.m)
  c2 : V.cell? ⟨R.r, 2, none⟩ = some (.slice (some ⟨R.sb, 0, none⟩) R.l R.sc)
  c3 : V.cell? ⟨R.r, 3, none⟩ = some (.slice (some ⟨R.eb, 0, none⟩) R.l R.ec)
  cs : V.cell? ⟨R.sb, j, none⟩ = some (num s)
  ce : V.cell? ⟨R.eb, j, none⟩ = some (num e)
theorem RefM.l8 {V : World} {R : Ref} {f : Pool} (h : RefM V R f) : R.l ≤ 512 := by have := Nat.mul_le_mul h.n8 h.m64; have := h.len; omega
theorem RefM.rd {V : World} {R : Ref} {f : Pool} (h : RefM V R f) {i k : Nat} (hi : i < R.n) (hk : k < R.m) : Rd V R (i * R.m + k) (f i k).st (f i k).er :=
  ⟨cell_at h.box rfl, cell_at h.box rfl, cell_at h.box rfl, h.st i k hi hk, h.er i k hi hk⟩
def ints (xs : List Nat) : List Int := xs.map fun n : Nat => (n : Int)
theorem ints_len (xs : List Nat) : (ints xs).length = xs.length := by simp [ints]
theorem ints_getD (xs : List Nat) (i : Nat) : (ints xs).getD i 0 = ((Cr.nth xs i : Nat) : Int) := by
  simp only [ints, Cr.nth, List.getD_eq_getElem?_getD, List.getElem?_map]
  cases xs[i]? <;> rfl
def strB (bs : List Nat) : ByteArray := strOfNums (ints bs)
theorem conv_ok {w : World} {ao : Option Addr} {bs : List Nat} (h : RdB w ao bs) (hl : 1 ≤ bs.length) (cap : Nat) : (convert 43 9 (.slice ao bs.length cap)).run Tryd.prog w = .ok (.string (strB bs)) w := by
  rcases h.2 with rfl | ⟨g, off, rfl, hc⟩
  · simp at hl
  refine run_convert_bytes_arg (P := Tryd.prog) w 43 5 Tryd.underlying43 Tryd.underlying5 g off bs.length cap (ints bs) (ints_len bs) (fun i hi => ?_) 9 Tryd.underlying9
  rw [hc i hi, ints_getD]
/-- Bytes are answered that say S as a string, now and later. -/
def StrPost (w V : World) (S : ByteArray) (e : Ending) (w' : World) : Prop := ∃ ao n cap, e = .returned (.slice ao n cap) ∧ w.grownBy w' none ∧ V.grownBy w' none ∧ ∀ W, w'.grownBy W none → (convert 43 9 (.slice ao n cap)).run Tryd.prog W = .ok (.string S) W
theorem bytes_two {w : World} {P : Lay} {R : Ref} {f : Pool} (h : PoolM w P f) (hr : RefM w R f) (hn : R.n = P.n) (hm : R.m = P.m) (hG : Glob w) : ∃ S, (∀ V, w.grownBy V none → Calls Tryd.prog 22 #[ptr P.p 0] V (StrPost w V S)) ∧ ∀ V, w.grownBy V none → Calls Tryd.prog 35 #[ptr R.r 0] V (StrPost w V S) := by
  refine ⟨strB (poolB f P.n P.m P.n ++ Cr.le4 (Cr.crc (poolB f P.n P.m P.n))), fun V g => (Bytes_ok (h.grown g) (hG.more g)).mono ?_, fun V g => (kBytes_ok (hr.grown g) (by have := h.n1; omega) (by have := h.m1; omega) fun i k hi hk => ⟨h.s1 i k (by omega) (by omega), h.s4 i k (by omega) (by omega), h.e1 i k (by omega) (by omega)⟩).mono ?_⟩
  · rintro e w' ⟨b, rfl, _, hg, hO⟩
    refine ⟨_, _, _, rfl, grownBy_trans g hg, hg, fun W hW => ?_⟩
    have := conv_ok (hO.rdB.more hW) (by simp [Cr.le4]) ((poolB f P.n P.m P.n).length + 4)
    rw [List.length_append] at this
    exact this
  · rintro e w' ⟨ao, cap, rfl, hR, hg⟩
    rw [hn, hm] at hR
    refine ⟨ao, _, cap, rfl, grownBy_trans g hg, hg, fun W hW => ?_⟩
    rw [hn, hm]
    exact conv_ok (hR.more hW) (by simp [Cr.le4]) cap
end Bk
end Go.Proofs.YtoakokpeomlkjaaDoor
