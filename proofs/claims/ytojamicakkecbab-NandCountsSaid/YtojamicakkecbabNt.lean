/- Layer 4 (nand): New. -/
import Derived.Test.YtojamicakkecbabNs
namespace Go.Proofs.Ytojamicakkecbab
open Go.RowKit Go.Maps
namespace Nd
theorem lay_dims (A : St) (f : Flt) : (A.lay f).D = A.D ∧ (A.lay f).B = A.B ∧ (A.lay f).P = A.P ∧ (A.lay f).Y = A.Y ∧ (A.lay f).nc ≤ A.nc + 1 := by
  unfold St.lay
  repeat' split
  all_goals first | exact ⟨rfl, rfl, rfl, rfl, Nat.le_succ _⟩ | exact ⟨rfl, rfl, rfl, rfl, Nat.le_refl _⟩
theorem FMay.same {A A' : St} {f : Flt} (h : FMay A f) (e1 : A'.D = A.D) (e2 : A'.B = A.B) (e3 : A'.P = A.P) (e4 : A'.Y = A.Y) : FMay A' f :=
  ⟨h.k1, h.k2, h.a0, h.ai, h.t0, h.p0, h.pi, h.d0, by rw [e1]; exact h.d1, h.b0, by rw [e2]; exact h.b1, h.g0, by rw [e3]; exact h.g1, by rw [e4]; exact h.bits⟩
def layAll (A : St) (fs : List Flt) : St := fs.foldl St.lay A
theorem layAll_next (A : St) (fs : List Flt) {k : Nat} {f : Flt} (h : fs[k]? = some f) : layAll A (fs.take (k + 1)) = (layAll A (fs.take k)).lay f := by
  rw [List.take_add_one, h]
  simp [layAll]
theorem layAll_dims (A : St) : ∀ fs : List Flt, (layAll A fs).D = A.D ∧ (layAll A fs).B = A.B ∧ (layAll A fs).P = A.P ∧ (layAll A fs).Y = A.Y ∧ (layAll A fs).nc ≤ A.nc + fs.length := by
  intro fs
  induction fs generalizing A with
  | nil => exact ⟨rfl, rfl, rfl, rfl, Nat.le_refl _⟩
  | cons f fs ih =>
    obtain ⟨a1, a2, a3, a4, a5⟩ := ih (A.lay f)
    obtain ⟨b1, b2, b3, b4, b5⟩ := lay_dims A f
    exact ⟨a1.trans b1, a2.trans b2, a3.trans b3, a4.trans b4, by simp only [List.length_cons]; show (layAll (A.lay f) fs).nc ≤ _; omega⟩
def LayPost (w : World) (M : Lay) (A' : St) (lab : Lab) (e : Ending) (w' : World) : Prop := ∃ lab', e = .returned (.tuple #[]) ∧ Arr w' M A' lab' ∧ Stp lab lab' w w'
theorem lay_ok {w : World} {M : Lay} {A : St} {lab : Lab} (h : Arr w M A lab) {f : Flt} (hf : FMay A f) (hk : f.kind ≠ 1) (hnc : A.nc ≤ 2000) :
    Calls Try.prog 18 #[ptr M.a 0, fltV f] w (LayPost w M (A.lay f) lab) := by
  obtain ⟨kind, at_, die, block, page, times, part, bits, ba, bc⟩ := f
  obtain ⟨k1, k2, a0, ai, t0, p0, pi, d0, d1, b0, b1, g0, g1, hbits⟩ := hf
  simp only at k1 k2 a0 t0 p0 d0 d1 b0 b1 g0 g1 hk ai pi
  obtain ⟨d, rfl⟩ := Int.eq_ofNat_of_zero_le d0
  obtain ⟨b, rfl⟩ := Int.eq_ofNat_of_zero_le b0
  have hd : d < A.D := by omega
  have hb : b < A.B := by omega
  have hk' : kind = 2 ∨ kind = 3 ∨ kind = 4 ∨ kind = 5 ∨ kind = 6 := by omega
  rcases hk' with rfl | rfl | rfl | rfl | rfl
  · exact (lay_2 h hd hb).mono fun e w' ⟨h1, h2, h3⟩ => ⟨lab, h1, h2, h3⟩
  · exact (lay_3 h hd hb).mono fun e w' ⟨h1, h2, h3⟩ => ⟨lab, h1, h2, h3⟩
  · exact (lay_4 h hd hb).mono fun e w' ⟨h1, h2, h3⟩ => ⟨lab, h1, h2, h3⟩
  · exact (lay_5 h hd hb ai pi hnc).mono fun e w' ⟨h1, h2, h3⟩ => ⟨lab, h1, h2, h3⟩
  · exact (lay_6 h hd hb).mono fun e w' ⟨h1, h2, h3⟩ => ⟨lab, h1, h2, h3⟩
/-- An array begins. -/
theorem dies_start {w V : World} {D B P Y bx ds mp a : Nat} {cur : Array Value} (hg : w.grownBy V none) (hbx : V.heap[bx]? = some (boxO D B P Y)) (hcs : cur.size = D * 2) (hds : V.heap[ds]? = some (.cells cur 64)) (hmp : V.heap[mp]? = some (.map #[] 0)) (ha : V.heap[a]? = some (arrO D B P Y ds mp))
    (g1 : w.heap.size ≤ ds) (g2 : w.heap.size ≤ mp) (g3 : w.heap.size ≤ a) (n1 : ds ≠ mp) (n2 : ds ≠ a) (n3 : mp ≠ a) (n4 : bx ≠ ds) (n5 : bx ≠ mp) (n6 : bx ≠ a) :
    DiesRel w V (addLab (addLab (addLab (fun _ => none) a .arr) ds .ds) mp .mp) ⟨a, ds, mp, fun _ => 0⟩ D B P Y bx 0 := by
  have hl : ∀ x, addLab (addLab (addLab (fun _ => none) a .arr) ds .ds) mp .mp x ≠ none → x = a ∨ x = ds ∨ x = mp := fun x hx => by
    simp only [addLab] at hx
    by_cases e1 : x = mp
    · exact .inr (.inr e1)
    · by_cases e2 : x = ds
      · exact .inr (.inl e2)
      · by_cases e3 : x = a
        · exact .inl e3
        · simp [e1, e2, e3] at hx
  refine ⟨⟨hg.os, hg.tape, hg.output, hg.size, fun g hg' _ => hg.block g hg' (by simp), fun x hx => .inr ?_⟩, fun x hx => ?_, ?_, ?_, ?_, ?_, ha, hmp, hbx, There.of_row hds (by omega), fun d hd => by omega⟩
  · rcases hl x hx with e | e | e <;> omega
  · rcases hl x hx with e | e | e <;> rw [e]
    · exact lt_of_heap ha
    · exact lt_of_heap hds
    · exact lt_of_heap hmp
  · simp [addLab, Ne.symm n3, Ne.symm n2]
  · simp [addLab, n1]
  · simp [addLab]
  · simp [addLab, n4, n5, n6]
end Nd
end Go.Proofs.Ytojamicakkecbab
