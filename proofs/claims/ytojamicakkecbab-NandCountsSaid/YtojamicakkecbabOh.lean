/- Layer 4 (nand): what operations count. -/
import Derived.Test.YtojamicakkecbabNw
import Derived.Test.YtojamicakkecbabOf
import Derived.Test.YtojamicakkecbabOg
namespace Go.Proofs.Ytojamicakkecbab
open Go.RowKit Go.Maps
namespace Nd
/-- An operation is counted, once. -/
structure Cnts (A A' : St) (i : Nat) (r : Int) : Prop where
  dims : A'.D = A.D ∧ A'.B = A.B ∧ A'.P = A.P ∧ A'.Y = A.Y
  c : ∀ j, j ≠ 3 → A'.cnt j = A.cnt j + (if j = i then 1 else 0) + (if j = 4 ∧ r = 43 then 1 else 0) + (if j = 5 ∧ r = 40 then 1 else 0)
  fl : ∀ d b, (A'.blk d b).flips.length = (A.blk d b).flips.length
  ok : FlOk A → FlOk A'
  rs : r = 0 ∨ r = 40 ∨ r = 41 ∨ r = 43
theorem FlOk.same {A A' : St} (h : FlOk A) (hY : A'.Y = A.Y) (hf : ∀ d b, (A'.blk d b).flips = (A.blk d b).flips) : FlOk A' := fun d b F hF => by
  rw [hf] at hF; rw [hY]; exact h d b F hF
theorem upB_fl (A : St) (d b : Nat) {f : Blk → Blk} (hf : ∀ x, (f x).flips = x.flips) (i j : Nat) : ((A.upB d b f).blk i j).flips = (A.blk i j).flips := by
  show (if i = d ∧ j = b then f (A.blk d b) else A.blk i j).flips = _
  split
  · rename_i h; rw [h.1, h.2]; exact hf _
  · rfl
theorem prog_fl (A : St) (n : Int) (d b p k : Nat) (bs : List Nat) (i j : Nat) : ((A.progPart n d b p k bs).blk i j).flips = (A.blk i j).flips :=
  upB_fl A d b (f := fun x => x.prog p (newPage n (A.blk d b).noP A.Y k bs)) (fun _ => rfl) i j
theorem tick_cnt (A : St) (i j : Nat) : (A.tick i).cnt j = if j = i then A.cnt i + 1 else A.cnt j := rfl
theorem cutOff_cnt (A : St) (j : Nat) : A.cutOff.cnt j = if j = 5 then A.cnt 5 + 1 else A.cnt j := rfl
theorem tick_c {A : St} {i j : Nat} (r : Int) (h1 : r ≠ 43) (h2 : r ≠ 40) : (A.tick i).cnt j = A.cnt j + (if j = i then 1 else 0) + (if j = 4 ∧ r = 43 then 1 else 0) + (if j = 5 ∧ r = 40 then 1 else 0) := by
  have e1 : ¬ (j = 4 ∧ r = 43) := fun h => h1 h.2
  have e2 : ¬ (j = 5 ∧ r = 40) := fun h => h2 h.2
  rw [tick_cnt, if_neg e1, if_neg e2]
  by_cases h : j = i
  · subst h; simp
  · simp [h]
theorem cut_c {A : St} {i j : Nat} (hi : i < 3) : ((A.tick i).cutOff).cnt j = A.cnt j + (if j = i then 1 else 0) + (if j = 4 ∧ (40 : Int) = 43 then 1 else 0) + (if j = 5 ∧ (40 : Int) = 40 then 1 else 0) := by
  by_cases h5 : j = 5
  · subst h5
    have h5i : ¬ (5 = i) := by omega
    simp [cutOff_cnt, tick_cnt, h5i]
  · by_cases h : j = i
    · subst h; simp [cutOff_cnt, tick_cnt, h5]
    · simp [cutOff_cnt, tick_cnt, h5, h]
theorem fail_c {A : St} {i j : Nat} (hi : i < 3) : ((A.tick i).tick 4).cnt j = A.cnt j + (if j = i then 1 else 0) + (if j = 4 ∧ (43 : Int) = 43 then 1 else 0) + (if j = 5 ∧ (43 : Int) = 40 then 1 else 0) := by
  by_cases h5 : j = 4
  · subst h5
    have h5i : ¬ (4 = i) := by omega
    simp [tick_cnt, h5i]
  · by_cases h : j = i
    · subst h; simp [tick_cnt, h5]
    · simp [tick_cnt, h5, h]
theorem cnts_program (A : St) (d b p : Nat) (bs : List Nat) : Cnts A (A.doProgram d b p bs).1 1 (A.doProgram d b p bs).2 := by
  unfold St.doProgram
  split
  · split
    · exact ⟨⟨rfl, rfl, rfl, rfl⟩, fun j _ => (show ((A.tick 1).cutOff).cnt j = _ from cut_c (by decide)), fun i j => congrArg List.length (prog_fl _ _ _ _ _ _ _ i j), fun h => h.same rfl (fun i j => prog_fl _ _ _ _ _ _ _ i j), .inr (.inl rfl)⟩
    · exact ⟨⟨rfl, rfl, rfl, rfl⟩, fun j _ => (show ((A.tick 1).cutOff).cnt j = _ from cut_c (by decide)), fun i j => rfl, fun h => h.same rfl (fun i j => rfl), .inr (.inl rfl)⟩
  · split
    · unfold progRet
      simp only [St.progAll]
      have e : ((A.tick 1).blk d b).noP = (A.blk d b).noP := rfl
      rw [e]
      split
      · exact ⟨⟨rfl, rfl, rfl, rfl⟩, fun j _ => (show (A.tick 1).cnt j = _ from tick_c 0 (by decide) (by decide)), fun i j => congrArg List.length (prog_fl _ _ _ _ _ _ _ i j), fun h => h.same rfl (fun i j => prog_fl _ _ _ _ _ _ _ i j), .inl rfl⟩
      · exact ⟨⟨rfl, rfl, rfl, rfl⟩, fun j _ => (show ((A.tick 1).tick 4).cnt j = _ from fail_c (by decide)), fun i j => congrArg List.length (prog_fl _ _ _ _ _ _ _ i j), fun h => h.same rfl (fun i j => prog_fl _ _ _ _ _ _ _ i j), .inr (.inr (.inr rfl))⟩
    · exact ⟨⟨rfl, rfl, rfl, rfl⟩, fun j _ => (show (A.tick 1).cnt j = _ from tick_c 41 (by decide) (by decide)), fun i j => rfl, fun h => h.same rfl (fun i j => rfl), .inr (.inr (.inl rfl))⟩
set_option maxHeartbeats 1600000 in
theorem cnts_erase (A : St) (d b : Nat) : Cnts A (A.doErase d b).1 2 (A.doErase d b).2 := by
  have k3 : ∀ (X : St) (n : Nat) (v : Int) (i j : Nat), ((((X.upB d b Blk.incE).upB d b (Blk.clr n)).upB d b (Blk.setN v)).blk i j).flips = (X.blk i j).flips := fun X n v i j =>
    (upB_fl _ d b (f := Blk.setN v) (fun _ => rfl) i j).trans ((upB_fl _ d b (f := Blk.clr n) (fun _ => rfl) i j).trans (upB_fl _ d b (f := Blk.incE) (fun _ => rfl) i j))
  have k3' : ∀ (X : St) (n : Nat) (v : Int) (i j : Nat), ((((X.upB d b Blk.incE).upB d b (Blk.setN v)).upB d b (Blk.clr n)).blk i j).flips = (X.blk i j).flips := fun X n v i j =>
    (upB_fl _ d b (f := Blk.clr n) (fun _ => rfl) i j).trans ((upB_fl _ d b (f := Blk.setN v) (fun _ => rfl) i j).trans (upB_fl _ d b (f := Blk.incE) (fun _ => rfl) i j))
  have k2 : ∀ (X : St) (v : Int) (i j : Nat), (((X.upB d b Blk.incE).upB d b (Blk.setN v)).blk i j).flips = (X.blk i j).flips := fun X v i j =>
    (upB_fl _ d b (f := Blk.setN v) (fun _ => rfl) i j).trans (upB_fl _ d b (f := Blk.incE) (fun _ => rfl) i j)
  have k1 : ∀ (X : St) (i j : Nat), ((X.upB d b Blk.incE).blk i j).flips = (X.blk i j).flips := fun X i j => upB_fl _ d b (f := Blk.incE) (fun _ => rfl) i j
  unfold St.doErase
  cases hcut : A.cuts A.num with
  | some part =>
    simp only
    split
    · simp only [St.erasePart]
      split
      · exact ⟨⟨rfl, rfl, rfl, rfl⟩, fun j _ => (show ((A.tick 2).cutOff).cnt j = _ from cut_c (by decide)), fun i j => congrArg List.length (k3' (A.tick 2).cutOff (min part A.P).toNat (-1) i j), fun h => FlOk.same (A := A) h rfl (fun i j => k3' (A.tick 2).cutOff (min part A.P).toNat (-1) i j), .inr (.inl rfl)⟩
      · exact ⟨⟨rfl, rfl, rfl, rfl⟩, fun j _ => (show ((A.tick 2).cutOff).cnt j = _ from cut_c (by decide)), fun i j => congrArg List.length (k2 (A.tick 2).cutOff (-1) i j), fun h => FlOk.same (A := A) h rfl (fun i j => k2 (A.tick 2).cutOff (-1) i j), .inr (.inl rfl)⟩
    · exact ⟨⟨rfl, rfl, rfl, rfl⟩, fun j _ => (show ((A.tick 2).cutOff).cnt j = _ from cut_c (by decide)), fun i j => rfl, fun h => h.same rfl (fun i j => rfl), .inr (.inl rfl)⟩
  | none =>
    simp only
    split
    · unfold eraseRet
      simp only [St.eraseAll]
      have e : ((A.tick 2).blk d b).noE = (A.blk d b).noE := rfl
      rw [e]
      split
      · exact ⟨⟨rfl, rfl, rfl, rfl⟩, fun j _ => (show (A.tick 2).cnt j = _ from tick_c 0 (by decide) (by decide)), fun i j => congrArg List.length (k3 (A.tick 2) A.P 0 i j), fun h => FlOk.same (A := A) h rfl (fun i j => k3 (A.tick 2) A.P 0 i j), .inl rfl⟩
      · exact ⟨⟨rfl, rfl, rfl, rfl⟩, fun j _ => (show ((A.tick 2).tick 4).cnt j = _ from fail_c (by decide)), fun i j => congrArg List.length (k1 (A.tick 2) i j), fun h => FlOk.same (A := A) h rfl (fun i j => k1 (A.tick 2) i j), .inr (.inr (.inr rfl))⟩
    · exact ⟨⟨rfl, rfl, rfl, rfl⟩, fun j _ => (show (A.tick 2).cnt j = _ from tick_c 41 (by decide) (by decide)), fun i j => rfl, fun h => h.same rfl (fun i j => rfl), .inr (.inr (.inl rfl))⟩
theorem cnts_read (A : St) (d b p : Nat) : Cnts A (A.doRead d b p).1 0 (A.doRead d b p).2.2 := by
  unfold St.doRead
  split
  · exact ⟨⟨rfl, rfl, rfl, rfl⟩, fun j _ => (show ((A.tick 0).cutOff).cnt j = _ from cut_c (by decide)), fun i j => rfl, fun h => h.same rfl (fun i j => rfl), .inr (.inl rfl)⟩
  · split
    · have hT := turns_turned (A.tick 0) A.num d b p (A.blk d b).flips.length (Nat.le_refl _)
      obtain ⟨e1, e2, e3, e4, _⟩ := hT.dims
      refine ⟨⟨e1, e2, e3, e4⟩, fun j hj => (hT.cnt j hj).trans (tick_c 0 (by decide) (by decide)), fun i j => ?_, fun h => FlOk.turns (A := A.tick 0) (h.same rfl (fun _ _ => rfl)) A.num d b p _ (Nat.le_refl _), .inl rfl⟩
      by_cases hij : i = d ∧ j = b
      · rw [hij.1, hij.2]; exact hT.len
      · rw [hT.blk i j hij]; rfl
    · exact ⟨⟨rfl, rfl, rfl, rfl⟩, fun j _ => (show (A.tick 0).cnt j = _ from tick_c 41 (by decide) (by decide)), fun i j => rfl, fun h => h.same rfl (fun i j => rfl), .inr (.inr (.inl rfl))⟩
theorem Bd.read {A : St} {N : Int} (h : Bd A N) {d b p : Nat} : Bd (A.doRead d b p).1 (N + 2) := by
  unfold St.doRead
  split
  · exact ((h.tick 0).cutOff).mono (by omega)
  · split
    · have hT := turns_turned (A.tick 0) A.num d b p (A.blk d b).flips.length (Nat.le_refl _)
      have hB : Bd (A.tick 0) (N + 2) := (h.tick 0).mono (by omega)
      obtain ⟨_, _, e3, _, _, _, e7, _⟩ := hT.dims
      refine ⟨fun i hi => by rw [hT.cnt i hi]; exact hB.cnt i hi, fun i j => ?_, fun i j => ?_, fun k v hv => hB.cu k v (by rw [← e7]; exact hv)⟩
      · by_cases hij : i = d ∧ j = b
        · rw [hij.1, hij.2, hT.own.2.1]; exact hB.er d b
        · rw [hT.blk i j hij]; exact hB.er i j
      · rw [e3]
        by_cases hij : i = d ∧ j = b
        · rw [hij.1, hij.2, hT.own.1]; exact hB.nx d b
        · rw [hT.blk i j hij]; exact hB.nx i j
    · exact (h.tick 0).mono (by omega)
end Nd
end Go.Proofs.Ytojamicakkecbab
