/- Layer 4 (nand): an array with one fault that turns bits. -/
import Derived.Test.YtojamicakkecbaaNx
import Derived.Test.YtojamicakkecbaaOf
import Derived.Test.YtojamicakkecbaaOu
namespace Go.Proofs.Ytojamicakkecbaa
open Go.ChangeShapes Go.WideShapes Go.ChangeAt Go.RowKit Go.Maps
namespace Nd
def flipF (t : Nat) (l : List Int) (ba : Option Addr) (bc : Nat) : Flt := ⟨1, 0, 0, 0, 0, t, 0, l, ba, bc⟩
theorem flipF_may {n t : Nat} {l : List Int} {ba : Option Addr} {bc : Nat} (hl : ∀ i, i < l.length → 0 ≤ nthI l i ∧ nthI l i < 8 * n) : FMay (St.new 1 1 1 n) (flipF t l ba bc) :=
  ⟨by show (1 : Int) ≤ 1; omega, by show (1 : Int) ≤ 6; omega, by show (0 : Int) ≤ 0; omega, ⟨by show (-9223372036854775808 : Int) ≤ 0; omega, by show (0 : Int) ≤ 9223372036854775807; omega⟩, by show (0 : Int) ≤ (t : Int); omega, by show (0 : Int) ≤ 0; omega, ⟨by show (-9223372036854775808 : Int) ≤ 0; omega, by show (0 : Int) ≤ 9223372036854775807; omega⟩,
   by show (0 : Int) ≤ 0; omega, by show (0 : Int) < ((1 : Nat) : Int); omega, by show (0 : Int) ≤ 0; omega, by show (0 : Int) < ((1 : Nat) : Int); omega, by show (0 : Int) ≤ 0; omega, by show (0 : Int) < ((1 : Nat) : Int); omega, hl⟩
/-- An array of one page, whose bits are turned in some reads: i were read. -/
structure FlR (A : St) (n t : Nat) (l : List Int) (i : Nat) (bs : List Nat) : Prop where
  on : A.on = true
  cuts : ∀ k, A.cuts k = none
  dead : ∀ d, A.dead d = never
  fl : (A.blk 0 0).flips = [⟨0, 0, ((t - min i t : Nat) : Int), l⟩]
  ok : FlOk A
  d : A.D = 1
  b : A.B = 1
  p : A.P = 1
  y : A.Y = n
  num : A.num = i + 1
  pg : (A.blk 0 0).pages 0 = some bs
  c3 : A.cnt 3 = ((min i t * l.length : Nat) : Int)
  bd : Bd A (3 * i + 9)
theorem flip_start {n t : Nat} {l : List Int} {ba : Option Addr} {bc : Nat} : layAll (St.new 1 1 1 n) [flipF t l ba bc] = (St.new 1 1 1 n).upB 0 0 (fun x => { x with flips := x.flips ++ [⟨0, 0, t, l⟩] }) := by
  show (St.new 1 1 1 n).lay (flipF t l ba bc) = _
  simp [St.lay, flipF]
  rfl
theorem flok_start {n t : Nat} {l : List Int} (ht : t ≤ 100) (hll : l.length ≤ 100) (hl : ∀ i, i < l.length → 0 ≤ nthI l i ∧ nthI l i < 8 * n) : FlOk ((St.new 1 1 1 n).upB 0 0 (fun x => { x with flips := x.flips ++ [⟨0, 0, t, l⟩] })) := by
  intro d b F hF
  have e : ((St.new 1 1 1 n).upB 0 0 (fun x => { x with flips := x.flips ++ [⟨0, 0, t, l⟩] })).blk d b = if d = 0 ∧ b = 0 then { Blk.new with flips := Blk.new.flips ++ [⟨0, 0, t, l⟩] } else Blk.new := rfl
  rw [e] at hF
  split at hF
  · have hF2 : F ∈ [(⟨0, 0, t, l⟩ : Flip)] := hF
    rw [List.mem_singleton] at hF2
    subst hF2
    exact ⟨by show (0 : Int) ≤ (t : Int); omega, by show (t : Int) ≤ _; omega, by show l.length ≤ _; omega, hl⟩
  · cases hF
/-- The page is programmed. -/
theorem FlR.start {n t : Nat} {l : List Int} {ba : Option Addr} {bc : Nat} (ht : t ≤ 100) (hll : l.length ≤ 100) (hl : ∀ i, i < l.length → 0 ≤ nthI l i ∧ nthI l i < 8 * n) {bs : List Nat} (hbs : bs.length = n) :
    ((layAll (St.new 1 1 1 n) [flipF t l ba bc]).doProgram 0 0 0 bs).2 = 0 ∧ FlR ((layAll (St.new 1 1 1 n) [flipF t l ba bc]).doProgram 0 0 0 bs).1 n t l 0 bs := by
  rw [flip_start]
  obtain ⟨A, hA⟩ : ∃ A, A = (St.new 1 1 1 n).upB 0 0 (fun x => { x with flips := x.flips ++ [⟨0, 0, t, l⟩] }) := ⟨_, rfl⟩
  have hok := flok_start (n := n) ht hll hl
  have hbd : Bd A 0 := by rw [hA]; exact (Bd.new 1 1 1 n).up 0 0 rfl ((Bd.new 1 1 1 n).nx 0 0)
  rw [← hA] at hok ⊢
  have hn : A.num < A.dead 0 := by rw [hA]; show (0 : Int) + 0 + 0 < never; unfold never; omega
  have hc : A.cuts A.num = none := by rw [hA]; rfl
  have hnp : A.num < (A.blk 0 0).noP := by rw [hA]; show (0 : Int) + 0 + 0 < never; unfold never; omega
  have hY : A.Y = n := by rw [hA]; rfl
  have hb2 := hbd.program (d := 0) (b := 0) (p := 0) (bs := bs) (by rw [hA]; show (0 : Int) < ((1 : Nat) : Int); omega)
  have e : A.doProgram 0 0 0 bs = ((A.tick 1).progPart A.num 0 0 0 A.Y bs, 0) := by
    unfold St.doProgram
    rw [hc]
    simp only [hn, if_true]
    have e1 : ((A.tick 1).blk 0 0).noP = (A.blk 0 0).noP := rfl
    unfold St.progAll progRet
    rw [e1, if_pos hnp, if_pos hnp]
    rfl
  rw [e] at hb2 ⊢
  have ebk : ((A.tick 1).progPart A.num 0 0 0 A.Y bs).blk 0 0 = (A.blk 0 0).prog 0 (newPage A.num (A.blk 0 0).noP A.Y A.Y bs) := by
    simp [St.progPart, St.setBlk]
    rfl
  refine ⟨rfl, by rw [hA]; rfl, fun _ => by rw [hA]; rfl, fun _ => by rw [hA]; rfl, ?_, ?_, by rw [hA]; rfl, by rw [hA]; rfl, by rw [hA]; rfl, hY, ?_, ?_, ?_, hb2.mono (by omega)⟩
  · rw [ebk]
    show (A.blk 0 0).flips = _
    rw [hA]
    show [(⟨0, 0, (t : Int), l⟩ : Flip)] = _
    rw [show t - min 0 t = t by omega]
  · intro d b F hF
    have e2 : ((A.tick 1).progPart A.num 0 0 0 A.Y bs).blk d b = if d = 0 ∧ b = 0 then (A.blk 0 0).prog 0 (newPage A.num (A.blk 0 0).noP A.Y A.Y bs) else A.blk d b := rfl
    rw [e2] at hF
    split at hF
    · exact hok 0 0 F hF
    · exact hok d b F hF
  · show (A.tick 1).num = _
    rw [tick_num A 1 (by decide), hA]
    rfl
  · rw [ebk]
    show (if (0 : Nat) = 0 then some (newPage A.num (A.blk 0 0).noP A.Y A.Y bs) else (A.blk 0 0).pages 0) = _
    rw [if_pos rfl]
    unfold newPage
    rw [if_pos hnp, hY, List.take_of_length_le (by omega)]
    simp
  · show A.cnt 3 = _
    rw [hA]
    show (0 : Int) = _
    simp
/-- A read. -/
theorem FlR.read {A : St} {n t : Nat} {l : List Int} {i : Nat} {bs : List Nat} (h : FlR A n t l i bs) (hi : i ≤ 100) (ht : t ≤ 100) (hll : l.length ≤ 100) :
    (A.doRead 0 0 0).2 = (some (if i < t then tbs bs l else bs), 0) ∧ FlR (A.doRead 0 0 0).1 n t l (i + 1) bs := by
  have hn : A.num < A.dead 0 := by rw [h.num, h.dead]; unfold never; omega
  have hc : A.cuts A.num = none := h.cuts _
  have hb2 : Bd (A.tick 0) (3 * i + 9 + 1) := h.bd.tick 0
  have hlen : (A.blk 0 0).flips.length = 1 := by rw [h.fl]; rfl
  have hnth : nthF (A.blk 0 0).flips 0 = ⟨0, 0, ((t - min i t : Nat) : Int), l⟩ := by rw [h.fl]; rfl
  have hpage : pageS A.Y ((A.blk 0 0).pages 0) = bs := by rw [h.pg]; rfl
  have ht3 : (A.tick 0).cnt 3 = A.cnt 3 := rfl
  have htk : (A.tick 0).blk 0 0 = A.blk 0 0 := rfl
  have hokt : FlOk (A.tick 0) := h.ok
  have hmul : min i t * l.length ≤ 100 * 100 := Nat.mul_le_mul (by omega) hll
  unfold St.doRead
  rw [hc]
  simp only [hn, if_true, hlen, hpage]
  have eB : turnsB (A.blk 0 0).flips A.num 0 bs 1 = turnB (nthF (A.blk 0 0).flips 0) A.num 0 bs := rfl
  have eA : (A.tick 0).turns A.num 0 0 0 1 = (A.tick 0).turn A.num 0 0 0 0 := rfl
  rw [eB, eA]
  by_cases hit : i < t
  · have hh : (nthF (A.blk 0 0).flips 0).hit 0 A.num := by
      rw [hnth]
      exact ⟨rfl, by show (0 : Int) ≤ A.num; rw [h.num]; omega, by show ((t - min i t : Nat) : Int) ≠ 0; omega⟩
    have e1 : turnB (nthF (A.blk 0 0).flips 0) A.num 0 bs = tbs bs l := by
      unfold turnB; rw [if_pos hh, hnth]
    have hokT := hokt.turn A.num (d := 0) (b := 0) (p := 0) (k := 0) (by rw [htk, hlen]; decide)
    have e2 : (A.tick 0).turn A.num 0 0 0 0 = ((A.tick 0).upB 0 0 (Blk.decF 0)).setCnt 3 (A.cnt 3 + (l.length : Int)) := by
      unfold St.turn
      rw [htk, if_pos hh, hnth, ht3]
      show ((A.tick 0).upB 0 0 (Blk.decF 0)).setCnt 3 (wr (A.cnt 3 + (l.length : Int))) = _
      rw [wr_in (by rw [h.c3]; omega) (by rw [h.c3]; omega)]
    rw [e2] at hokT ⊢
    rw [e1, if_pos hit]
    have ebk : (((A.tick 0).upB 0 0 (Blk.decF 0)).setCnt 3 (A.cnt 3 + (l.length : Int))).blk 0 0 = Blk.decF 0 (A.blk 0 0) := upB_same (A.tick 0) 0 0 (Blk.decF 0)
    refine ⟨rfl, h.on, h.cuts, h.dead, ?_, hokT, h.d, h.b, h.p, h.y, ?_, ?_, ?_, ?_⟩
    · rw [ebk]
      show (A.blk 0 0).flips.set 0 (nthF (A.blk 0 0).flips 0).dec = _
      rw [hnth, h.fl]
      show [(⟨0, 0, ((t - min i t : Nat) : Int) - 1, l⟩ : Flip)] = _
      rw [show ((t - min i t : Nat) : Int) - 1 = ((t - min (i + 1) t : Nat) : Int) by omega]
    · show (A.tick 0).num = _
      rw [tick_num A 0 (by decide), h.num]
      omega
    · rw [ebk]; exact h.pg
    · show A.cnt 3 + (l.length : Int) = _
      rw [h.c3, show min (i + 1) t = min i t + 1 by omega, Nat.add_mul]
      omega
    · have := hb2.up 0 0 (f := Blk.decF 0) rfl (hb2.nx 0 0)
      refine ⟨fun j hj => ?_, fun d b => ⟨(this.er d b).1, Int.le_trans (this.er d b).2 (by omega)⟩, this.nx, this.cu⟩
      have := this.cnt j hj
      show 0 ≤ (if j = 3 then _ else ((A.tick 0).upB 0 0 (Blk.decF 0)).cnt j) ∧ (if j = 3 then _ else ((A.tick 0).upB 0 0 (Blk.decF 0)).cnt j) ≤ _
      rw [if_neg hj]
      exact ⟨this.1, by omega⟩
  · have hh : ¬ (nthF (A.blk 0 0).flips 0).hit 0 A.num := by
      rw [hnth]
      rintro ⟨_, _, hz⟩
      apply hz
      show ((t - min i t : Nat) : Int) = 0
      omega
    have e1 : turnB (nthF (A.blk 0 0).flips 0) A.num 0 bs = bs := by
      unfold turnB; rw [if_neg hh]
    have e2 : (A.tick 0).turn A.num 0 0 0 0 = A.tick 0 := by
      unfold St.turn
      rw [htk, if_neg hh]
    rw [e2, e1, if_neg hit]
    refine ⟨rfl, h.on, h.cuts, h.dead, ?_, hokt, h.d, h.b, h.p, h.y, ?_, h.pg, ?_, hb2.mono (by omega)⟩
    · rw [htk, h.fl, show t - min (i + 1) t = t - min i t by omega]
    · rw [tick_num A 0 (by decide), h.num]
      omega
    · rw [ht3, h.c3, show min (i + 1) t = min i t by omega]
end Nd
end Go.Proofs.Ytojamicakkecbaa
