/- Layer 8 (record): which records may be; a record's bytes. -/
import Derived.Test.YtfmkmfjmhpgglaaDoorRa
namespace Go.Proofs.YtfmkmfjmhpgglaaDoor
open Go.RowKit
namespace Rc
open Cr
theorem mayBe_ok {w : World} (r : Rec) : Calls Tryd.prog 16 #[recV r] w fun e w' => e = .returned (.bool (decide (MayR r))) ∧ w.grownBy w' none := by
  obtain ⟨k, s, a, b, c⟩ := r
  have hg : w.grownBy (w.alloc (recL ⟨k, s, a, b, c⟩)) none := World.grownBy_alloc w _ none
  have HG : Hid _ := hg
  by_cases h1 : 1 ≤ k
  · by_cases h2 : k ≤ 4
    · have hM : decide (MayR ⟨k, s, a, b, c⟩) = true := by simp [MayR, h1, h2]
      rw [hM]
      clear hg hM
      go_enter Tryd.func16, Tryd.ntmps16
      go_wp2
      go_ret
      exact ⟨rfl, HG.out⟩
    · have hM : decide (MayR ⟨k, s, a, b, c⟩) = false := by simp [MayR, h2]
      rw [hM]
      clear hg hM
      go_enter Tryd.func16, Tryd.ntmps16
      go_wp2
      go_ret
      exact ⟨rfl, HG.out⟩
  · have hM : decide (MayR ⟨k, s, a, b, c⟩) = false := by simp [MayR, h1]
    rw [hM]
    clear hg hM
    go_enter Tryd.func16, Tryd.ntmps16
    go_wp2
    go_ret
    exact ⟨rfl, HG.out⟩
def Rec.get (r : Rec) : Nat → Nat
  | 0 => r.seq
  | 1 => r.a
  | 2 => r.b
  | _ => r.c
/-- The kind, and the first numbers. -/
def pre (r : Rec) : Nat → List Nat
  | 0 => [r.kind.toNat]
  | j + 1 => pre r j ++ leB (r.get j) 8
theorem pre_four (r : Rec) : pre r 4 = recB r := rfl
theorem pre_len (r : Rec) : ∀ j, (pre r j).length = 1 + 8 * j
  | 0 => rfl
  | j + 1 => by rw [pre, List.length_append, pre_len r j, leB_len]; omega
theorem ix0 (w : World) (k : IntKind) (a b c d : Value) : (Instr.index 44 (.agg #[a, b, c, d]) (.int k 0)).run Tryd.prog w = .ok a w := by
  simp [Instr.index, asIntOf, run_underlying Tryd.underlying44, part, go_sem]
theorem ix1 (w : World) (k : IntKind) (a b c d : Value) : (Instr.index 44 (.agg #[a, b, c, d]) (.int k 1)).run Tryd.prog w = .ok b w := by
  simp [Instr.index, asIntOf, run_underlying Tryd.underlying44, part, go_sem]
theorem ix2 (w : World) (k : IntKind) (a b c d : Value) : (Instr.index 44 (.agg #[a, b, c, d]) (.int k 2)).run Tryd.prog w = .ok c w := by
  simp [Instr.index, asIntOf, run_underlying Tryd.underlying44, part, go_sem]
theorem ix3 (w : World) (k : IntKind) (a b c d : Value) : (Instr.index 44 (.agg #[a, b, c, d]) (.int k 3)).run Tryd.prog w = .ok d w := by
  simp [Instr.index, asIntOf, run_underlying Tryd.underlying44, part, go_sem]
attribute [local go_sem] ix0 ix1 ix2 ix3
set_option maxHeartbeats 3200000 in
theorem Bytes_ok {w : World} (hG : Glob w) {r : Rec} (hm : MayR r) :
    Calls Tryd.prog 8 #[recV r] w fun e w' => ∃ g, e = .returned (.tuple #[.slice (some ⟨g, 0, none⟩) 37 37, num 0]) ∧ w.heap.size ≤ g ∧ w.grownBy w' none ∧ OwnB w' g (recB r ++ le4 (crc (recB r))) [] := by
  obtain ⟨i0, hi, hz0, hz1, hz2⟩ := info_parts Tryd.info5
  have hle := recB_le hm
  have hbm := hm
  obtain ⟨h1, h2⟩ := hm
  obtain ⟨kn, hkn⟩ : ∃ kn : Nat, r.kind = kn := ⟨r.kind.toNat, by omega⟩
  obtain ⟨k, s, a, b, c⟩ := r
  simp only at hkn h1 h2
  subst hkn
  have k4 : kn ≤ 4 := by omega
  have HMB : Hid (∀ W : World, Calls Tryd.prog 16 #[recV ⟨kn, s, a, b, c⟩] W fun e w' => e = .returned (.bool true) ∧ W.grownBy w' none) := fun W => by
    have := mayBe_ok (w := W) ⟨kn, s, a, b, c⟩
    rwa [decide_eq_true hbm] at this
  have hp0 : pre ⟨kn, s, a, b, c⟩ 0 = [kn] := by simp [pre]
  have HP : Hid _ := hp0
  have HL : Hid _ := hle
  have HGl : Hid _ := hG
  have hgW : w.grownBy (w.alloc (recL ⟨kn, s, a, b, c⟩)) none := World.grownBy_alloc w _ none
  have hbx : (w.alloc (recL ⟨kn, s, a, b, c⟩)).heap[w.heap.size]? = some (recL ⟨kn, s, a, b, c⟩) := heap_alloc_new w _
  have HgW : Hid _ := hgW
  have HbX : Hid _ := hbx
  clear hG hle hp0 hbm h1 h2 hgW hbx
  go_enter Tryd.func8, Tryd.ntmps8
  go_wp2_with fail
  refine (HMB.out _).mono ?_
  rintro e w1 ⟨rfl, hg1⟩
  have hgw1 := grownBy_trans HgW.out hg1
  have ob1 := obj_more HbX.out hg1
  have d0' : w1.cell? ⟨w.heap.size, 0, none⟩ = some (num kn) := cell_at ob1 rfl
  have hu : IntKind.u8.wrap (kn : Int) = (kn : Int) := by rw [IntKind.wrap_u8]; omega
  obtain ⟨V, hV⟩ : ∃ V, V = w1.alloc (.cells #[q8 kn] 5) := ⟨_, rfl⟩
  have hgV : w1.grownBy V none := by rw [hV]; exact World.grownBy_alloc w1 _ none
  have hbV : V.heap[w1.heap.size]? = some (.cells #[q8 kn] 5) := by rw [hV]; exact heap_alloc_new w1 _
  have hsz := hgw1.size
  have hO0 : OwnF w V (.slice (some ⟨w1.heap.size, 0, none⟩) 1 1) (pre ⟨kn, s, a, b, c⟩ 0) := by
    rw [HP.out]
    exact OwnF.laid (bs := [kn]) (grownBy_trans hgw1 hgV) hsz hbV (by simp) (nth_one _ (by omega))
  have obV := obj_more ob1 hgV
  have e1 : V.cell? ⟨w.heap.size, 1, none⟩ = some (q64 s) := cell_at obV rfl
  have e2 : V.cell? ⟨w.heap.size, 2, none⟩ = some (q64 a) := cell_at obV rfl
  have e3 : V.cell? ⟨w.heap.size, 3, none⟩ = some (q64 b) := cell_at obV rfl
  have e4 : V.cell? ⟨w.heap.size, 4, none⟩ = some (q64 c) := cell_at obV rfl
  have HV : Hid _ := hV
  clear HMB hV hgV hbV obV hg1 ob1
  go_wp2_with (rw [← HV.out])
  clear e1 e2 e3 e4 HV d0' hu HP
  obtain ⟨R, hR⟩ : ∃ R : Rec, R = ⟨kn, s, a, b, c⟩ := ⟨_, rfl⟩
  rw [← hR] at hO0 HL HgW HbX ⊢
  have HR : Hid _ := hR
  clear hR
  go_loopw [24, 4] (fun i v wr => ∃ j : Nat, j ≤ 4 ∧ i = num j ∧ OwnF w wr v (pre R j)) (fun i _ _ => 4 - (intOf i).toNat)
  case atStart => exact ⟨0, Nat.zero_le _, rfl, hO0⟩
  case round =>
    clear hO0 hgw1 hsz
    obtain ⟨j, hj, rfl, hO⟩ := hrel
    by_cases hj4 : j < 4
    · have q1 : (j : Int) < 4 := by omega
      obtain ⟨n, hn⟩ : ∃ n, n = R.get j := ⟨_, rfl⟩
      have HN : Hid (pre R (j + 1) = pre R j ++ leB n 8) := by rw [hn]; rfl
      have hcl : (pre R j).length ≤ 100 := by rw [pre_len]; omega
      rw [HR.out] at hn
      generalize pre R j = cs at hO HN hcl
      have HCl : Hid _ := hcl
      clear hcl
      rcases (show j = 0 ∨ j = 1 ∨ j = 2 ∨ j = 3 by omega) with rfl | rfl | rfl | rfl <;> (
        simp only [Rec.get] at hn
        subst hn
        clear q1 hj4 hj
        simp only [show ((0 : Nat) : Int) = 0 from rfl, show ((1 : Nat) : Int) = 1 from rfl, show ((2 : Nat) : Int) = 2 from rfl, show ((3 : Nat) : Int) = 3 from rfl]
        go_wp2_with fail
        go_loopw [27, 4] (fun i v wr => ∃ j : Nat, j ≤ 8 ∧ i = num j ∧ OwnF w wr v (cs ++ leB n j)) (fun i _ _ => 8 - (intOf i).toNat)
        case atStart => exact ⟨0, Nat.zero_le _, rfl, by simpa [leB_zero] using hO⟩
        case round =>
          clear hO
          obtain ⟨i, hi8, rfl, hO⟩ := hrel
          by_cases hil : i < 8
          · have q1 : (i : Int) < 8 := by omega
            obtain ⟨B, hB⟩ : ∃ B, B = n / 2 ^ (8 * i) % 256 := ⟨_, rfl⟩
            have hB2 : B ≤ 255 := by have := Nat.mod_lt (n / 2 ^ (8 * i)) (show 256 > 0 by decide); omega
            have HB : Hid ((n : Int) / 2 ^ (8 * i) % 256 = (B : Int)) := by rw [Hid, hB]; simp
            have hgA := World.grownBy_alloc wr (.cells #[.int .u8 (B : Int)] 5) none
            have hOA := hO.more hgA
            have hBL : (cs ++ leB n i).length ≤ 200000 := by have := HCl.out; rw [List.length_append, leB_len]; omega
            have HNx : Hid (cs ++ leB n (i + 1) = (cs ++ leB n i) ++ [B]) := by rw [Hid, leB_next, hB, List.append_assoc]
            generalize cs ++ leB n i = ds at hOA hBL HNx
            have HOw : Hid _ := hOA.own
            have HBs : Hid (w.heap.size ≤ (wr.alloc (.cells #[.int .u8 (B : Int)] 5)).heap.size) := hOA.gr.size
            have HOA : Hid _ := hOA
            clear hO hOA hgA hB
            go_wp2_with (first | rw [HB.out] | (at_builtin; refine wpList_append_own _ rfl (.tmp 30) (.tmp 36) 25 rfl w.heap.size 5 i0 (.int .u8 0) 1 1 Tryd.underlying25 hi hz0 hz1 hz2 rfl (by decide) _ ds.length (valsB ds) rfl HOw.out ⟨wr.heap.size, 0, none⟩ 1 1 [.int .u8 (B : Int)] rfl rfl (cell_one_new _ _ _) (fun u hu => by rw [List.mem_singleton] at hu; subst hu; rfl) (by unfold maxLen; omega) (by omega) HBs.out ?_; intro v5 w5 hown5 hg5 _))
            have HO5 : Hid (OwnF w w5 v5 (cs ++ leB n (i + 1))) := by rw [Hid, HNx.out]; exact HOA.out.app (nth_one B hB2) hown5 hg5
            clear HOA HOw HBs HNx hown5 hg5
            go_wp2
            go_roundw
            case rel => exact ⟨i + 1, by omega, by go_num, HO5.out⟩
            case measure => simp [intOf]; omega
          · obtain rfl : i = 8 := by omega
            rw [← HN.out] at hO
            go_wp2
            go_roundw
            case rel => exact ⟨_, by omega, by go_num, hO⟩
            case measure => simp [intOf])
    · obtain rfl : j = 4 := by omega
      rw [pre_four] at hO
      obtain ⟨ao, cap, rfl, hrd, hcap, hnil⟩ := hO.rd
      have hgr := hO.gr
      have HS := seal_ok (Glob.more HGl.out hgr) ao cap (recB R) hrd (by rw [recB_len]; omega)
      rw [recB_len] at HS
      have HS' : Hid (Calls Tryd.prog 17 #[.slice ao 33 cap] wr fun e w' => SealPost wr (recB R) e w') := HS
      clear HS hO hrd
      rw [recB_len]
      go_wp2_with fail
      refine HS'.out.mono ?_
      rintro e w6 ⟨g, rfl, hg6, hgr6, hO6⟩
      rw [recB_len]
      have := hgr.size
      go_wp2
      exact bodyPost_ret (v := .tuple #[.slice (some ⟨g, 0, none⟩) 37 37, num 0]) (by simp [results, Tryd.f8, go_sem]) rfl ⟨g, rfl, by omega, grownBy_trans hgr hgr6, by rw [← HR.out]; exact hO6⟩
end Rc
end Go.Proofs.YtfmkmfjmhpgglaaDoor
