/- Layer 8 (record): the document's bytes of a record; refusals. -/
import Derived.Test.YtfmkmfjmhpgglaaDoorRb
import Derived.Test.YtfmkmfjmhpgglaaDoorXi
namespace Go.Proofs.YtfmkmfjmhpgglaaDoor
open Go.RowKit
namespace Rc
open Cr
set_option maxHeartbeats 1600000 in
theorem low_ok {w : World} (n : Nat) :
    Calls Tryd.prog 18 #[q64 n] w fun e w' => ∃ v', e = .returned v' ∧ OwnF w w' v' (leB n 8) := by
  obtain ⟨i0, hi, hz0, hz1, hz2⟩ := info_parts Tryd.info5
  go_enter Tryd.func18, Tryd.ntmps18
  go_wp2_with fail
  go_loopw [3, 4] (fun u i wr => ∃ (j : Nat), j ≤ 8 ∧ i = num j ∧ OwnF w wr u (leB n j)) (fun _ i _ => 8 - (intOf i).toNat)
  case atStart => exact ⟨0, Nat.zero_le _, rfl, OwnF.nil (grownBy_refl _ _)⟩
  case round =>
    obtain ⟨j, hj, rfl, hO⟩ := hrel
    by_cases hjl : j < 8
    · have q1 : (j : Int) < 8 := by omega
      obtain ⟨B, hB⟩ : ∃ B, B = n / 2 ^ (8 * j) % 256 := ⟨_, rfl⟩
      have hB2 : B ≤ 255 := by have := Nat.mod_lt (n / 2 ^ (8 * j)) (show 256 > 0 by decide); omega
      have HB : Hid ((n : Int) / 2 ^ (8 * j) % 256 = (B : Int)) := by rw [Hid, hB]; simp
      have hgA := World.grownBy_alloc wr (.cells #[.int .u8 (B : Int)] 5) none
      have hOA := hO.more hgA
      have hBL : (leB n j).length ≤ 200000 := by rw [leB_len]; omega
      have HNx : Hid (leB n (j + 1) = (leB n j) ++ [B]) := by rw [Hid, leB_next, hB]
      generalize leB n j = cs at hOA hBL HNx
      have HOw : Hid _ := hOA.own
      have HBs : Hid (w.heap.size ≤ (wr.alloc (.cells #[.int .u8 (B : Int)] 5)).heap.size) := hOA.gr.size
      have HOA : Hid _ := hOA
      clear hO hOA hgA hB
      go_wp2_with (first | rw [HB.out] | (at_builtin; refine wpList_append_own _ rfl (.tmp 9) (.tmp 16) 25 rfl w.heap.size 5 i0 (.int .u8 0) 1 1 Tryd.underlying25 hi hz0 hz1 hz2 rfl (by decide) _ cs.length (valsB cs) rfl HOw.out ⟨wr.heap.size, 0, none⟩ 1 1 [.int .u8 (B : Int)] rfl rfl (cell_one_new _ _ _) (fun u hu => by rw [List.mem_singleton] at hu; subst hu; rfl) (by unfold maxLen; omega) (by omega) HBs.out ?_; intro v5 w5 hown5 hg5 _))
      have HO5 : Hid (OwnF w w5 v5 (leB n (j + 1))) := by rw [Hid, HNx.out]; exact HOA.out.app (nth_one B hB2) hown5 hg5
      clear HOA HOw HBs HNx hown5 hg5
      go_wp2
      go_roundw
      case rel => exact ⟨j + 1, by omega, by go_num, HO5.out⟩
      case measure => simp [intOf]; omega
    · obtain rfl : j = 8 := by omega
      go_wp2
      go_ret
      exact ⟨_, rfl, hO⟩
theorem Bytes_no {w : World} {r : Rec} (hm : ¬ MayR r) : Calls Tryd.prog 8 #[recV r] w fun e w' => e = .returned (.tuple #[.slice none 0 0, num 1]) ∧ w.grownBy w' none := by
  have hgW : w.grownBy (w.alloc (recL r)) none := World.grownBy_alloc w _ none
  have HMB : Hid (∀ W : World, Calls Tryd.prog 16 #[recV r] W fun e w' => e = .returned (.bool false) ∧ W.grownBy w' none) := fun W => by
    have := mayBe_ok (w := W) r
    rwa [decide_eq_false hm] at this
  have HgW : Hid _ := hgW
  clear hgW hm
  go_enter Tryd.func8, Tryd.ntmps8
  go_wp2_with fail
  refine (HMB.out _).mono ?_
  rintro e w1 ⟨rfl, hg1⟩
  have hgw1 := grownBy_trans HgW.out hg1
  go_wp2
  exact bodyPost_ret (v := .tuple #[.slice none 0 0, num 1]) (by simp [results, Tryd.f8, go_sem]) rfl ⟨rfl, hgw1⟩
theorem kBytes_no {w : World} {r : Rec} (hm : ¬ MayR r) : Calls Tryd.prog 9 #[recV r] w fun e w' => e = .returned (.tuple #[.slice none 0 0, num 1]) ∧ w.grownBy w' none := by
  have hgW : w.grownBy (w.alloc (recL r)) none := World.grownBy_alloc w _ none
  have HgW : Hid _ := hgW
  clear hgW
  obtain ⟨k, s, a, b, c⟩ := r
  by_cases h1 : k < 1
  · go_enter Tryd.func9, Tryd.ntmps9
    go_wp2
    exact bodyPost_ret (v := .tuple #[.slice none 0 0, num 1]) (by simp [results, Tryd.f9, go_sem]) rfl ⟨rfl, HgW.out⟩
  · have h2 : 4 < k := by simp only [MayR] at hm; omega
    go_enter Tryd.func9, Tryd.ntmps9
    go_wp2
    exact bodyPost_ret (v := .tuple #[.slice none 0 0, num 1]) (by simp [results, Tryd.f9, go_sem]) rfl ⟨rfl, HgW.out⟩
set_option maxHeartbeats 3200000 in
theorem kBytes_ok {w : World} {r : Rec} (hm : MayR r) :
    Calls Tryd.prog 9 #[recV r] w fun e w' => ∃ ao cap, e = .returned (.tuple #[.slice ao 37 cap, num 0]) ∧ RdB w' ao (recB r ++ le4 (crc (recB r))) ∧ w.grownBy w' none := by
  obtain ⟨h1, h2⟩ := hm
  obtain ⟨kn, hkn⟩ : ∃ kn : Nat, r.kind = kn := ⟨r.kind.toNat, by omega⟩
  obtain ⟨k, s, a, b, c⟩ := r
  simp only at hkn h1 h2
  subst hkn
  have k4 : kn ≤ 4 := by omega
  have q1 : ¬ (kn : Int) < 1 := by omega
  have q2 : ¬ (4 : Int) < (kn : Int) := by omega
  have hu : IntKind.u8.wrap (kn : Int) = (kn : Int) := by rw [IntKind.wrap_u8]; omega
  have HP : Hid (pre ⟨kn, s, a, b, c⟩ 0 = [kn]) := by simp [Hid, pre]
  obtain ⟨R, hR⟩ : ∃ R : Rec, R = ⟨kn, s, a, b, c⟩ := ⟨_, rfl⟩
  obtain ⟨U, hU⟩ : ∃ U, U = w.alloc (recL ⟨kn, s, a, b, c⟩) := ⟨_, rfl⟩
  have hgU : w.grownBy U none := by rw [hU]; exact World.grownBy_alloc w _ none
  have obU : U.heap[w.heap.size]? = some (recL ⟨kn, s, a, b, c⟩) := by rw [hU]; exact heap_alloc_new w _
  have hszU : U.heap.size = w.heap.size + 1 := by rw [hU]; simp
  obtain ⟨V, hV⟩ : ∃ V, V = U.alloc (.cells #[q8 kn] 5) := ⟨_, rfl⟩
  have hgV : U.grownBy V none := by rw [hV]; exact World.grownBy_alloc _ _ none
  have hbV : V.heap[w.heap.size + 1]? = some (.cells #[q8 kn] 5) := by
    have := heap_alloc_new U (.cells #[q8 kn] 5)
    rw [hV, ← hszU]; exact this
  have hO0 : OwnF U V (.slice (some ⟨w.heap.size + 1, 0, none⟩) 1 1) (pre R 0) := by
    rw [hR, HP.out]
    exact OwnF.laid (bs := [kn]) hgV (by omega) hbV (by simp) (nth_one _ (by omega))
  have HVw : Hid (V = (w.alloc (recL ⟨kn, s, a, b, c⟩)).alloc (.cells #[q8 kn] 5)) := by rw [Hid, hV, hU]
  have HCell : Hid (∀ wr : World, U.grownBy wr none → wr.cell? ⟨w.heap.size, 1, none⟩ = some (q64 s) ∧ wr.cell? ⟨w.heap.size, 2, none⟩ = some (q64 a) ∧ wr.cell? ⟨w.heap.size, 3, none⟩ = some (q64 b) ∧ wr.cell? ⟨w.heap.size, 4, none⟩ = some (q64 c)) := fun wr hg => by
    have := obj_more obU hg
    exact ⟨cell_at this rfl, cell_at this rfl, cell_at this rfl, cell_at this rfl⟩
  have HPre : Hid (pre R 4 = recB R) := pre_four R
  have HLe : Hid (∀ j, (pre R j).length = 1 + 8 * j) := pre_len R
  have hnx : pre R 1 = pre R 0 ++ leB s 8 ∧ pre R 2 = pre R 1 ++ leB a 8 ∧ pre R 3 = pre R 2 ++ leB b 8 ∧ pre R 4 = pre R 3 ++ leB c 8 := by rw [hR]; exact ⟨rfl, rfl, rfl, rfl⟩
  obtain ⟨x1, x2, x3, x4⟩ := hnx
  have HX0 : Hid _ := x1
  have HX1 : Hid _ := x2
  have HX2 : Hid _ := x3
  have HX3 : Hid _ := x4
  have HR : Hid _ := hR
  have HgU : Hid _ := hgU
  obtain ⟨e0, _, _, _⟩ := HCell.out V hgV
  have HO0 : Hid _ := hO0
  clear hV hbV hO0 HP hgV obU hU hR x1 x2 x3 x4 hszU hgU
  go_enter Tryd.func9, Tryd.ntmps9
  go_wp2_with (rw [← HVw.out])
  refine (low_ok s).mono ?_
  rintro e A0 ⟨lv, rfl, hL0⟩
  have hOa0 := HO0.out.more hL0.gr
  obtain ⟨la0, lc0, rfl, lrd0, _, lnil0⟩ := hL0.rd
  have lb0 : (pre R 0).length + (leB s 8).length ≤ 140737488355328 := by rw [HLe.out, leB_len]; omega
  have HOa0 : Hid _ := hOa0
  have HLr0 : Hid _ := lrd0
  clear hOa0 hL0 lrd0 e0
  go_wp2_with (at_builtin; refine wpList_append_more rfl (.tmp 17) (.tmp 20) rfl _ (pre R 0) rfl HOa0.out.own HOa0.out.gr.size la0 (leB s 8) lc0 rfl HLr0.out lb0 lnil0 ?_; intro v1 W1 hown1 hg1; have HO1 : Hid (OwnF U W1 v1 (pre R 1)) := (HX0.out ▸ OwnF.mk (own_step HOa0.out.gr HOa0.out.own hg1) hown1 (nth_app_le HOa0.out.le (leB_le _ _))); have e1 : W1.cell? ⟨w.heap.size, 2, none⟩ = some (q64 a) := (HCell.out W1 HO1.out.gr).2.1; clear HOa0 HLr0 hown1 hg1 lb0 lnil0)
  refine (low_ok a).mono ?_
  rintro e A1 ⟨lv, rfl, hL1⟩
  have hOa1 := HO1.out.more hL1.gr
  obtain ⟨la1, lc1, rfl, lrd1, _, lnil1⟩ := hL1.rd
  have lb1 : (pre R 1).length + (leB a 8).length ≤ 140737488355328 := by rw [HLe.out, leB_len]; omega
  have HOa1 : Hid _ := hOa1
  have HLr1 : Hid _ := lrd1
  clear hOa1 hL1 lrd1 e1
  go_wp2_with (at_builtin; refine wpList_append_more rfl (.tmp 22) (.tmp 25) rfl _ (pre R 1) rfl HOa1.out.own HOa1.out.gr.size la1 (leB a 8) lc1 rfl HLr1.out lb1 lnil1 ?_; intro v2 W2 hown2 hg2; have HO2 : Hid (OwnF U W2 v2 (pre R 2)) := (HX1.out ▸ OwnF.mk (own_step HOa1.out.gr HOa1.out.own hg2) hown2 (nth_app_le HOa1.out.le (leB_le _ _))); have e2 : W2.cell? ⟨w.heap.size, 3, none⟩ = some (q64 b) := (HCell.out W2 HO2.out.gr).2.2.1; clear HOa1 HLr1 hown2 hg2 lb1 lnil1)
  refine (low_ok b).mono ?_
  rintro e A2 ⟨lv, rfl, hL2⟩
  have hOa2 := HO2.out.more hL2.gr
  obtain ⟨la2, lc2, rfl, lrd2, _, lnil2⟩ := hL2.rd
  have lb2 : (pre R 2).length + (leB b 8).length ≤ 140737488355328 := by rw [HLe.out, leB_len]; omega
  have HOa2 : Hid _ := hOa2
  have HLr2 : Hid _ := lrd2
  clear hOa2 hL2 lrd2 e2
  go_wp2_with (at_builtin; refine wpList_append_more rfl (.tmp 27) (.tmp 30) rfl _ (pre R 2) rfl HOa2.out.own HOa2.out.gr.size la2 (leB b 8) lc2 rfl HLr2.out lb2 lnil2 ?_; intro v3 W3 hown3 hg3; have HO3 : Hid (OwnF U W3 v3 (pre R 3)) := (HX2.out ▸ OwnF.mk (own_step HOa2.out.gr HOa2.out.own hg3) hown3 (nth_app_le HOa2.out.le (leB_le _ _))); have e3 : W3.cell? ⟨w.heap.size, 4, none⟩ = some (q64 c) := (HCell.out W3 HO3.out.gr).2.2.2; clear HOa2 HLr2 hown3 hg3 lb2 lnil2)
  refine (low_ok c).mono ?_
  rintro e A3 ⟨lv, rfl, hL3⟩
  have hOa3 := HO3.out.more hL3.gr
  obtain ⟨la3, lc3, rfl, lrd3, _, lnil3⟩ := hL3.rd
  have lb3 : (pre R 3).length + (leB c 8).length ≤ 140737488355328 := by rw [HLe.out, leB_len]; omega
  have HOa3 : Hid _ := hOa3
  have HLr3 : Hid _ := lrd3
  clear hOa3 hL3 lrd3 e3
  go_wp2_with (at_builtin; refine wpList_append_more rfl (.tmp 32) (.tmp 35) rfl _ (pre R 3) rfl HOa3.out.own HOa3.out.gr.size la3 (leB c 8) lc3 rfl HLr3.out lb3 lnil3 ?_; intro v4 W4 hown4 hg4; have HO4 : Hid (OwnF U W4 v4 (pre R 4)) := (HX3.out ▸ OwnF.mk (own_step HOa3.out.gr HOa3.out.own hg4) hown4 (nth_app_le HOa3.out.le (leB_le _ _))); have e4 : W4.cell? ⟨w.heap.size, 4, none⟩ = some (q64 c) := (HCell.out W4 HO4.out.gr).2.2.2; clear HOa3 HLr3 hown4 hg4 lb3 lnil3)
  clear e4
  have hO := HO4.out
  rw [HPre.out] at hO
  obtain ⟨ao, cap, rfl, hrd, hcap, hnil⟩ := hO.rd
  have hgr := hO.gr
  have HS := kSeal_ok ao cap (recB R) hrd hnil (by rw [recB_len]; omega)
  rw [recB_len] at HS ⊢
  have HS' : Hid (Calls Tryd.prog 10 #[.slice ao 33 cap] W4 fun e w' => RowPost W4 (recB R ++ le4 (crc (recB R))) e w') := HS
  clear HS hO hrd HO4
  go_wp2_with fail
  refine HS'.out.mono ?_
  rintro e w6 ⟨ao6, cap6, rfl, hrd6, hgr6⟩
  have hl : (recB R ++ le4 (crc (recB R))).length = 37 := by rw [List.length_append, recB_len]; rfl
  rw [hl]
  clear hl
  go_wp2
  exact bodyPost_ret (v := .tuple #[.slice ao6 37 cap6, num 0]) (by simp [results, Tryd.f9, go_sem]) rfl ⟨ao6, cap6, rfl, by rw [← HR.out]; exact hrd6, grownBy_trans HgU.out (grownBy_trans hgr hgr6)⟩
end Rc
end Go.Proofs.YtfmkmfjmhpgglaaDoor
