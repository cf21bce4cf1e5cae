/- The walk of GfLeast. -/
import Derived.Test.YtnpfjjnkbhkpaaaDoorLay
import Derived.Test.YtnpfjjnkbhkpaaaDoorRfc
namespace Go.Proofs.YtnpfjjnkbhkpaaaDoor
open Go.RowKit Gf
theorem fieldless {w w' : World} {b m : Nat} (h : Fld w b m) (hg : w.grownBy w' none) : Fld w' b m ∧ Step b w w' := ⟨h.more hg, h.step_more hg⟩
set_option maxHeartbeats 1600000 in
theorem law_GfLeast (c : Int) (hc : I64 c) (n : Int) (_hn : I64 n) (t : Int) (_ht : I64 t) (w : World) (hG : Glob w) (h0 : 0 < w.heap.size) :
    Calls Tryd.prog 6 #[num c, num n, num t] w fun e w' => e = .returned (.bool true) ∧ w.grownBy w' none := by
  have hn := hnot
  have hem := pick_em c
  obtain ⟨m, hm⟩ : ∃ m, m = pickS c := ⟨_, rfl⟩
  have HM : Hid (m = pickS c) := hm
  rw [← hm] at hem
  clear hm
  have hsz := sz_bd hem
  have hm2 := hem.2
  have hml := minS_len m n
  by_cases hbad : t < 1 ∨ 8 < t ∨ (sz m : Int) < 2 * t
  · have HB : Hid _ := hbad
    clear hbad
    go_enter Tryd.func6, Tryd.ntmps6
    go_wp2_with fail
    refine (awake_ok w hG h0).mono ?_
    rintro e w1 ⟨rfl, hg1⟩
    have hF := Fld_new hem (hG.kept (hg1.block 0 h0 (by simp))) (show 0 < w1.heap.size by have := hg1.size; omega)
    go_wp2_with fail
    refine (field_ok c hc _).mono ?_
    rintro e w2 ⟨rfl, rfl⟩
    rw [← HM.out]
    go_wp2_with fail
    refine (generator_no hF t HB.out).mono ?_
    rintro e w2 ⟨rfl, rfl⟩
    go_wp2_with fail
    refine (rGenerator_no hem _ t HB.out).mono ?_
    rintro e w2 ⟨rfl, rfl⟩
    go_wp2_with fail
    refine (minimal_ok hF n).mono ?_
    rintro e w3 ⟨v3, rfl, hR3, hF3, hs3⟩
    go_wp2_with fail
    refine (rMinimal_ok (b := w1.heap.size) hem hF3.lt n).mono ?_
    rintro e w4 ⟨v4, rfl, hG4, hg4⟩
    obtain ⟨hF4, hs4⟩ := fieldless hF3 hg4
    obtain ⟨a3, c3, rfl, hRd3⟩ := hR3.rd
    obtain ⟨a4, c4, rfl, hRd4⟩ := hG4.rd hF3.lt
    go_wp2_with fail
    refine (same_ok a3 a4 c3 c4 (ints (minS m n)) (ints (minS m n)) (hRd3.step hs4) hRd4 (by rw [ints_len]; omega) (by rw [ints_len]; omega)).mono ?_
    rintro e w5 ⟨rfl, n5, rfl⟩
    go_wp2_with fail
    refine (same_ok (b := 0) (c := 0) none none 0 0 [] [] (.inl rfl) (.inl rfl) (by simp) (by simp)).mono ?_
    rintro e w6 ⟨rfl, n6, rfl⟩
    go_wp2_with fail
    go_ret
    exact ⟨by simp, grownBy_drewN (grownBy_trans hg1 (hs3.trans hs4).since) _⟩
  · obtain ⟨T, rfl⟩ := Int.eq_ofNat_of_zero_le (show 0 ≤ t by omega)
    have hT1 : 1 ≤ T := by omega
    have hT2 : T ≤ 8 := by omega
    have hT3 : 2 * T ≤ sz m := by omega
    have hgl := genGo_len hem (2 * T)
    have hgl' : (genS m T).length ≤ 1000 := by unfold genS; omega
    clear hbad hgl
    go_enter Tryd.func6, Tryd.ntmps6
    go_wp2_with fail
    refine (awake_ok w hG h0).mono ?_
    rintro e w1 ⟨rfl, hg1⟩
    have hF := Fld_new hem (hG.kept (hg1.block 0 h0 (by simp))) (show 0 < w1.heap.size by have := hg1.size; omega)
    go_wp2_with fail
    refine (field_ok c hc _).mono ?_
    rintro e w2 ⟨rfl, rfl⟩
    rw [← HM.out]
    go_wp2_with fail
    refine (generator_ok hF T hT1 hT2 hT3).mono ?_
    rintro e w2 ⟨v2, rfl, hR2, hF2, hs2⟩
    go_wp2_with fail
    refine (rGenerator_ok (b := w1.heap.size) hem hF2.lt T hT1 hT2 hT3).mono ?_
    rintro e w3 ⟨v3, rfl, hG3, hg3⟩
    obtain ⟨hF3, hs3⟩ := fieldless hF2 hg3
    obtain ⟨a2, c2, rfl, hRd2⟩ := hR2.rd
    obtain ⟨a3, c3, rfl, hRd3⟩ := hG3.rd hF2.lt
    go_wp2_with fail
    refine (minimal_ok hF3 n).mono ?_
    rintro e w4 ⟨v4, rfl, hR4, hF4, hs4⟩
    go_wp2_with fail
    refine (rMinimal_ok (b := w1.heap.size) hem hF4.lt n).mono ?_
    rintro e w5 ⟨v5, rfl, hG5, hg5⟩
    obtain ⟨hF5, hs5⟩ := fieldless hF4 hg5
    obtain ⟨a4, c4, rfl, hRd4⟩ := hR4.rd
    obtain ⟨a5, c5, rfl, hRd5⟩ := hG5.rd hF4.lt
    have hA := (hRd2.step hs3).step (hs4.trans hs5)
    have hB := hRd3.step (hs4.trans hs5)
    have hS5 := ((hs2.trans hs3).trans hs4).trans hs5
    go_wp2_with fail
    refine (same_ok a4 a5 c4 c5 (ints (minS m n)) (ints (minS m n)) (hRd4.step hs5) hRd5 (by rw [ints_len]; omega) (by rw [ints_len]; omega)).mono ?_
    rintro e w6 ⟨rfl, n6, rfl⟩
    have hA6 : Rd w1.heap.size (w5.drewN n6) a2 (ints (genS m T)) := hA.step ((Step.refl _ _).drewN _)
    have hB6 : Rd w1.heap.size (w5.drewN n6) a3 (ints (genS m T)) := hB.step ((Step.refl _ _).drewN _)
    go_wp2_with fail
    refine (same_ok a2 a3 c2 c3 (ints (genS m T)) (ints (genS m T)) hA6 hB6 (by rw [ints_len]; omega) (by rw [ints_len]; omega)).mono ?_
    rintro e w7 ⟨rfl, n7, rfl⟩
    go_wp2_with fail
    go_ret
    exact ⟨by simp, grownBy_drewN (grownBy_trans hg1 hS5.since) _⟩
end Go.Proofs.YtnpfjjnkbhkpaaaDoor
