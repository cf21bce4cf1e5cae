/- The walk of GfPolys. -/
import Derived.Test.YtnpfjjnkbhkpaaaDoorLay
import Derived.Test.YtnpfjjnkbhkpaaaDoorRfb
namespace Go.Proofs.YtnpfjjnkbhkpaaaDoor
open Go.RowKit Gf
theorem restGo_len {m : Nat} (Q : List Nat) : ∀ (f : Nat) (P : List Nat), (restGo m Q f P).length ≤ P.length
  | 0, P => Nat.le_refl _
  | f + 1, P => by
    rw [restGo]
    split
    · exact Nat.le_refl _
    · have h1 := restGo_len (m := m) Q f (trimN (restStep m Q P))
      have h2 := trimN_len (restStep m Q P)
      rw [restStep_len] at h2
      omega
theorem restS_len (m : Nat) (P Q : List Nat) : (restS m P Q).length ≤ P.length := by
  unfold restS
  split
  · simp
  · exact restGo_len Q _ P
theorem tmS_len2 (m : Nat) (p q : List Nat) : (tmS m p q).length ≤ p.length + q.length := by
  unfold tmS
  split
  · simp
  · rw [outer_len]; simp
theorem more_of {w w' : World} {b m : Nat} (h : Fld w b m) (hg : w.grownBy w' none) : Fld w' b m ∧ Step b w w' := ⟨h.more hg, h.step_more hg⟩
set_option maxHeartbeats 1600000 in
theorem law_GfPolys (c : Int) (hc : I64 c) (ap : Option Addr) (lp cp : Nat) (xs : List Int) {w : World} (hx : Arg w ap lp xs) (hlp : lp ≤ 17592186044416) (aq : Option Addr) (lq cq : Nat) (ys : List Int) (hy : Arg w aq lq ys) (hlq : lq ≤ 17592186044416) (x : Int) (_hx : I64 x) (hG : Glob w) (h0 : 0 < w.heap.size) :
    Calls Tryd.prog 5 #[num c, .slice ap lp cp, .slice aq lq cq, num x] w fun e w' => e = .returned (.bool true) ∧ w.grownBy w' none := by
  have hn := hnot
  obtain rfl : xs.length = lp := hx.1
  obtain rfl : ys.length = lq := hy.1
  have hem := pick_em c
  obtain ⟨m, hm⟩ : ∃ m, m = pickS c := ⟨_, rfl⟩
  have HM : Hid (m = pickS c) := hm
  rw [← hm] at hem
  clear hm
  by_cases h1 : (60 : Int) < (xs.length : Int)
  · go_enter Tryd.func5, Tryd.ntmps5
    go_wp2_with fail
    refine (awake_ok w hG h0).mono ?_
    rintro e w1 ⟨rfl, hg1⟩
    go_wp2_with fail
    refine (field_ok c hc _).mono ?_
    rintro e w2 ⟨rfl, rfl⟩
    go_wp2_with fail
    go_ret
    exact ⟨rfl, grownBy_trans hg1 (World.grownBy_alloc _ _ none)⟩
  by_cases h2 : (60 : Int) < (ys.length : Int)
  · go_enter Tryd.func5, Tryd.ntmps5
    go_wp2_with fail
    refine (awake_ok w hG h0).mono ?_
    rintro e w1 ⟨rfl, hg1⟩
    go_wp2_with fail
    refine (field_ok c hc _).mono ?_
    rintro e w2 ⟨rfl, rfl⟩
    go_wp2_with fail
    go_ret
    exact ⟨rfl, grownBy_trans hg1 (World.grownBy_alloc _ _ none)⟩
  have hxl := rowS_len m xs
  have hyl := rowS_len m ys
  have htl := tmS_len2 m (rowS m xs) (rowS m ys)
  have hrl := restS_len m (rowS m xs) (rowS m ys)
  have bx : xs.length ≤ 60 := by omega
  have bY : ys.length ≤ 60 := by omega
  have bt : (ints (tmS m (rowS m xs) (rowS m ys))).length ≤ 1000000 := by rw [ints_len]; omega
  have br : (ints (restS m (rowS m xs) (rowS m ys))).length ≤ 1000000 := by rw [ints_len]; omega
  clear hxl hyl htl hrl
  go_enter Tryd.func5, Tryd.ntmps5
  go_wp2_with fail
  refine (awake_ok w hG h0).mono ?_
  rintro e w1 ⟨rfl, hg1⟩
  have hF := Fld_new hem (hG.kept (hg1.block 0 h0 (by simp))) (show 0 < w1.heap.size by have := hg1.size; omega)
  have hRx : Rd w1.heap.size (w1.alloc (blk m 0 (.slice none 0 0) (.slice none 0 0))) ap xs := ((hx.kept hg1).kept (World.grownBy_alloc _ _ none)).rd' (hx.kept hg1)
  have hRy : Rd w1.heap.size (w1.alloc (blk m 0 (.slice none 0 0) (.slice none 0 0))) aq ys := ((hy.kept hg1).kept (World.grownBy_alloc _ _ none)).rd' (hy.kept hg1)
  clear hx hy
  go_wp2_with fail
  refine (field_ok c hc _).mono ?_
  rintro e w2 ⟨rfl, rfl⟩
  rw [← HM.out]
  go_wp2_with fail
  refine (eval_ok hF ap cp xs x hRx (by omega)).mono ?_
  rintro e w2 ⟨rfl, hF2, hs2⟩
  go_wp2_with fail
  refine (rEval_ok hem ap cp xs x (hRx.step hs2) (by omega)).mono ?_
  rintro e w2' ⟨rfl, rfl⟩
  go_wp2_with fail
  refine (times_ok hF2 ap aq cp cq xs ys (hRx.step hs2) (hRy.step hs2) (by omega) (by omega)).mono ?_
  rintro e w3 ⟨v3, rfl, hR3, hF3, hs3⟩
  have hx3 := hRx.step (hs2.trans hs3)
  have hy3 := hRy.step (hs2.trans hs3)
  go_wp2_with fail
  refine (rTimes_ok hem ap aq cp cq xs ys hx3 hy3 (by omega) (by omega)).mono ?_
  rintro e w4 ⟨v4, rfl, hG4, hg4⟩
  obtain ⟨hF4, hs4⟩ := more_of hF3 hg4
  obtain ⟨a3, c3, rfl, hRd3⟩ := hR3.rd
  obtain ⟨a4, c4, rfl, hRd4⟩ := hG4.rd hF3.lt
  go_wp2_with fail
  refine (same_ok a3 a4 c3 c4 _ _ (hRd3.step hs4) hRd4 bt bt).mono ?_
  rintro e w5 ⟨rfl, n5, rfl⟩
  have hF5 : Fld (w4.drewN n5) w1.heap.size m := hF4.drewN n5
  have hs5 : Step w1.heap.size w4 (w4.drewN n5) := (Step.refl _ _).drewN n5
  have hx5 := (hx3.step hs4).step hs5
  have hy5 := (hy3.step hs4).step hs5
  go_wp2_with fail
  refine (rest_ok hF5 ap aq cp cq xs ys hx5 hy5 (by omega) (by omega)).mono ?_
  rintro e w6 ⟨v6, rfl, hR6, hF6, hs6⟩
  go_wp2_with fail
  refine (rRest_ok hem ap aq cp cq xs ys (hx5.step hs6) (hy5.step hs6) (by omega) (by omega)).mono ?_
  rintro e w7 ⟨v7, rfl, hG7, hg7⟩
  obtain ⟨hF7, hs7⟩ := more_of hF6 hg7
  obtain ⟨a6, c6, rfl, hRd6⟩ := hR6.rd
  obtain ⟨a7, c7, rfl, hRd7⟩ := hG7.rd hF6.lt
  go_wp2_with fail
  refine (same_ok a6 a7 c6 c7 _ _ (hRd6.step hs7) hRd7 br br).mono ?_
  rintro e w8 ⟨rfl, n8, rfl⟩
  go_wp2_with fail
  go_ret
  exact ⟨by simp, grownBy_drewN (grownBy_trans hg1 (((((hs2.trans hs3).trans hs4).trans hs5).trans hs6).trans hs7).since) _⟩
end Go.Proofs.YtnpfjjnkbhkpaaaDoor
