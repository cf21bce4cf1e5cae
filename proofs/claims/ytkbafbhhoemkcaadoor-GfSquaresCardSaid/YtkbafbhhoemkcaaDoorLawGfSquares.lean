/- The walk of GfSquares. -/
import Derived.Test.YtkbafbhhoemkcaaDoorLay
import Derived.Test.YtkbafbhhoemkcaaDoorPol
namespace Go.Proofs.YtkbafbhhoemkcaaDoor
open Go.RowKit Gf
theorem tmS_len (m : Nat) (p q : List Nat) : (tmS m p q).length ≤ p.length + q.length := by
  unfold tmS
  split
  · simp
  · rw [outer_len]; simp
set_option maxHeartbeats 1600000 in
theorem law_GfSquares (c : Int) (hc : I64 c) (a : Int) (_ha : I64 a) (b : Int) (_hb : I64 b) (ap : Option Addr) (lp cp : Nat) (xs : List Int) {w : World} (hx : Arg w ap lp xs) (hlp : lp ≤ 17592186044416) (aq : Option Addr) (lq cq : Nat) (ys : List Int) (hy : Arg w aq lq ys) (hlq : lq ≤ 17592186044416) (hG : Glob w) (h0 : 0 < w.heap.size) :
    Calls Tryd.prog 7 #[num c, num a, num b, .slice ap lp cp, .slice aq lq cq] w fun e w' => e = .returned (.bool true) ∧ w.grownBy w' none := by
  have hn := hnot
  obtain rfl : xs.length = lp := hx.1
  obtain rfl : ys.length = lq := hy.1
  have hem := pick_em c
  obtain ⟨m, hm⟩ : ∃ m, m = pickS c := ⟨_, rfl⟩
  have HM : Hid (m = pickS c) := hm
  rw [← hm] at hem
  clear hm
  have hsz := sz_bd hem
  by_cases h1 : (60 : Nat) - 20 < xs.length
  · have h1' : (40 : Int) < (xs.length : Int) := by omega
    clear h1
    go_enter Tryd.func7, Tryd.ntmps7
    go_wp2_with fail
    refine (awake_ok w hG h0).mono ?_
    rintro e w1 ⟨rfl, hg1⟩
    go_wp2_with fail
    refine (field_ok c hc _).mono ?_
    rintro e w2 ⟨rfl, rfl⟩
    go_wp2_with fail
    go_ret
    exact ⟨rfl, grownBy_trans hg1 (World.grownBy_alloc _ _ none)⟩
  by_cases h2 : (60 : Nat) - 20 < ys.length
  · have h1' : ¬ (40 : Int) < (xs.length : Int) := by omega
    have h2' : (40 : Int) < (ys.length : Int) := by omega
    clear h1 h2
    go_enter Tryd.func7, Tryd.ntmps7
    go_wp2_with fail
    refine (awake_ok w hG h0).mono ?_
    rintro e w1 ⟨rfl, hg1⟩
    go_wp2_with fail
    refine (field_ok c hc _).mono ?_
    rintro e w2 ⟨rfl, rfl⟩
    go_wp2_with fail
    go_ret
    exact ⟨rfl, grownBy_trans hg1 (World.grownBy_alloc _ _ none)⟩
  have h1' : ¬ (40 : Int) < (xs.length : Int) := by omega
  have h2' : ¬ (40 : Int) < (ys.length : Int) := by omega
  obtain ⟨A, hA⟩ : ∃ A, A = el m a := ⟨_, rfl⟩
  obtain ⟨B, hB⟩ : ∃ B, B = el m b := ⟨_, rfl⟩
  have hAl : A ≤ sz m := by rw [hA]; exact el_le m a
  have hBl : B ≤ sz m := by rw [hB]; exact el_le m b
  have HA : Hid (el m a = A) := hA.symm
  have HB : Hid (el m b = B) := hB.symm
  clear hA hB
  have E : ∀ {x : Nat}, x ≤ sz m → Hid (el m (x : Int) = x) := fun h => el_of h
  have HX := E (xor_le hAl hBl)
  have HAA := E (mul_le hem A A)
  have HBB := E (mul_le hem B B)
  have HEP := E (evS_le hem A xs)
  have HEQ := E (evS_le hem A ys)
  have L1 : Hid (mul m (A ^^^ B) (A ^^^ B) = mul m A A ^^^ mul m B B) := square_add hem hAl hBl
  have L2 : Hid (evS m A (ints (tmS m (rowS m xs) (rowS m ys))) = mul m (evS m A xs) (evS m A ys)) := by
    rw [← ev_row m A xs, ← ev_row m A ys]
    exact ev_tm hem hAl (rowS_els m xs) (rowS_els m ys)
  have hxl := rowS_len m xs
  have hyl := rowS_len m ys
  have htl := tmS_len m (rowS m xs) (rowS m ys)
  have hil : (ints (tmS m (rowS m xs) (rowS m ys))).length ≤ 1000000 := by rw [ints_len]; omega
  clear E hxl hyl htl h1 h2
  go_enter Tryd.func7, Tryd.ntmps7
  go_wp2_with fail
  refine (awake_ok w hG h0).mono ?_
  rintro e w1 ⟨rfl, hg1⟩
  have hF := Fld_new hem (hG.kept (hg1.block 0 h0 (by simp))) (show 0 < w1.heap.size by have := hg1.size; omega)
  have hRx : Rd w1.heap.size (w1.alloc (blk m 0 (.slice none 0 0) (.slice none 0 0))) ap xs := ((hx.kept hg1).kept (World.grownBy_alloc _ _ none)).rd' (hx.kept hg1)
  have hRy : Rd w1.heap.size (w1.alloc (blk m 0 (.slice none 0 0) (.slice none 0 0))) aq ys := ((hy.kept hg1).kept (World.grownBy_alloc _ _ none)).rd' (hy.kept hg1)
  go_wp2_with fail
  refine (field_ok c hc _).mono ?_
  rintro e w2 ⟨rfl, rfl⟩
  rw [← HM.out]
  go_wp2_with fail
  refine (add_ok hF _ _).mono ?_
  rintro e w2 ⟨rfl, rfl⟩
  rw [HA.out, HB.out]
  go_wp2_with fail
  refine (mul_ok hF _ _).mono ?_
  rintro e w2 ⟨rfl, hF2, hs2⟩
  rw [HX.out, L1.out]
  go_wp2_with fail
  refine (mul_ok hF2 _ _).mono ?_
  rintro e w3 ⟨rfl, hF3, hs3⟩
  rw [HA.out]
  go_wp2_with fail
  refine (mul_ok hF3 _ _).mono ?_
  rintro e w4 ⟨rfl, hF4, hs4⟩
  rw [HB.out]
  go_wp2_with fail
  refine (add_ok hF4 _ _).mono ?_
  rintro e w4' ⟨rfl, rfl⟩
  rw [HAA.out, HBB.out]
  have hS4 := (hs2.trans hs3).trans hs4
  have hRx4 := hRx.step hS4
  have hRy4 := hRy.step hS4
  go_wp2_with fail
  refine (times_ok hF4 ap aq cp cq xs ys hRx4 hRy4 (by omega) (by omega)).mono ?_
  rintro e w5 ⟨v5, rfl, hR5, hF5, hs5⟩
  obtain ⟨ao5, cap5, rfl, hRd5⟩ := hR5.rd
  go_wp2_with fail
  refine (eval_ok hF5 ao5 cap5 _ _ hRd5 (by omega)).mono ?_
  rintro e w6 ⟨rfl, hF6, hs6⟩
  rw [HA.out, L2.out]
  go_wp2_with fail
  refine (eval_ok hF6 ap cp xs _ (hRx4.step (hs5.trans hs6)) (by omega)).mono ?_
  rintro e w7 ⟨rfl, hF7, hs7⟩
  rw [HA.out]
  go_wp2_with fail
  refine (eval_ok hF7 aq cq ys _ (hRy4.step ((hs5.trans hs6).trans hs7)) (by omega)).mono ?_
  rintro e w8 ⟨rfl, hF8, hs8⟩
  rw [HA.out]
  go_wp2_with fail
  refine (mul_ok hF8 _ _).mono ?_
  rintro e w9 ⟨rfl, hF9, hs9⟩
  rw [HEP.out, HEQ.out]
  go_wp2_with fail
  go_ret
  exact ⟨rfl, grownBy_trans hg1 (((((hS4.trans hs5).trans hs6).trans hs7).trans hs8).trans hs9).since⟩
end Go.Proofs.YtkbafbhhoemkcaaDoor
