/- The walk of BchNoughts. -/
import Derived.Test.YtiojdoehlooibabDoorZLay2
import Derived.Test.YtiojdoehlooibabDoorZCd
import Derived.Test.YtiojdoehlooibabDoorZNl
import Derived.Test.YtiojdoehlooibabDoorZAd
import Derived.Deep.RegionLaw
namespace Go.Proofs.YtiojdoehlooibabDoor
open Go.RowKit Gf
theorem xl_zeros (n : Nat) : xl (List.replicate n 0) (List.replicate n 0) = List.replicate n 0 := by simp [xl]
theorem parB_zeros {m T : Nat} (h : Em m) (n : Nat) : parB m T (List.replicate n 0) = List.replicate (pS m T) 0 := by
  apply List.ext_getElem
  · rw [parB_len, List.length_replicate]
  · intro i i1 i2
    have e := parB_xl (t := T) h (a := List.replicate n 0) (b := List.replicate n 0) rfl i
    rw [xl_zeros, Nat.xor_self, nth_of i1] at e
    rw [e]
    simp
/-- 'make([]byte, n)', run. -/
theorem run_make_byte {P : Program} (w : World) (t e : TypeId) (i : TypeInfo) (h1 : P.underlying t = some (.slice e)) (h2 : P.info? e = some i) (h3 : i.zero = some (.int .u8 0)) (h4 : i.size = 1) (h5 : i.bytes = 1) (n : Nat) (b2 : n ≤ 281474976710656) :
    (Instr.makeSlice t (num (n : Int)) (num (n : Int))).run P w = .ok (.slice (some ⟨w.heap.size, 0, none⟩) n n) (w.alloc (.cells (List.replicate n (.int .u8 0)).toArray e)) := by
  have hr := run_make (P := P) w t e i (.int .u8 0) h1 h2 h3 .i64 .i64 n n (by omega) (Int.le_refl _) (by rw [h5]; omega) (by omega)
  simp only [Int.toNat_natCast, h4, Nat.mul_one] at hr
  have e1 : (madeCells (Value.int .u8 0).cells n) = (List.replicate n (Value.int .u8 0)).toArray := by
    apply Array.toList_inj.1
    exact (toList_madeCells_one (.int .u8 0) n)
  rw [e1] at hr
  exact hr
theorem zeros_le (n : Nat) : ∀ i, nth (List.replicate n 0) i ≤ 255 := fun i => by rw [nth_zeros]; omega
set_option maxHeartbeats 6400000 in
set_option maxRecDepth 4000 in
theorem law_BchNoughts (n : Int) (hn0 : I64 n) (t : Int) (ht : I64 t) (w : World) (hG : Glob w) (h0 : 0 < w.heap.size) :
    Calls Tryd.prog 5 #[num n, num t] w fun e w' => e = .returned (.bool true) ∧ w.grownBy w' none := by
  have hn := hnot
  obtain ⟨i0, hi, hz0, hz1, hz2⟩ := info_parts Tryd.info5
  have hT8 := tS_bd t
  obtain ⟨T, hT⟩ : ∃ T, T = tS t := ⟨_, rfl⟩
  rw [← hT] at hT8
  have HT : Hid (T = tS t) := hT
  clear hT
  obtain ⟨n1, n2⟩ := hn0
  have key : ∃ U LN : Nat, (n = (U : Int) ∨ n = -(U : Int) - 1) ∧ 1 + (U : Int) % 200 = (LN : Int) ∧ 1 ≤ LN ∧ LN ≤ 200 := by
    by_cases hneg : n < 0
    · obtain ⟨U, hU⟩ := Int.eq_ofNat_of_zero_le (show 0 ≤ -(n + 1) by omega)
      exact ⟨U, 1 + U % 200, .inr (by omega), by omega, by omega, by omega⟩
    · obtain ⟨U, hU⟩ := Int.eq_ofNat_of_zero_le (show 0 ≤ n by omega)
      exact ⟨U, 1 + U % 200, .inl (by omega), by omega, by omega, by omega⟩
  obtain ⟨U, LN, hU, hLN, l1, l2⟩ := key
  have HLN : Hid (1 + (U : Int) % 200 = (LN : Int)) := hLN
  clear hLN
  rcases hU with rfl | rfl
  all_goals
    go_enter Tryd.func5, Tryd.ntmps5
    go_wp2_with fail
    refine (awake2_ok w hG h0).mono ?_
    rintro e w1 ⟨rfl, hg1⟩
    go_wp2_with (first | (at_make; go_must (refine wpList_make_byte _ rfl _ _ 22 rfl 5 i0 Tryd.underlying22 hi hz0 hz1 hz2 .i64 .i64 _ _ LN rfl rfl (by exact HLN.out) (by exact HLN.out) (by omega) ?_)))
    have hA1 := World.grownBy_alloc w1 (.cells (List.replicate LN (.int .u8 0)).toArray 5) none
    have hgA := grownBy_trans hg1 hA1
    have hcode := code_ok (hG.kept (hgA.block 0 h0 (by simp))) (by have := hgA.size; omega) (some ⟨w1.heap.size, 0, none⟩) LN LN _ ht l1 (by omega)
    rw [← HT.out] at hcode
    have HCode : Hid (Calls Tryd.prog 7 #[.slice (some ⟨w1.heap.size, 0, none⟩) LN LN, _] (w1.alloc (.cells (List.replicate LN (.int .u8 0)).toArray 5)) _) := hcode
    have hrd1 : RdB (w1.alloc (.cells (List.replicate LN (.int .u8 0)).toArray 5)) (some ⟨w1.heap.size, 0, none⟩) (List.replicate LN 0) := rdB_row (T := []) (by rw [List.append_nil, ← valsB_zeros]; exact heap_alloc_new w1 _) (zeros_le LN)
    clear hcode
    go_wp2_with fail
    refine HCode.out.mono ?_
    rintro e w2 ⟨c, b, m, ag, cg, hM, rfl, hc2, hrg, hg2, hb2, hcb⟩
    have hem := hM.em
    have hA := World.grownBy_alloc w2 (.cells #[num m, num LN, num T, .slice ag (gH m T).length cg] 27) none
    have hc3 := hc2.more hA
    have hrd3 := hrd1.more (grownBy_trans hg2 hA)
    have hgw3 := grownBy_trans (grownBy_trans hgA hg2) hA
    have hen := cEncode_ok hc3 (some ⟨w1.heap.size, 0, none⟩) LN (List.replicate LN 0) hrd3 List.length_replicate
    rw [List.length_replicate, parB_zeros hem] at hen
    have HEn : Hid (Calls Tryd.prog 9 #[ptr c, .slice (some ⟨w1.heap.size, 0, none⟩) LN LN] (w2.alloc (.cells #[num m, num LN, num T, .slice ag (gH m T).length cg] 27)) _) := hen
    clear hen HCode
    go_wp2_with fail
    refine HEn.out.mono ?_
    rintro e w4 ⟨g4, rfl, hg4a, hg4, hh4⟩
    have h2g := hc2.two
    have hc4 := hc3.more hg4
    have hpe : pS m T = (rS m T + 7) / 8 := rfl
    have hr1 : 1 ≤ rS m T := by unfold rS; omega
    have h104 := hc3.r_104
    have hp105 : 1 ≤ pS m T ∧ pS m T ≤ 105 := by omega
    have hc4d := hc4.more (grownBy_drew (World.grownBy.refl w4 none))
    have hpa := cParity_ok hc4d
    have hr4 : RdB w4 (some ⟨g4, 0, none⟩) (List.replicate (pS m T) 0) := rdB_row (T := []) (by rw [List.append_nil]; exact hh4) (zeros_le _)
    obtain ⟨PS, hPS⟩ : ∃ PS, PS = pS m T := ⟨_, rfl⟩
    rw [← hPS] at hpa hp105 hr4 ⊢
    obtain ⟨p1, p2⟩ := hp105
    have hr4d : RdB w4.drew (some ⟨g4, 0, none⟩) (List.replicate PS 0) := hr4.more (grownBy_drew (World.grownBy.refl w4 none))
    have hAm := World.grownBy_alloc w4.drew (.cells (List.replicate PS (.int .u8 0)).toArray 5) none
    have cv1 := conv_ok hr4d (by rw [List.length_replicate]; exact p1) PS
    have cv2 := conv_ok (hr4d.more hAm) (by rw [List.length_replicate]; exact p1) PS
    have hrm : RdB (w4.drew.alloc (.cells (List.replicate PS (.int .u8 0)).toArray 5)) (some ⟨w4.heap.size, 0, none⟩) (List.replicate PS 0) := rdB_row (T := []) (by rw [List.append_nil, ← valsB_zeros]; exact heap_alloc_new w4.drew _) (zeros_le PS)
    have cv3 := conv_ok hrm (by rw [List.length_replicate]; exact p1) PS
    rw [List.length_replicate] at cv1 cv2 cv3
    have hmk : (Instr.makeSlice 22 (num (PS : Int)) (num (PS : Int))).run Tryd.prog w4.drew = .ok (.slice (some ⟨w4.heap.size, 0, none⟩) PS PS) (w4.alloc (.cells (List.replicate PS (.int .u8 0)).toArray 5)).drew := run_make_byte w4.drew 22 5 i0 Tryd.underlying22 hi hz0 hz1 hz2 PS (by omega)
    have cv2' : (convert 22 9 (.slice (some ⟨g4, 0, none⟩) PS PS)).run Tryd.prog (w4.alloc (.cells (List.replicate PS (.int .u8 0)).toArray 5)).drew = .ok (.string (strB (List.replicate PS 0))) (w4.alloc (.cells (List.replicate PS (.int .u8 0)).toArray 5)).drew := cv2
    have cv3' : (convert 22 9 (.slice (some ⟨w4.heap.size, 0, none⟩) PS PS)).run Tryd.prog (w4.alloc (.cells (List.replicate PS (.int .u8 0)).toArray 5)).drew = .ok (.string (strB (List.replicate PS 0))) (w4.alloc (.cells (List.replicate PS (.int .u8 0)).toArray 5)).drew := cv3
    obtain ⟨SS, hSS⟩ : ∃ SS, SS = strB (List.replicate PS 0) := ⟨_, rfl⟩
    rw [← hSS] at cv1 cv2' cv3'
    have HPa : Hid (Calls Tryd.prog 10 #[ptr c] w4.drew _) := hpa
    have hgw4 := grownBy_trans hgw3 hg4
    have hgw5 : w.grownBy (w4.alloc (.cells (List.replicate PS (.int .u8 0)).toArray 5)).drew none := grownBy_trans (grownBy_drew hgw4) hAm
    obtain ⟨OB, hOB⟩ : ∃ OB, OB = Obj.cells (List.replicate PS (Value.int .u8 0)).toArray 5 := ⟨_, rfl⟩
    rw [← hOB] at hmk cv2' cv3' hgw5
    clear HEn hpe hPS hpa hrm hr4d hr4 hAm hc4d hh4 cv2 cv3 hSS hOB
    go_wp2_with fail
    go_region_with (go_at_call 10; refine HPa.out.mono ?_; rintro e w' ⟨rfl, rfl⟩)
    all_goals
      go_wp2_with fail
      refine (cEncode_nil _ _).mono ?_
      rintro e w6 ⟨rfl, rfl⟩
      go_wp2_with fail
      refine (cDecode_nil _ _ _).mono ?_
      rintro e w7 ⟨rfl, rfl⟩
      go_wp2_with (first | (go_at_call 12; refine (cM_nil _).mono ?_; rintro e w4 ⟨rfl, rfl⟩) | (go_at_call 8; refine (cBits_nil _).mono ?_; rintro e w4 ⟨rfl, rfl⟩) | (go_at_call 10; refine (cParity_nil _).mono ?_; rintro e w4 ⟨rfl, rfl⟩))
      go_ret
      exact ⟨rfl, hgw5⟩
end Go.Proofs.YtiojdoehlooibabDoor
