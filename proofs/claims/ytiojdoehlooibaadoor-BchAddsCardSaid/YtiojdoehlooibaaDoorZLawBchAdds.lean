/- The walk of BchAdds. -/
import Derived.Test.YtiojdoehlooibaaDoorZMn
import Derived.Test.YtiojdoehlooibaaDoorZSn
import Derived.Test.YtiojdoehlooibaaDoorZAd
namespace Go.Proofs.YtiojdoehlooibaaDoor
open Go.RowKit Gf
/-- A row of one's own that grows. -/
structure AdRel (w wr : World) (v : Value) (S : List Nat) : Prop where
  own : wr.ownsRow w.heap.size 5 1 v S.length (valsB S)
  grown : w.grownBy wr none
theorem AdRel.next {w wr w6 : World} {v : Value} {S : List Nat} (h : AdRel w wr v S) {o : Obj} (hg : (wr.alloc o).grownBy w6 v.ownBlock) {v' : Value} {x : Nat} (hown : w6.ownsRow w.heap.size 5 1 v' (S.length + 1) (valsB S ++ [.int .u8 (x : Nat)])) : AdRel w w6 v' (S ++ [x]) := by
  have hs := hg.size
  simp at hs
  have h1 := h.grown.size
  refine ⟨?_, ?_⟩
  · have e1 : valsB (S ++ [x]) = valsB S ++ [.int .u8 (x : Nat)] := by simp [valsB]
    rw [e1, List.length_append]
    exact hown
  · refine ⟨hg.os.trans h.grown.os, hg.tape.trans h.grown.tape, hg.output.trans h.grown.output, by omega, fun k hk _ => ?_⟩
    rw [hg.block k (by simp; omega) (fun e => by have := (h.own.lt k e.symm).1; omega), Below.heap_alloc _ _ _ (by omega)]
    exact h.grown.block k hk (by simp)
set_option maxHeartbeats 6400000 in
set_option maxRecDepth 4000 in
theorem law_BchAdds (ao : Option Addr) (len cap : Nat) (bs : List Nat) {w : World} (hx : ArgB w ao len bs) (_hl : len ≤ 140737488355328 ∧ len ≤ cap) (ab : Option Addr) (lb cb : Nat) (cs : List Nat) (hy : ArgB w ab lb cs) (_hl2 : lb ≤ 140737488355328 ∧ lb ≤ cb) (t : Int) (ht : I64 t) (hG : Glob w) (h0 : 0 < w.heap.size) :
    Calls Tryd.prog 7 #[.slice ao len cap, .slice ab lb cb, num t] w fun e w' => e = .returned (.bool true) ∧ w.grownBy w' none := by
  have hn := hnot
  obtain ⟨hbl, hrd⟩ := hx
  obtain ⟨hcl, hrc⟩ := hy
  by_cases hno : (len = 0 ∨ 200 < len) ∨ len ≠ lb
  · have hno' : len = 0 ∨ (1 ≤ len ∧ 200 < len) ∨ (1 ≤ len ∧ len ≤ 200 ∧ len ≠ lb) := by omega
    clear hno
    rcases hno' with h | h | h
    · have b1 : ((len : Int) == 0) = true := by rw [h]; rfl
      clear h
      go_enter Tryd.func7, Tryd.ntmps7
      go_wp2_with fail
      refine (awake2_ok w hG h0).mono ?_
      rintro e w1 ⟨rfl, hg1⟩
      go_wp2_with fail
      go_ret
      exact ⟨rfl, hg1⟩
    · have b1 : ((len : Int) == 0) = false := by simp; omega
      have b2 : (200 : Int) < (len : Int) := by omega
      clear h
      go_enter Tryd.func7, Tryd.ntmps7
      go_wp2_with fail
      refine (awake2_ok w hG h0).mono ?_
      rintro e w1 ⟨rfl, hg1⟩
      go_wp2_with fail
      go_ret
      exact ⟨rfl, hg1⟩
    · have b1 : ((len : Int) == 0) = false := by simp; omega
      have b2 : ¬ (200 : Int) < (len : Int) := by omega
      have b3 : ((len : Int) != (lb : Int)) = true := by simp; omega
      clear h
      go_enter Tryd.func7, Tryd.ntmps7
      go_wp2_with fail
      refine (awake2_ok w hG h0).mono ?_
      rintro e w1 ⟨rfl, hg1⟩
      go_wp2_with fail
      go_ret
      exact ⟨rfl, hg1⟩
  · have l1 : 1 ≤ len := by omega
    have l2 : len ≤ 200 := by omega
    obtain rfl : len = lb := by omega
    have b1 : ((len : Int) == 0) = false := by simp; omega
    have b2 : ¬ (200 : Int) < (len : Int) := by omega
    clear hno
    have hT8 := tS_bd t
    obtain ⟨T, hT⟩ : ∃ T, T = tS t := ⟨_, rfl⟩
    rw [← hT] at hT8
    have HT : Hid (T = tS t) := hT
    clear hT
    obtain ⟨i0, hi, hz0, hz1, hz2⟩ := info_parts Tryd.info5
    go_enter Tryd.func7, Tryd.ntmps7
    go_wp2_with fail
    refine (awake2_ok w hG h0).mono ?_
    rintro e w1 ⟨rfl, hg1⟩
    have hcode := code_ok (hG.kept (hg1.block 0 h0 (by simp))) (by have := hg1.size; omega) ao len cap _ ht l1 (by omega)
    rw [← HT.out] at hcode
    have HCode : Hid (Calls Tryd.prog 17 #[.slice ao len cap, _] w1 _) := hcode
    clear hcode
    go_wp2_with fail
    refine HCode.out.mono ?_
    rintro e w2 ⟨c, b, m, ag, cg, hM, rfl, hc2, hrg, hg2, hb2, hcb⟩
    have hem := hM.em
    have hfits := hc2.fits
    have hrle := hc2.r_le
    have h2g := hc2.two
    have hA := World.grownBy_alloc w2 (.cells #[num m, num len, num T, .slice ag (gH m T).length cg] 29) none
    have hc3 := hc2.more hA
    have hgw3 := grownBy_trans (grownBy_trans hg1 hg2) hA
    have hrd3 := hrd.more hgw3
    have hrc3 := hrc.more hgw3
    have hen := cEncode_ok hc3 ao cap bs hrd3 hbl
    rw [hbl] at hen
    have HEn : Hid (Calls Tryd.prog 18 #[ptr c, .slice ao len cap] (w2.alloc (.cells #[num m, num len, num T, .slice ag (gH m T).length cg] 29)) _) := hen
    clear hen HCode
    go_wp2_with fail
    refine HEn.out.mono ?_
    rintro e w4 ⟨g4, rfl, hg4a, hg4, hh4⟩
    have hr4 : RdB w4 (some ⟨g4, 0, none⟩) (parB m T bs) := rdB_row (T := []) (by rw [List.append_nil]; exact hh4) (bytesS_le (par m T (bitsS bs)))
    have hc4 := hc3.more hg4
    have hgw4 := grownBy_trans hgw3 hg4
    have hrc4 := hrc3.more hg4
    have hen := cEncode_ok hc4 ab cb cs hrc4 hcl
    rw [hcl] at hen
    have HEn2 : Hid (Calls Tryd.prog 18 #[ptr c, .slice ab len cb] w4 _) := hen
    clear hen HEn
    go_wp2_with fail
    refine HEn2.out.mono ?_
    rintro e w5 ⟨g5, rfl, hg5a, hg5, hh5⟩
    have hr5 : RdB w5 (some ⟨g5, 0, none⟩) (parB m T cs) := rdB_row (T := []) (by rw [List.append_nil]; exact hh5) (bytesS_le (par m T (bitsS cs)))
    have hr45 := hr4.more hg5
    have hc5 := hc4.more hg5
    have hgw5 := grownBy_trans hgw4 hg5
    have hrd5 := hrd.more hgw5
    have hrc5 := hrc.more hgw5
    have hpa := cParity_ok hc5
    have hpe : pS m T = (rS m T + 7) / 8 := rfl
    have hr1 : 1 ≤ rS m T := by unfold rS; omega
    have h104 := hc3.r_104
    have hp105 : 1 ≤ pS m T ∧ pS m T ≤ 105 := by omega
    have hxe : (xl bs cs).length = len := by rw [xl_len (by omega), hbl]
    obtain ⟨PS, hPS⟩ : ∃ PS, PS = pS m T := ⟨_, rfl⟩
    rw [← hPS] at hpa hp105 ⊢
    have HPa : Hid (Calls Tryd.prog 15 #[ptr c] w5 _) := hpa
    have HPS : Hid (PS = pS m T) := hPS
    obtain ⟨p1, p2⟩ := hp105
    clear HEn2 hpe hPS hpa
    go_wp2_with fail
    refine HPa.out.mono ?_
    rintro e w6 ⟨rfl, rfl⟩
    go_wp2_with fail
    have hS0 : AdRel w6 w6 (.slice none 0 0) [] := ⟨World.ownsRow_nil _ _ _ _, World.grownBy.refl _ _⟩
    have l2i : (len : Int) ≤ 200 := by omega
    go_loopw [14, 15] (fun v i wr => ∃ k : Nat, k ≤ len ∧ i = num k ∧ AdRel w6 wr v ((xl bs cs).take k)) (fun _ i _ => len - (intOf i).toNat)
    case atStart => exact ⟨0, Nat.zero_le _, rfl, hS0⟩
    case round =>
      clear hS0
      obtain ⟨k, hk, rfl, hS⟩ := hrel
      by_cases hlt : k < len
      · have bk : (k : Int) < (len : Int) := by omega
        have hxa := hrd5.1 k
        have hxb := hrc5.1 k
        obtain ⟨ga, oa, haa, hca⟩ := hrd5.2.resolve_left (fun e => by rw [e] at hbl; simp at hbl; omega)
        obtain ⟨gb, ob, hab, hcb'⟩ := hrc5.2.resolve_left (fun e => by rw [e] at hcl; simp at hcl; omega)
        subst haa hab
        have ka : wr.cell? ⟨ga, oa + k, none⟩ = some (.int .u8 (nth bs k : Nat)) := by
          rw [World.cell?_of_block (w := w6) (a := ⟨ga, oa + k, none⟩) (hS.grown.block ga (lt_of_cell (hca k (by omega))) (by simp))]; exact hca k (by omega)
        have kb : wr.cell? ⟨gb, ob + k, none⟩ = some (.int .u8 (nth cs k : Nat)) := by
          rw [World.cell?_of_block (w := w6) (a := ⟨gb, ob + k, none⟩) (hS.grown.block gb (lt_of_cell (hcb' k (by omega))) (by simp))]; exact hcb' k (by omega)
        have hxo := xor_u8 hxa hxb
        have HT : Hid ((xl bs cs).take (k + 1) = (xl bs cs).take k ++ [nth bs k ^^^ nth cs k]) := by rw [Hid, take_snoc' (by omega), nth_xl (by omega)]
        obtain ⟨x, hx⟩ : ∃ x, x = nth bs k ^^^ nth cs k := ⟨_, rfl⟩
        rw [← hx] at HT hxo
        obtain ⟨S, hSe⟩ : ∃ S, S = (xl bs cs).take k := ⟨_, rfl⟩
        have hSl : S.length = k := by rw [hSe, List.length_take, hxe]; omega
        rw [← hSe] at hS HT
        clear hSe hx hca hcb'
        go_wp2_with fail
        go_region_law (refine step_append_lies _ rfl (.tmp 75) (.tmp 85) 35 rfl w6.heap.size 5 i0 (.int .u8 0) 1 1 Tryd.underlying35 hi hz0 hz1 hz2 rfl (by decide) u14 S.length (valsB S) rfl (by exact hS.own.alloc _) ⟨wr.heap.size, 0, none⟩ 1 1 [.int .u8 (x : Nat)] rfl rfl (by exact cell_one_new _ _ _) (by intro u hu; simp at hu; subst hu; rfl) (by decide) (by unfold maxLen; omega) (by omega) (by have := hS.grown.size; simp; omega) _ rfl ?_; intro g6 cap6 w7 hown hgrow hor hlt6; (have hgrow' : (wr.alloc (.cells #[.int .u8 (x : Nat)] 5)).grownBy w7 u14.ownBlock := ⟨hgrow.os, hgrow.tape, hgrow.output, hgrow.size, hgrow.block⟩))
        all_goals
          have hN := hS.next hgrow' hown
          rw [← HT.out] at hN
          rw [hSl] at hN
          clear hown hgrow hgrow' hor hlt6 hS
          go_wp2
          go_roundw
          case rel => exact ⟨k + 1, by omega, by go_num, hN⟩
          case measure => simp [intOf]; omega
      · obtain rfl : k = len := by omega
        have bk : ¬ (k : Int) < (k : Int) := by omega
        rw [List.take_of_length_le (by omega)] at hS
        have hown := hS.own
        rw [hxe] at hown
        obtain ⟨g9, c9, T9, rfl, hb9, hh9⟩ := own_parts hown l1 hxe
        have hD9 : RdB wr (some ⟨g9, 0, none⟩) (xl bs cs) := rdB_row hh9 (fun i => by rw [nth_xl (by omega)]; exact xor_byte' (hrd.1 i) (hrc.1 i))
        have hc9 := hc5.more hS.grown
        have hen := cEncode_ok hc9 (some ⟨g9, 0, none⟩) c9 (xl bs cs) hD9 hxe
        rw [hxe, ← HPS.out] at hen
        have HEn3 : Hid (Calls Tryd.prog 18 #[ptr c, .slice (some ⟨g9, 0, none⟩) k c9] wr _) := hen
        have hgw9 := grownBy_trans hgw5 hS.grown
        have hp9 := hr45.more hS.grown
        have hq9 := hr5.more hS.grown
        clear hen hown hS hD9 hh9
        go_wp2_with fail
        refine HEn3.out.mono ?_
        rintro e w8 ⟨g8, rfl, hg8a, hg8, hh8⟩
        have hr8 : RdB w8 (some ⟨g8, 0, none⟩) (parB m T (xl bs cs)) := rdB_row (T := []) (by rw [List.append_nil]; exact hh8) (bytesS_le (par m T (bitsS (xl bs cs))))
        have hp8 := hp9.more hg8
        have hq8 := hq9.more hg8
        have hgw8 := grownBy_trans hgw9 hg8
        have hlp : (parB m T bs).length = PS := by rw [parB_len, HPS.out]
        have hlq : (parB m T cs).length = PS := by rw [parB_len, HPS.out]
        have hlr : (parB m T (xl bs cs)).length = PS := by rw [parB_len, HPS.out]
        clear HEn3 hh8 hp9 hq9
        obtain ⟨A, hA⟩ : ∃ A, A = parB m T bs := ⟨_, rfl⟩
        obtain ⟨B, hB⟩ : ∃ B, B = parB m T cs := ⟨_, rfl⟩
        obtain ⟨R, hR⟩ : ∃ R, R = parB m T (xl bs cs) := ⟨_, rfl⟩
        have HX : Hid (∀ i, nth R i = nth A i ^^^ nth B i) := fun i => by rw [hR, hA, hB]; exact parB_xl hem (by omega) i
        rw [← hA] at hp8 hlp
        rw [← hB] at hq8 hlq
        rw [← hR] at hr8 hlr
        have bPS : (PS : Int) ≤ 105 := by omega
        clear hA hB hR
        go_wp2_with fail
        go_loopw [18] (fun i wu => ∃ j : Nat, j ≤ PS ∧ i = num j ∧ w8.grownBy wu none) (fun i _ => PS - (intOf i).toNat)
        case atStart => exact ⟨0, Nat.zero_le _, rfl, World.grownBy.refl _ _⟩
        case round =>
          clear hk
          obtain ⟨j, hj, rfl, hgt⟩ := hrel
          by_cases hlt2 : j < PS
          · have bj : (j : Int) < (PS : Int) := by omega
            obtain ⟨gp, op, hpe, hcp⟩ := hp8.2.resolve_left (fun e => by rw [e] at hlp; simp at hlp; omega)
            obtain ⟨gq, oq, hqe, hcq⟩ := hq8.2.resolve_left (fun e => by rw [e] at hlq; simp at hlq; omega)
            obtain ⟨gr, or', hre, hcr⟩ := hr8.2.resolve_left (fun e => by rw [e] at hlr; simp at hlr; omega)
            have k1 := hcp j (by omega)
            have k2 := hcq j (by omega)
            have k3 := hcr j (by omega)
            simp at hpe hqe hre
            obtain ⟨rfl, rfl⟩ := hpe
            obtain ⟨rfl, rfl⟩ := hqe
            obtain ⟨rfl, rfl⟩ := hre
            have c1 : wr.cell? ⟨g4, 0 + j, none⟩ = some (.int .u8 (nth A j : Nat)) := by
              rw [World.cell?_of_block (w := w8) (a := ⟨g4, 0 + j, none⟩) (hgt.block g4 (lt_of_cell k1) (by simp))]; exact k1
            have c2 : wr.cell? ⟨g5, 0 + j, none⟩ = some (.int .u8 (nth B j : Nat)) := by
              rw [World.cell?_of_block (w := w8) (a := ⟨g5, 0 + j, none⟩) (hgt.block g5 (lt_of_cell k2) (by simp))]; exact k2
            have c3 : wr.cell? ⟨g8, 0 + j, none⟩ = some (.int .u8 (nth R j : Nat)) := by
              rw [World.cell?_of_block (w := w8) (a := ⟨g8, 0 + j, none⟩) (hgt.block g8 (lt_of_cell k3) (by simp))]; exact k3
            rw [Nat.zero_add] at c1 c2 c3
            have hxo := xor_u8 (hp8.1 j) (hq8.1 j)
            rw [← HX.out j] at hxo
            clear k1 k2 k3 hcp hcq hcr
            go_wp2_with fail
            go_region
            all_goals
              go_wp2
              go_roundw
              case rel => exact ⟨j + 1, by omega, by go_num, grownBy_drew hgt⟩
              case measure => simp [intOf]; omega
          · obtain rfl : j = PS := by omega
            have bj : ¬ (j : Int) < (j : Int) := by omega
            have hgw10 := grownBy_trans hgw8 hgt
            go_wp2_with fail
            go_ret
            exact ⟨rfl, hgw10⟩
end Go.Proofs.YtiojdoehlooibaaDoor
