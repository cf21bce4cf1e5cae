/- The walk of BchEncodes. -/
import Derived.Test.YtiojdoehlooibaaDoorZCd
import Derived.Test.YtiojdoehlooibaaDoorZNl
import Derived.Test.YtiojdoehlooibaaDoorZSf
namespace Go.Proofs.YtiojdoehlooibaaDoor
open Go.RowKit Gf
theorem conv_nil' (w : World) : (convert 35 9 (.slice none 0 0)).run Tryd.prog w = .ok (.string ByteArray.empty) w := run_convert_bytes_nil w 35 5 Tryd.underlying35 Tryd.underlying5 0 0 9 Tryd.underlying9
set_option maxHeartbeats 3200000 in
set_option maxRecDepth 4000 in
theorem law_BchEncodes (ao : Option Addr) (len cap : Nat) (bs : List Nat) {w : World} (hx : ArgB w ao len bs) (hl : len ≤ 140737488355328 ∧ len ≤ cap) (t : Int) (ht : I64 t) (less : Bool) (hG : Glob w) (h0 : 0 < w.heap.size) :
    Calls Tryd.prog 4 #[.slice ao len cap, num t, .bool less] w fun e w' => e = .returned (.bool true) ∧ w.grownBy w' none := by
  have hn := hnot
  obtain ⟨hbl, hrd⟩ := hx
  by_cases hno : len = 0 ∨ 200 < len
  · have hb : (((len : Int) == 0) || decide (200 < (len : Int))) = true := by
      rcases hno with h | h
      · rw [h]; rfl
      · simp; omega
    clear hno
    go_enter Tryd.func4, Tryd.ntmps4
    go_wp2_with fail
    refine (awake2_ok w hG h0).mono ?_
    rintro e w1 ⟨rfl, hg1⟩
    go_wp2_with fail
    all_goals
      go_ret
      exact ⟨rfl, hg1⟩
  · have l1 : 1 ≤ len := by omega
    have l2 : len ≤ 200 := by omega
    have b1 : ((len : Int) == 0) = false := by simp; omega
    have b2 : ¬ (200 : Int) < (len : Int) := by omega
    clear hno
    go_enter Tryd.func4, Tryd.ntmps4
    go_wp2_with fail
    refine (awake2_ok w hG h0).mono ?_
    rintro e w1 ⟨rfl, hg1⟩
    have hcode := code_ok (hG.kept (hg1.block 0 h0 (by simp))) (by have := hg1.size; omega) ao len cap t ht l1 (by omega)
    have HCode : Hid (Calls Tryd.prog 17 #[.slice ao len cap, num t] w1 _) := hcode
    clear hcode
    go_wp2_with fail
    refine HCode.out.mono ?_
    rintro e w2 ⟨c, b, m, ag, cg, hM, rfl, hc2, hrg, hg2, hb2, hcb⟩
    have hem := hM.em
    have hgl := gH_len m (tS t)
    have h2 := hc2.two
    have h104 := hc2.r_104
    have hgb := gH_bits hem (tS t)
    obtain ⟨T, hT⟩ : ∃ T, T = tS t := ⟨_, rfl⟩
    rw [← hT] at hM hc2 hrg hgl h2 h104 hgb
    rw [← hT]
    clear hT
    have hG2 : 2 ≤ (gH m T).length := by omega
    have hG3 : (gH m T).length ≤ 1000 := by unfold rS at h104; omega
    have hA := World.grownBy_alloc w2 (.cells #[num m, num len, num T, .slice ag (gH m T).length cg] 29) none
    have hc3 := hc2.more hA
    have hrg3 := hrg.more hA
    have hrd3 := (hrd.more (grownBy_trans hg1 hg2)).more hA
    have hgw3 := grownBy_trans (grownBy_trans hg1 hg2) hA
    have HPe : Hid (bytesS ((dv (gH m T) (padS (bitsS bs) ((gH m T).length - 1)) (8 * bs.length)).drop (8 * bs.length)) = parB m T bs) := by
      rw [Hid]
      show _ = bytesS (par m T (bitsS bs))
      rw [par, left, padS, hgl]
      congr 1
      simp [bitsS_len]
    have Hgl : Hid _ := hgl
    clear hgl
    cases less with
    | true =>
      have hlc := hl.2
      have hlc' : (len : Int) ≤ (cap : Int) := by omega
      have l1' : (1 : Int) ≤ (len : Int) := by omega
      have hno : len - 1 ≠ len := by omega
      have hno' : ((len - 1 : Nat) : Int) ≠ (len : Int) := by omega
      have HN1 : Hid _ := hno
      have HN2 : Hid _ := hno'
      have cvn := conv_nil'
      have hbx : (w2.alloc (.cells #[num m, num len, num T, .slice ag (gH m T).length cg] 29)).heap[w2.heap.size]? = some (.cells #[num m, num len, num T, .slice ag (gH m T).length cg] 29) := heap_alloc_new w2 _
      clear HCode hl hno hno' hbx
      go_wp2_with fail
      all_goals
        refine (cEncode_no hc3 _ _ _ HN1.out).mono ?_
        rintro e w4 ⟨rfl, hw4⟩
        subst hw4
        go_wp2_with fail
        refine (sEncode_no m len T _ _ _ _ HN2.out _).mono ?_
        rintro e w5 ⟨rfl, hg5⟩
        have hgw5 := grownBy_trans hgw3 hg5
        go_wp2_with fail
        go_ret
        exact ⟨rfl, hgw5⟩
    | false =>
      have hen := cEncode_ok hc3 ao cap bs hrd3 hbl
      rw [hbl] at hen
      have HEn : Hid (Calls Tryd.prog 18 #[ptr c, .slice ao len cap] (w2.alloc (.cells #[num m, num len, num T, .slice ag (gH m T).length cg] 29)) _) := hen
      clear hen HCode
      go_wp2_with fail
      refine HEn.out.mono ?_
      rintro e w4 ⟨g4, rfl, hg4a, hg4, hh4⟩
      have hbx : w4.heap[w2.heap.size]? = some (.cells #[num m, num len, num T, .slice ag (gH m T).length cg] 29) := by
        rw [hg4.block _ (by simp) (by simp)]; exact heap_alloc_new w2 _
      have k0 : w4.cell? ⟨w2.heap.size, 0, none⟩ = some (num m) := cell_row (L := [num m, num len, num T, .slice ag (gH m T).length cg]) hbx
      have k1 : w4.cell? ⟨w2.heap.size, 1, none⟩ = some (num len) := cell_row (L := [num m, num len, num T, .slice ag (gH m T).length cg]) hbx
      have k2 : w4.cell? ⟨w2.heap.size, 2, none⟩ = some (num T) := cell_row (L := [num m, num len, num T, .slice ag (gH m T).length cg]) hbx
      have k3 : w4.cell? ⟨w2.heap.size, 3, none⟩ = some (.slice ag (gH m T).length cg) := cell_row (L := [num m, num len, num T, .slice ag (gH m T).length cg]) hbx
      have hse := sEncode_ok (w := w4) m T ag ao cg cap (gH m T) bs (hrg3.more hg4) (hrd3.more hg4) hgb hG2 hG3 (by omega) (by omega)
      rw [hbl] at hse
      have HSe : Hid (Calls Tryd.prog 19 #[codeV m len T (.slice ag (gH m T).length cg), .slice ao len cap] w4 _) := hse
      clear hse HEn hbx
      go_wp2_with fail
      refine HSe.out.mono ?_
      rintro e w5 ⟨g5, n5, rfl, hn5, hg5a, hg5, hh5⟩
      rw [← hbl, HPe.out] at hh5
      have hpl := parB_len m T bs
      have hnn : n5 = pS m T := by rw [hn5, Hgl.out]
      subst hnn
      have hle := bytesS_le (par m T (bitsS bs))
      have hP1 : 1 ≤ (parB m T bs).length := by rw [hpl]; unfold pS rS; omega
      have hr5 : RdB w5 (some ⟨g5, 0, none⟩) (parB m T bs) := rdB_row (T := []) (by rw [List.append_nil]; exact hh5) hle
      have hr4 : RdB w5 (some ⟨g4, 0, none⟩) (parB m T bs) := (rdB_row (T := []) (by rw [List.append_nil]; exact hh4) hle).more hg5
      have cv5 := conv_ok hr5 hP1 (pS m T)
      have cv4 := conv_ok hr4 hP1 (pS m T)
      rw [hpl] at cv5 cv4
      have hgw5 := grownBy_trans (grownBy_trans hgw3 hg4) hg5
      clear HSe hr5 hr4 hh5 hh4 k0 k1 k2 k3 hrd3 hrg3 hn5 hpl
      go_wp2_with fail
      go_ret
      exact ⟨rfl, hgw5⟩
end Go.Proofs.YtiojdoehlooibaaDoor
