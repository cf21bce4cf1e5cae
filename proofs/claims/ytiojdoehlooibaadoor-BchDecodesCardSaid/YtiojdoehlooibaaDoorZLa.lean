/- The statements' common ground: bytes as a string, one word near at most, awake. -/
import Derived.Test.YtiojdoehlooibaaDoorZDl
import Derived.Test.YtiojdoehlooibaaDoorZBn
import Derived.Laws.BytesArg
namespace Go.Proofs.YtiojdoehlooibaaDoor
open Go.RowKit
namespace Gf
/-- At most one word is near. -/
theorem near_eq {m t : Nat} (h : Em m) {W V V' : List Nat} (hW : Bits W) (hz : W.length ≤ sz m) (h1 : Near m t W V) (h2 : Near m t W V') : V = V' := by
  have e := near_one (r := W.reverse) h (by simp [h1.1]) (by simp [h2.1]) (by simpa using hz) (bits_rev hW) h1.2.1 h2.2.1 (by rw [← xl_rev h1.1.symm, wt_rev]; exact h1.2.2) (by rw [← xl_rev h2.1.symm, wt_rev]; exact h2.2.2)
  have := congrArg List.reverse e
  simpa using this
/-- Bytes as a string. -/
def strB (bs : List Nat) : ByteArray := strOfNums (ints bs)
theorem conv_ok {w : World} {ao : Option Addr} {bs : List Nat} (h : RdB w ao bs) (h1 : 1 ≤ bs.length) (cap : Nat) : (convert 35 9 (.slice ao bs.length cap)).run Tryd.prog w = .ok (.string (strB bs)) w := by
  obtain ⟨g, off, rfl, hc⟩ := h.2.resolve_left (fun e => by rw [e] at h1; simp at h1)
  refine run_convert_bytes_arg (P := Tryd.prog) w 35 5 Tryd.underlying35 Tryd.underlying5 g off bs.length cap (ints bs) (ints_len bs) (fun i hi => ?_) 9 Tryd.underlying9
  rw [hc i hi]
  have := ints_getD bs i
  unfold nthI at this
  rw [this]
theorem strB_inj {a b : List Nat} (ha : ∀ i, nth a i ≤ 255) (hb : ∀ i, nth b i ≤ 255) (h : strB a = strB b) : a = b := by
  have hd : (ints a).map (fun n => UInt8.ofNat n.toNat) = (ints b).map (fun n => UInt8.ofNat n.toNat) := by
    have := congrArg (fun s : ByteArray => s.data.toList) h
    simpa [strB, strOfNums] using this
  have hl : a.length = b.length := by
    have := congrArg List.length hd
    simpa [ints] using this
  apply List.ext_getElem hl
  intro i h1 h2
  have e := congrArg (fun l => l[i]?) hd
  simp [ints, h1, h2] at e
  have ha' := ha i
  have hb' := hb i
  rw [nth_of h1] at ha'
  rw [nth_of h2] at hb'
  have := congrArg UInt8.toNat e
  simp at this
  omega
theorem grown_step {w w' w'' : World} {b : Nat} (hg : w.grownBy w' none) (hs : Step b w' w'') (hb : w.heap.size ≤ b) : w.grownBy w'' none :=
  ⟨hs.grown.os.trans hg.os, hs.grown.tape.trans hg.tape, hs.grown.output.trans hg.output, Nat.le_trans hg.size hs.grown.size, fun k hk _ => (hs.grown.block k (Nat.lt_of_lt_of_le hk hg.size) (by simp; omega)).trans (hg.block k hk (by simp))⟩
theorem isM11 : IsM 1 1 4 := ⟨by decide, by decide, by decide, fun k h1 h2 => by omega⟩
theorem rS41 : rS 4 1 = 4 := by kernel_rfl
theorem parB41 : parB 4 1 [1] = [48] := by kernel_rfl
theorem par41 : par 4 1 (bitsS [1]) = [0, 0, 1, 1] := by kernel_rfl
theorem wrd31 : wrdS 4 [3] [48] = [0, 0, 0, 0, 0, 0, 1, 1, 0, 0, 1, 1] := by kernel_rfl
theorem em4' : Em 4 := ⟨by decide, by decide⟩
theorem near31 : Near 4 1 (wrdS 4 [3] [48]) (bitsS [1] ++ par 4 1 (bitsS [1])) ∧ wt (xl (wrdS 4 [3] [48]) (bitsS [1] ++ par 4 1 (bitsS [1]))) = 1 := by
  have hw : wt (xl (wrdS 4 [3] [48]) (bitsS [1] ++ par 4 1 (bitsS [1]))) = 1 := by rw [par41, wrd31]; kernel_rfl
  exact ⟨⟨by rw [par41]; rfl, par_word em4' 1 (bits_bitsS [1]), by rw [hw]; exact Nat.le_refl _⟩, hw⟩
theorem pS41 : pS 4 1 = 1 := by kernel_rfl
theorem str1 : strB [1] = ⟨#[1]⟩ := by kernel_rfl
theorem str48 : strB [48] = ⟨#[48]⟩ := by kernel_rfl
theorem rdB_row {w : World} {g : Nat} {bs : List Nat} {T : List Value} (h : w.heap[g]? = some (.cells (valsB bs ++ T).toArray 5)) (hle : ∀ i, nth bs i ≤ 255) : RdB w (some ⟨g, 0, none⟩) bs :=
  ⟨hle, .inr ⟨g, 0, rfl, fun i hi => by rw [Nat.zero_add, cell_row h, List.getElem?_append_left (by rw [valsB_len]; exact hi), valsB_at hi]⟩⟩
theorem le_one {x : Nat} (h : x ≤ 255) : ∀ i, nth [x] i ≤ 255 := fun i => by
  cases i with
  | zero => exact h
  | succ i => rw [nth_over _ (by simp)]; omega
set_option maxHeartbeats 1600000 in
set_option maxRecDepth 4000 in
theorem awake2_ok (w : World) (hg : Glob w) (h0 : 0 < w.heap.size) : Calls Tryd.prog 9 #[] w fun e w' => e = .returned (.bool true) ∧ w.grownBy w' none := by
  go_enter Tryd.func9, Tryd.ntmps9
  go_wp2_with fail
  refine (bchNew_ok 1 1 (by decide) (by decide) (by decide) (by decide) hg h0).mono ?_
  rintro e w1 ⟨c, b, m, hM, rfl, hc1, hg1, hb, hcb⟩
  obtain rfl : m = 4 := hM.one isM11
  clear hM
  have hA := World.grownBy_alloc w1 (.cells (valsB [1]).toArray 5) none
  have hr1 : RdB (w1.alloc (.cells (valsB [1]).toArray 5)) (some ⟨w1.heap.size, 0, none⟩) [1] := ⟨fun i => by cases i with | zero => decide | succ i => rw [nth_over _ (by simp)]; omega, .inr ⟨_, 0, rfl, fun i hi => by rw [Nat.zero_add, cell_row (heap_alloc_new w1 _), valsB_at hi]⟩⟩
  have hen := cEncode_ok (hc1.more hA) (some ⟨w1.heap.size, 0, none⟩) 1 [1] hr1 rfl
  have HEn : Hid (Calls Tryd.prog 18 #[ptr c, .slice (some ⟨w1.heap.size, 0, none⟩) 1 1] (w1.alloc (.cells #[.int .u8 1] 5)) _) := hen
  clear hen
  go_wp2_with fail
  refine HEn.out.mono ?_
  rintro e w2 ⟨g2, rfl, hg2a, hg2, hh2⟩
  rw [parB41] at hh2
  rw [pS41]
  have hc2 := (hc1.more hA).more hg2
  have hgw2 : w.grownBy w2 none := grownBy_trans (grownBy_trans hg1 hA) hg2
  have hB1 := World.grownBy_alloc w2 (.cells (valsB [3]).toArray 5) none
  have hB2 := World.grownBy_alloc (w2.alloc (.cells (valsB [3]).toArray 5)) (.cells (valsB [48]).toArray 5) none
  have hB := grownBy_trans hB1 hB2
  have hd3 : RdB ((w2.alloc (.cells (valsB [3]).toArray 5)).alloc (.cells (valsB [48]).toArray 5)) (some ⟨w2.heap.size, 0, none⟩) [3] := (rdB_row (T := []) (by rw [List.append_nil]; exact heap_alloc_new w2 _) (le_one (by decide))).more hB2
  have hp3 : RdB ((w2.alloc (.cells (valsB [3]).toArray 5)).alloc (.cells (valsB [48]).toArray 5)) (some ⟨w2.heap.size + 1, 0, none⟩) [48] := rdB_row (T := []) (by rw [List.append_nil]; exact heap_alloc_at _ (by simp)) (le_one (by decide))
  have hde := cDecode_ok (hc2.more hB) (some ⟨w2.heap.size, 0, none⟩) (some ⟨w2.heap.size + 1, 0, none⟩) 1 1 [3] [48] hd3 hp3 rfl (by rw [pS41]; rfl)
  have HDe : Hid (Calls Tryd.prog 21 #[ptr c, .slice (some ⟨w2.heap.size, 0, none⟩) 1 1, .slice (some ⟨w2.heap.size + 1, 0, none⟩) 1 1] ((w2.alloc (.cells #[.int .u8 3] 5)).alloc (.cells #[.int .u8 48] 5)) _) := hde
  have hp2 : RdB w2 (some ⟨g2, 0, none⟩) [48] := rdB_row (T := []) (by rw [List.append_nil]; exact hh2) (le_one (by decide))
  clear hde HEn hA hh2 hr1
  go_wp2_with fail
  refine HDe.out.mono ?_
  rintro e w3 ⟨hc3, hs3, hor⟩
  have hgw3 : w.grownBy w3 none := grown_step (grownBy_trans hgw2 hB) hs3 hb
  have hp23 : RdB w3 (some ⟨g2, 0, none⟩) [48] := by
    have hb2 : w2.grownBy w3 none ∨ True := .inr trivial
    have h4 := hp2.more hB
    refine ⟨h4.1, .inr ⟨g2, 0, rfl, fun i hi => ?_⟩⟩
    obtain ⟨gg, oo, ee, hcc⟩ := h4.2.resolve_left (by simp)
    simp at ee
    obtain ⟨rfl, rfl⟩ := ee
    rw [hs3.cell (lt_of_cell (hcc i hi)) (by have := (hc1.fld.lt); have : w1.heap.size < (w1.alloc (.cells (valsB [1]).toArray 5)).heap.size := by simp
                                             omega)]
    exact hcc i hi
  rcases hor with ⟨V, gx, gy, cx, cy, x, y, Tx, Ty, hN, rfl, hX, hY, hx, hy, _, _⟩ | ⟨hno, _⟩
  · rw [rS41] at hN
    have hV : V = bitsS [1] ++ par 4 1 (bitsS [1]) := near_eq em4' (bits_wrdS 4 [3] [48]) (by rw [wrd31]; decide) hN near31.1
    subst hV
    have hwt := near31.2
    have hx1 : x = [1] := by rw [hx, par41]; kernel_rfl
    have hy1 : y = [48] := by rw [hy, par41]; kernel_rfl
    subst hx1 hy1
    rw [rS41, hwt, pS41]
    have hcx := conv_ok hX.rdB (by simp) cx
    have hcy := conv_ok hY.rdB (by simp) cy
    have hcp := conv_ok hp23 (by simp) 1
    rw [str1] at hcx
    rw [str48] at hcy hcp
    simp only [List.length_singleton] at hcx hcy hcp
    have hM := cM_ok hc3
    have hBi := cBits_ok hc3
    rw [rS41] at hBi
    have hPa := cParity_ok hc3
    rw [pS41] at hPa
    clear hx hy hN hX hY hp23 hp2 hB hB1 hB2 hd3 hp3 HDe
    go_wp2_with (first | (go_at_call 12; refine hM.mono ?_; rintro e w4 ⟨rfl, rfl⟩) | (go_at_call 13; refine hBi.mono ?_; rintro e w4 ⟨rfl, rfl⟩) | (go_at_call 15; refine hPa.mono ?_; rintro e w4 ⟨rfl, rfl⟩))
    go_ret
    exact ⟨rfl, hgw3⟩
  · exact absurd near31.1 (by rw [rS41] at hno; exact hno _)
end Gf
end Go.Proofs.YtiojdoehlooibaaDoor
