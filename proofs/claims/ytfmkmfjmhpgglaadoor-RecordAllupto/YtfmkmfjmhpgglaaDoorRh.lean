/- Layer 8 (record): a sealed record; awake. -/
import Derived.Test.YtfmkmfjmhpgglaaDoorRg
namespace Go.Proofs.YtfmkmfjmhpgglaaDoor
open Go.RowKit
namespace Rc
open Cr
def sealed (r : Rec) : List Nat := recB r ++ le4 (crc (recB r))
theorem sealed_len (r : Rec) : (sealed r).length = 37 := by rw [sealed, List.length_append, recB_len]; rfl
theorem sealed_parts (r : Rec) : (sealed r).take 33 = recB r ∧ ((sealed r).drop 33).take 4 = le4 (crc (recB r)) := by
  have h := recB_len r
  constructor
  · rw [sealed, ← h, List.take_left]
  · rw [sealed, ← h, List.drop_left]; rfl
theorem recB_le' {r : Rec} (h : MayR r) : ∀ x ∈ recB r, x ≤ 255 := mem_le (recB_le h)
theorem parE_sealed {r : Rec} (hf : r.Fits) (hm : MayR r) : parE (sealed r) = 0 ∧ parR (sealed r) = r := by
  obtain ⟨h1, h2⟩ := sealed_parts r
  have hcl := crc_lt (recB_le' hm)
  have hE : parE (sealed r) = 0 := by
    unfold parE
    rw [if_neg (by rw [sealed_len]; omega), h1, h2, nm_le4 hcl, if_pos rfl, recOf_recB hf hm, if_pos hm]
  exact ⟨hE, by rw [parR, if_pos hE, h1, recOf_recB hf hm]⟩
def r0 : Rec := ⟨1, 1, 2, 0, 0⟩
theorem r0_may : MayR r0 := by decide
theorem r0_fits : r0.Fits := ⟨by unfold I64 r0; decide, by unfold U64 r0; decide, by unfold U64 r0; decide, by unfold U64 r0; decide, by unfold U64 r0; decide⟩
theorem sealed_at (r : Rec) {i : Nat} (h : i < 33) : nth (sealed r) i = nth (recB r) i := by
  rw [nth_of (by rw [sealed_len]; omega), nth_of (by rw [recB_len]; omega)]
  unfold sealed
  rw [List.getElem_append_left]
set_option maxHeartbeats 3200000 in
theorem awake_ok {w : World} (hG : Glob w) : Calls Tryd.prog 7 #[] w fun e w' => e = .returned (.bool true) ∧ w.grownBy w' none := by
  have HBy : Hid (Calls Tryd.prog 8 #[recV r0] w fun e w' => ∃ g, e = .returned (.tuple #[.slice (some ⟨g, 0, none⟩) 37 37, num 0]) ∧ w.heap.size ≤ g ∧ w.grownBy w' none ∧ OwnB w' g (sealed r0) []) := Bytes_ok hG r0_may
  have HG := hide hG
  clear hG
  go_enter Tryd.func7, Tryd.ntmps7
  go_wp2_with fail
  refine HBy.out.mono ?_
  rintro e w1 ⟨g, rfl, hgg, hg1, hO⟩
  have hp := Parse_ok (Glob.more HG.out hg1) g 0 37 (sealed r0) hO.rdB (by rw [sealed_len]; omega) (by rw [sealed_len]; omega)
  unfold ParsePost at hp
  rw [(parE_sealed r0_fits r0_may).1, (parE_sealed r0_fits r0_may).2, sealed_len] at hp
  have HP := hide hp
  have HO := hide hO
  have Hg1 := hide hg1
  clear hp hO hg1 HG HBy
  go_wp2_with fail
  refine HP.out.mono ?_
  rintro e w2 ⟨rfl, hg2⟩
  have hO2 := OwnB.more HO.out hg2
  have c0 : w2.cell? ⟨g, 0, none⟩ = some (q8 1) := by rw [hO2.cell (by rw [sealed_len]; omega), sealed_at r0 (by omega)]; rfl
  have c1 : w2.cell? ⟨g, 1, none⟩ = some (q8 1) := by rw [hO2.cell (by rw [sealed_len]; omega), sealed_at r0 (by omega)]; rfl
  have c9 : w2.cell? ⟨g, 9, none⟩ = some (q8 2) := by rw [hO2.cell (by rw [sealed_len]; omega), sealed_at r0 (by omega)]; rfl
  have hgl : g < w2.heap.size := hO2.lt
  obtain ⟨V, hV⟩ : ∃ V, V = w2.alloc (.cells #[.int .i64 1, .int .u64 1, .int .u64 2, .int .u64 0, .int .u64 0] 24) := ⟨_, rfl⟩
  have hgV : w2.grownBy V none := by rw [hV]; exact World.grownBy_alloc w2 _ none
  have hgw := grownBy_trans (grownBy_trans Hg1.out hg2) hgV
  have HV := hide hV
  have Hgw := hide hgw
  clear HP HO Hg1 hg2 hO2 hV hgV hgw
  go_wp2_with (rw [← HV.out])
  go_ret
  exact ⟨rfl, Hgw.out⟩
/-! ### Whatever comes in -/
def bB (r : Rec) : List Nat := if MayR r then sealed r else []
def bE (r : Rec) : Int := if MayR r then 0 else 1
theorem bB_no {r : Rec} (h : ¬ MayR r) : bB r = [] ∧ bE r = 1 := ⟨if_neg h, if_neg h⟩
theorem bB_yes {r : Rec} (h : MayR r) : bB r = sealed r ∧ bE r = 0 := ⟨if_pos h, if_pos h⟩
theorem rd_nil (w : World) : RdB w none [] := ⟨fun i => by simp [nth], .inl rfl⟩
theorem Bytes_any {w : World} (hG : Glob w) (r : Rec) : Calls Tryd.prog 8 #[recV r] w fun e w' => ∃ ao cap, e = .returned (.tuple #[.slice ao (bB r).length cap, num (bE r)]) ∧ RdB w' ao (bB r) ∧ w.grownBy w' none := by
  by_cases h : MayR r
  · refine (Bytes_ok hG h).mono fun e w' hp => ?_
    obtain ⟨g, rfl, _, hg, hO⟩ := hp
    rw [(bB_yes h).1, (bB_yes h).2, sealed_len]
    exact ⟨_, _, rfl, hO.rdB, hg⟩
  · refine (Bytes_no h).mono fun e w' hp => ?_
    rw [(bB_no h).1, (bB_no h).2]
    exact ⟨none, 0, hp.1, rd_nil _, hp.2⟩
theorem kBytes_any {w : World} (r : Rec) : Calls Tryd.prog 9 #[recV r] w fun e w' => ∃ ao cap, e = .returned (.tuple #[.slice ao (bB r).length cap, num (bE r)]) ∧ RdB w' ao (bB r) ∧ (ao = none → cap = 0) ∧ w.grownBy w' none := by
  by_cases h : MayR r
  · refine (kBytes_ok h).mono fun e w' hp => ?_
    obtain ⟨ao, cap, rfl, hrd, hg⟩ := hp
    rw [(bB_yes h).1, (bB_yes h).2, sealed_len]
    refine ⟨_, _, rfl, hrd, fun e => ?_, hg⟩
    subst e
    rcases hrd.2 with e | ⟨_, _, e, _⟩
    · have := congrArg List.length e
      have h37 := sealed_len r
      unfold sealed at h37
      rw [h37] at this; simp at this
    · cases e
  · refine (kBytes_no h).mono fun e w' hp => ?_
    rw [(bB_no h).1, (bB_no h).2]
    exact ⟨none, 0, hp.1, rd_nil _, fun _ => rfl, hp.2⟩
theorem rd_place {w : World} {ao : Option Addr} {b : List Nat} (h : RdB w ao b) (hl : 0 < b.length) : ∃ g off, ao = some ⟨g, off, none⟩ := by
  rcases h.2 with e | ⟨g, off, e, _⟩
  · rw [e] at hl; simp at hl
  · exact ⟨g, off, e⟩
theorem Parse_any {w : World} (hG : Glob w) (ao : Option Addr) (cap : Nat) (b : List Nat) (hx : RdB w ao b) (hc : b.length ≤ cap) : Calls Tryd.prog 11 #[.slice ao b.length cap] w (ParsePost w b) := by
  by_cases h : b.length < 37
  · exact Parse_short ao cap b h
  · obtain ⟨g, off, rfl⟩ := rd_place hx (by omega)
    exact Parse_ok hG g off cap b hx (by omega) hc
theorem kParse_any {w : World} (ao : Option Addr) (cap : Nat) (b : List Nat) (hx : RdB w ao b) (hc : b.length ≤ cap) : Calls Tryd.prog 12 #[.slice ao b.length cap] w (ParsePost w b) := by
  by_cases h : b.length < 37
  · exact kParse_short ao cap b h
  · obtain ⟨g, off, rfl⟩ := rd_place hx (by omega)
    exact kParse_ok g off cap b hx (by omega) hc
set_option maxHeartbeats 1600000 in
theorem rSeal_cap {w : World} (ao : Option Addr) (cap : Nat) (bs : List Nat) (hx : RdB w ao bs) (hcap : ao = none → cap = 0) (hl : bs.length + 4 ≤ 140737488355328) :
    Calls Tryd.prog 10 #[.slice ao bs.length cap] w fun e w' => ∃ ao' cap', e = .returned (.slice ao' (bs ++ le4 (crc bs)).length cap') ∧ RdB w' ao' (bs ++ le4 (crc bs)) ∧ (bs ++ le4 (crc bs)).length ≤ cap' ∧ w.grownBy w' none := by
  obtain ⟨i0, hi, hz0, hz1, hz2⟩ := info_parts Tryd.info5
  have hsm := fun (w' : World) (hg : w.grownBy w' none) => kSum_ok (w := w') ao cap bs (hx.more hg) (by omega)
  have HS : Hid _ := hsm
  have hle := hx.le
  clear hsm
  go_enter Tryd.func10, Tryd.ntmps10
  go_wp2_with (at_builtin; refine wpList_append_bytes rfl _ _ rfl rfl ao bs cap rfl hx (by omega) hcap ?_; intro v1 w1 hown1 hg1)
  refine (HS.out w1 hg1).mono ?_
  rintro e w' ⟨rfl, rfl⟩
  have E4 : Hid (#[Value.int .u8 ((crc bs : Int) % 256), .int .u8 ((crc bs : Int) / 256 % 256), .int .u8 ((crc bs : Int) / 65536 % 256), .int .u8 ((crc bs : Int) / 16777216 % 256)] = (valsB (le4 (crc bs))).toArray) := by simp [Hid, valsB, le4]
  have hsz := hg1.size
  have hown2 := hown1.alloc (.cells (valsB (le4 (crc bs))).toArray 5)
  have hc4 : ∀ j u, (valsB (le4 (crc bs)))[j]? = some u → (w'.alloc (.cells (valsB (le4 (crc bs))).toArray 5)).cell? ((⟨w'.heap.size, 0, none⟩ : Addr).add j) = some u := fun j u hj => by
    rw [addr_add', Nat.zero_add, cell_row (heap_alloc_new w' _), hj]
  have HC : Hid _ := hc4
  have HW : Hid _ := hown2
  have HG : Hid _ := World.grownBy_alloc w' (.cells (valsB (le4 (crc bs))).toArray 5) none
  clear hown2 hc4 HS
  go_wp2_with (at_builtin; rw [E4.out]; refine wpList_append_own _ rfl _ _ 25 rfl w.heap.size 5 i0 (.int .u8 0) 1 1 Tryd.underlying25 hi hz0 hz1 hz2 rfl (by decide) _ _ _ rfl HW.out ⟨w'.heap.size, 0, none⟩ 4 4 (valsB (le4 (crc bs))) rfl rfl HC.out (valsB_one _) (by unfold maxLen; omega) (by omega) (by simp; omega) ?_; intro v2 w2 hown2 hgrow2 _)
  rw [← valsB_app] at hown2
  obtain ⟨ao', cap', rfl, hrd, hcp⟩ := rd_cap hown2 (mem_seal hle _)
  have hgw : w.grownBy w2 none := by
    have hob := hown1.lt
    have hs2 := hgrow2.size
    simp at hs2
    have hgg := grownBy_trans hg1 HG.out
    refine ⟨hgrow2.os.trans hgg.os, hgrow2.tape.trans hgg.tape, hgrow2.output.trans hgg.output, by omega, fun k hk _ => ?_⟩
    rw [hgrow2.block k (by simp; omega) (fun e => by have := (hob k e.symm).1; omega)]
    exact hgg.block k hk (by simp)
  clear hown2 hgrow2 HC HW HG
  go_wp2
  go_ret
  exact ⟨ao', cap', rfl, hrd, hcp, hgw⟩
end Rc
end Go.Proofs.YtfmkmfjmhpgglaaDoor
