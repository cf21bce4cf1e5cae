/- The walk of RecordBytes. -/
import Derived.Test.YtfmkmfjmhpgglaaDoorRh
namespace Go.Proofs.YtfmkmfjmhpgglaaDoor
open Go.RowKit
namespace Rc
open Cr
set_option maxHeartbeats 6400000 in
theorem law_RecordBytes (r : Rec) (_hf : r.Fits) (ao : Option Addr) (len cap : Nat) (bs : List Nat) {w : World} (hx : ArgB w ao len bs) (hl : len ≤ 140737488351232 ∧ len ≤ cap ∧ (ao = none → cap = 0)) (o : Bool) (hG : Glob w) (_h0 : 0 < w.heap.size) :
    Calls Tryd.prog 3 #[recV r, .slice ao len cap, .bool o] w fun e w' => e = .returned (.bool true) ∧ w.grownBy w' none := by
  obtain ⟨rfl, hx⟩ := hx
  obtain ⟨hl1, hl2, hl3⟩ := hl
  have hA := World.grownBy_alloc w (recL r) none
  have hbx := heap_alloc_new w (recL r)
  have HGl : Hid (∀ W : World, w.grownBy W none → Glob W) := fun W h => Glob.more hG h
  have HAw := hide (awake_ok (Glob.more hG hA))
  have HX := hide hx
  have HA := hide hA
  have HBx := hide hbx
  clear hG hA hx hbx
  go_enter Tryd.func3, Tryd.ntmps3
  go_wp2_with fail
  refine HAw.out.mono ?_
  rintro e w1 ⟨rfl, hg1⟩
  have hgw1 := grownBy_trans HA.out hg1
  have hb1 := obj_more HBx.out hg1
  obtain ⟨x0, x1, x2, x3, x4⟩ := cells5 hb1
  have HB1 := hide hb1
  have HG1 := hide hgw1
  have HBy := hide (Bytes_any (HGl.out w1 hgw1) r)
  clear hg1 hgw1 hb1 HAw HA HBx
  go_wp2_with fail
  refine HBy.out.mono ?_
  rintro e w2 ⟨a2, c2, rfl, hr2, hg2⟩
  have hgw2 := grownBy_trans HG1.out hg2
  have hb2 := obj_more HB1.out hg2
  clear x0 x1 x2 x3 x4
  obtain ⟨x0, x1, x2, x3, x4⟩ := cells5 hb2
  have HR2 := hide hr2
  have HG2 := hide hgw2
  have HKB := hide (kBytes_any (w := w2) r)
  clear hg2 hgw2 hb2 hr2 HB1 HG1 HBy
  go_wp2_with fail
  refine HKB.out.mono ?_
  rintro e w3 ⟨a3, c3, rfl, hr3, _, hg3⟩
  have hgw3 := grownBy_trans HG2.out hg3
  have HR3 := hide hr3
  have HR2 := hide (HR2.out.more hg3)
  have HG3 := hide hgw3
  clear x0 x1 x2 x3 x4 hg3 hgw3 hr3 HG2 HKB
  cases o with
  | false =>
    have HRx := hide (HX.out.more HG3.out)
    have hgW := HG3.out
    have HP := hide (Parse_any (HGl.out w3 hgW) ao cap bs HRx.out hl2)
    have HK := hide (fun (W' : World) (h : World.grownBy w3 W' none) => kParse_any (w := W') ao cap bs ((HRx.out).more h) hl2)
    obtain ⟨P, hP⟩ : ∃ P, parR (bs) = P := ⟨_, rfl⟩
    obtain ⟨E, hE⟩ : ∃ E, parE (bs) = E := ⟨_, rfl⟩
    have HE : Hid (∀ (W e w'), ParsePost W (bs) e w' → e = .returned (.tuple #[recV P, num E]) ∧ W.grownBy w' none) := fun W e w' h => by rw [ParsePost, hP, hE] at h; exact h
    clear hP hE hgW
    go_wp2_with fail
    refine HP.out.mono fun e w5 hp5 => ?_
    obtain ⟨rfl, hg5⟩ := HE.out _ _ _ hp5
    obtain ⟨V5, hV5⟩ : ∃ V5, V5 = w5.alloc (.cells #[.int .i64 P.kind, .int .u64 P.seq, .int .u64 P.a, .int .u64 P.b, .int .u64 P.c] 24) := ⟨_, rfl⟩
    have hgV5 : w5.grownBy V5 none := by rw [hV5]; exact World.grownBy_alloc w5 _ none
    have hbV5 : V5.heap[w5.heap.size]? = some (recL P) := by rw [hV5]; exact heap_alloc_new w5 _
    have hg35 := grownBy_trans hg5 hgV5
    have HK5 := hide (HK.out V5 hg35)
    have HV5 := hide hV5
    have HB5 := hide hbV5
    have HG35 := hide hg35
    clear hp5 hg5 hV5 hgV5 hbV5 hg35 HP HK
    go_wp2_with (rw [← HV5.out])
    refine HK5.out.mono fun e w6 hp6 => ?_
    obtain ⟨rfl, hg6⟩ := HE.out _ _ _ hp6
    obtain ⟨V6, hV6⟩ : ∃ V6, V6 = w6.alloc (.cells #[.int .i64 P.kind, .int .u64 P.seq, .int .u64 P.a, .int .u64 P.b, .int .u64 P.c] 24) := ⟨_, rfl⟩
    have hgV6 : w6.grownBy V6 none := by rw [hV6]; exact World.grownBy_alloc w6 _ none
    have hbV6 : V6.heap[w6.heap.size]? = some (recL P) := by rw [hV6]; exact heap_alloc_new w6 _
    have hg36 := grownBy_trans HG35.out (grownBy_trans hg6 hgV6)
    have hfin := grownBy_trans HG3.out hg36
    have hv1 := conv_ok (HR2.out.more hg36) c2
    have hv2 := conv_ok (HR3.out.more hg36) c3
    obtain ⟨y0, y1, y2, y3, y4⟩ := cells5 (obj_more HB5.out (grownBy_trans hg6 hgV6))
    obtain ⟨z0, z1, z2, z3, z4⟩ := cells5 hbV6
    have HV6 := hide hV6
    have HF := hide hfin
    generalize strB (bB r) = S at hv1 hv2
    clear hp6 hg6 hV6 hgV6 hbV6 hg36 hfin HK5 HV5 HB5 HG35 HE HG3 HR2 HR3
    go_wp2_with (rw [← HV6.out])
    go_ret
    exact ⟨rfl, HF.out⟩
  | true =>
    have HS := hide (rSeal_cap ao cap bs (HX.out.more HG3.out) hl3 (by omega))
    go_wp2_with fail
    refine HS.out.mono ?_
    rintro e w4 ⟨ax, cx, rfl, hrx, hcx, hg4⟩
    have hgw4 := grownBy_trans HG3.out hg4
    have HR3 := hide (HR3.out.more hg4)
    have HR2 := hide (HR2.out.more hg4)
    have HG3 := hide hgw4
    have HRx := hide hrx
    generalize bs ++ le4 (crc bs) = B at hcx HRx
    clear hg4 hgw4 hrx HS
    have hgW := HG3.out
    have HP := hide (Parse_any (HGl.out w4 hgW) ax cx B HRx.out hcx)
    have HK := hide (fun (W' : World) (h : World.grownBy w4 W' none) => kParse_any (w := W') ax cx B ((HRx.out).more h) hcx)
    obtain ⟨P, hP⟩ : ∃ P, parR (B) = P := ⟨_, rfl⟩
    obtain ⟨E, hE⟩ : ∃ E, parE (B) = E := ⟨_, rfl⟩
    have HE : Hid (∀ (W e w'), ParsePost W (B) e w' → e = .returned (.tuple #[recV P, num E]) ∧ W.grownBy w' none) := fun W e w' h => by rw [ParsePost, hP, hE] at h; exact h
    clear hP hE hgW
    go_wp2_with fail
    refine HP.out.mono fun e w5 hp5 => ?_
    obtain ⟨rfl, hg5⟩ := HE.out _ _ _ hp5
    obtain ⟨V5, hV5⟩ : ∃ V5, V5 = w5.alloc (.cells #[.int .i64 P.kind, .int .u64 P.seq, .int .u64 P.a, .int .u64 P.b, .int .u64 P.c] 24) := ⟨_, rfl⟩
    have hgV5 : w5.grownBy V5 none := by rw [hV5]; exact World.grownBy_alloc w5 _ none
    have hbV5 : V5.heap[w5.heap.size]? = some (recL P) := by rw [hV5]; exact heap_alloc_new w5 _
    have hg35 := grownBy_trans hg5 hgV5
    have HK5 := hide (HK.out V5 hg35)
    have HV5 := hide hV5
    have HB5 := hide hbV5
    have HG35 := hide hg35
    clear hp5 hg5 hV5 hgV5 hbV5 hg35 HP HK
    go_wp2_with (rw [← HV5.out])
    refine HK5.out.mono fun e w6 hp6 => ?_
    obtain ⟨rfl, hg6⟩ := HE.out _ _ _ hp6
    obtain ⟨V6, hV6⟩ : ∃ V6, V6 = w6.alloc (.cells #[.int .i64 P.kind, .int .u64 P.seq, .int .u64 P.a, .int .u64 P.b, .int .u64 P.c] 24) := ⟨_, rfl⟩
    have hgV6 : w6.grownBy V6 none := by rw [hV6]; exact World.grownBy_alloc w6 _ none
    have hbV6 : V6.heap[w6.heap.size]? = some (recL P) := by rw [hV6]; exact heap_alloc_new w6 _
    have hg36 := grownBy_trans HG35.out (grownBy_trans hg6 hgV6)
    have hfin := grownBy_trans HG3.out hg36
    have hv1 := conv_ok (HR2.out.more hg36) c2
    have hv2 := conv_ok (HR3.out.more hg36) c3
    obtain ⟨y0, y1, y2, y3, y4⟩ := cells5 (obj_more HB5.out (grownBy_trans hg6 hgV6))
    obtain ⟨z0, z1, z2, z3, z4⟩ := cells5 hbV6
    have HV6 := hide hV6
    have HF := hide hfin
    generalize strB (bB r) = S at hv1 hv2
    clear hp6 hg6 hV6 hgV6 hbV6 hg36 hfin HK5 HV5 HB5 HG35 HE HG3 HR2 HR3
    go_wp2_with (rw [← HV6.out])
    go_ret
    exact ⟨rfl, HF.out⟩
end Rc
end Go.Proofs.YtfmkmfjmhpgglaaDoor
