/- The walk of CrcSums. -/
import Derived.Test.YtpdbjibjicbckaaDoorZXi
namespace Go.Proofs.YtpdbjibjicbckaaDoor
open Go.RowKit
namespace Cr
set_option maxHeartbeats 3200000 in
theorem law_CrcSums {w : World} (aa : Option Addr) (la ca : Nat) (xs : List Nat) (ha : ArgB w aa la xs) (hla : la ≤ 1048576 ∧ la ≤ ca ∧ (aa = none → ca = 0)) (ab : Option Addr) (lb cb : Nat) (bs : List Nat) (hb : ArgB w ab lb bs) (hlb : lb ≤ 1048576 ∧ lb ≤ cb ∧ (ab = none → cb = 0)) (v : Nat) (hv : W32 v) (hG : Glob w) (_h0 : 0 < w.heap.size) :
    Calls Tryd.prog 3 #[.slice aa la ca, .slice ab lb cb, q32 v] w fun e w' => e = .returned (.bool true) ∧ w.grownBy w' none := by
  obtain ⟨rfl, ha⟩ := ha
  obtain ⟨rfl, hb⟩ := hb
  obtain ⟨hla, hla2, hla3⟩ := hla
  obtain ⟨hlb, hlb2, hlb3⟩ := hlb
  go_enter Tryd.func3, Tryd.ntmps3
  go_wp2_with fail
  refine (awake_ok hG).mono ?_
  rintro e w1 ⟨rfl, hg1⟩
  have ha1 := ha.more hg1
  go_wp2_with (first | (at_builtin; refine wpList_append_bytes rfl _ _ rfl rfl aa xs ca rfl ha1 (by omega) hla3 ?_; intro v1 w2 hown1 hg2) | (at_builtin; refine wpList_append_more rfl _ _ rfl v1 xs rfl hown1 hg2.size ab bs cb rfl ((hb.more hg1).more hg2) (by omega) hlb3 ?_; intro v2 w3 hown2 hg3))
  have hgw : w.grownBy w3 none := grownBy_trans hg1 (grown_own hg2 hown1 hg3)
  have hle : ∀ x ∈ xs ++ bs, x ≤ 255 := fun x hx => by
    rcases List.mem_append.1 hx with hx | hx
    · exact ha.le x hx
    · exact hb.le x hx
  obtain ⟨ad, cd, rfl, hrd⟩ := rd_own hown2 hle
  have hsa := sum_ok (hG.more hgw) aa ca xs (ha.more hgw) (by omega)
  have hka := kSum_ok (w := w3) aa ca xs (ha.more hgw) (by omega)
  have hma := more_ok (hG.more hgw) (crc xs) (crc_lt ha.le) ab cb bs (hb.more hgw) (by omega)
  have hkb := kSum_ok (w := w3) ad cd (xs ++ bs) hrd (by simp; omega)
  have hmo := more_ok (hG.more hgw) v hv ab cb bs (hb.more hgw) (by omega)
  have hko := kMore_ok (w := w3) v hv ab cb bs (hb.more hgw) (by omega)
  rw [show more (crc xs) bs = crc (xs ++ bs) from more_app 0 xs bs] at hma
  generalize (xs ++ bs).length = N at hkb ⊢
  generalize crc (xs ++ bs) = C at hma hkb
  have HSA : Hid (Calls Tryd.prog 10 #[.slice aa xs.length ca] w3 _) := hsa
  have HKA : Hid (Calls Tryd.prog 11 #[.slice aa xs.length ca] w3 _) := hka
  have HMA : Hid (Calls Tryd.prog 12 #[q32 (crc xs), .slice ab bs.length cb] w3 _) := hma
  have HKB : Hid (Calls Tryd.prog 11 #[.slice ad N cd] w3 _) := hkb
  have HMO : Hid (Calls Tryd.prog 12 #[q32 v, .slice ab bs.length cb] w3 _) := hmo
  have HKO : Hid (Calls Tryd.prog 13 #[q32 v, .slice ab bs.length cb] w3 _) := hko
  clear hsa hka hma hkb hmo hko hown1 hown2 hg3 hg2 ha1
  go_wp2_with fail
  refine HSA.out.mono ?_
  rintro e w3 ⟨rfl, rfl⟩
  go_wp2_with fail
  refine HKA.out.mono ?_
  rintro e w3 ⟨rfl, rfl⟩
  go_wp2_with fail
  refine HSA.out.mono ?_
  rintro e w3 ⟨rfl, rfl⟩
  go_wp2_with fail
  refine HMA.out.mono ?_
  rintro e w3 ⟨rfl, rfl⟩
  go_wp2_with fail
  refine HKB.out.mono ?_
  rintro e w3 ⟨rfl, rfl⟩
  go_wp2_with fail
  refine HMO.out.mono ?_
  rintro e w3 ⟨rfl, rfl⟩
  go_wp2_with fail
  refine HKO.out.mono ?_
  rintro e w3 ⟨rfl, rfl⟩
  go_wp2
  go_ret
  exact ⟨rfl, hgw⟩
end Cr
end Go.Proofs.YtpdbjibjicbckaaDoor
