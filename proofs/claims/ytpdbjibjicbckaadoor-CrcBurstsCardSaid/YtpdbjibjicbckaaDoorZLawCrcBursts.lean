/- The walk of CrcBursts. -/
import Derived.Test.YtpdbjibjicbckaaDoorZXf
import Derived.Test.YtpdbjibjicbckaaDoorZXg
import Derived.Test.YtpdbjibjicbckaaDoorZXh
namespace Go.Proofs.YtpdbjibjicbckaaDoor
open Go.RowKit
namespace Cr
set_option maxHeartbeats 3200000 in
set_option maxRecDepth 4000 in
theorem law_CrcBursts (ao : Option Addr) (len cap : Nat) (bs : List Nat) {w : World} (hx : ArgB w ao len bs) (hl : len ≤ 140737488351232 ∧ len ≤ cap ∧ (ao = none → cap = 0)) (at_ : Int) (ha : I64 at_) (v : Nat) (hv : W32 v) (hG : Glob w) (_h0 : 0 < w.heap.size) :
    Calls Tryd.prog 7 #[.slice ao len cap, num at_, q32 v] w fun e w' => e = .returned (.bool true) ∧ w.grownBy w' none := by
  obtain ⟨rfl, hx⟩ := hx
  by_cases hv0 : v = 0
  · subst hv0
    go_enter Tryd.func7, Tryd.ntmps7
    go_wp2_with fail
    refine (awake_ok hG).mono ?_
    rintro e w1 ⟨rfl, hg1⟩
    go_wp2
    go_ret
    exact ⟨rfl, hg1⟩
  have v0 : ((v : Int) == 0) = false := by simp; omega
  by_cases h5 : bs.length < 5
  · have h5' : decide ((bs.length : Int) < 5) = true := by simp; omega
    go_enter Tryd.func7, Tryd.ntmps7
    go_wp2_with fail
    refine (awake_ok hG).mono ?_
    rintro e w1 ⟨rfl, hg1⟩
    go_wp2
    go_ret
    exact ⟨rfl, hg1⟩
  have h5' : decide ((bs.length : Int) < 5) = false := by simp; omega
  have hm : ∀ n : Nat, (n : Int).tmod (8 * (bs.length : Int) - 31) = ((n % (8 * bs.length - 31) : Nat) : Int) := fun n => by
    rw [show (8 * (bs.length : Int) - 31) = ((8 * bs.length - 31 : Nat) : Int) by omega, Int.ofNat_tmod]
  by_cases hneg : at_ < 0
  · obtain ⟨n, rfl⟩ : ∃ n : Nat, at_ = -((n : Int) + 1) := ⟨(-(at_ + 1)).toNat, by omega⟩
    have hA := hm n
    have hAl : n % (8 * bs.length - 31) < 8 * bs.length - 31 := Nat.mod_lt _ (by omega)
    generalize n % (8 * bs.length - 31) = A at hA hAl
    have hA : -((-((n : Int) + 1) + 1).tmod (8 * (bs.length : Int) - 31)) = (A : Int) := by
      rw [show -((n : Int) + 1) + 1 = -(n : Int) by omega, Int.neg_tmod, Int.neg_neg]; exact hA
    have hn := ha.1
    clear ha hm
    go_enter Tryd.func7, Tryd.ntmps7
    go_wp2_with fail
    refine (awake_ok hG).mono ?_
    rintro e w1 ⟨rfl, hg1⟩
    have hx1 := hx.more hg1
    go_wp2_with (at_builtin; refine wpList_append_bytes rfl _ _ rfl rfl ao bs cap rfl hx1 (by omega) hl.2.2 ?_; intro v1 w2 hown1 hg2)
    obtain ⟨g, T, rfl, hgg, hO⟩ := own_of hown1 hx.1 (by omega)
    have hsz1 := hg1.size
    have hgw2 := grownBy_trans hg1 hg2
    have hT := TurnRel.start hO hgw2 v A
    clear hown1 hO hx1 hg2
    go_wp2_with fail
    go_loopw [9] (fun i wr => ∃ k : Nat, k ≤ 32 ∧ i = num k ∧ TurnRel w wr g bs T v A k) (fun i _ => 32 - (intOf i).toNat)
    case atStart => exact ⟨0, Nat.zero_le _, rfl, hT⟩
    case round =>
      clear hT hgw2 hn hneg hA
      obtain ⟨k, hk, rfl, hT⟩ := hrel
      by_cases hlt : k < 32
      · have b1 : (k : Int) < 32 := by omega
        have hbv := bit_v (i := k) hv
        rcases htb : v.testBit k with _ | _
        · have hN := hT.skip htb
          rw [htb] at hbv
          have hbv' : bits .and .u32 ((v : Int) / 2 ^ k) 1 = 0 := hbv
          clear hbv htb hT
          go_wp2
          go_roundw
          case rel => exact ⟨k + 1, by omega, by go_num, hN⟩
          case measure => simp [intOf]; omega
        · obtain ⟨x, hx255, ck, zk, hN⟩ := hT.turn htb (by omega) (by omega)
          rw [htb] at hbv
          have hbv' : bits .and .u32 ((v : Int) / 2 ^ k) 1 = 1 := hbv
          have hr8 : (A + k) % 8 < 8 := Nat.mod_lt _ (by decide)
          have hp : 2 ^ ((A + k) % 8) ≤ 255 := Nat.le_trans (Nat.pow_le_pow_right (by decide) (show (A + k) % 8 ≤ 7 by omega)) (by decide)
          have ex : bits .xor .u8 (x : Int) ((2 : Int) ^ ((A + k) % 8)) = ((x ^^^ 2 ^ ((A + k) % 8) : Nat) : Int) := by simpa using xor_u8 hx255 hp
          have es := shl_one hr8
          have j1 : ((A : Int) + (k : Int)) / 8 = (((A + k) / 8 : Nat) : Int) := by omega
          have j2 : ((A : Int) + (k : Int)) % 8 = (((A + k) % 8 : Nat) : Int) := by omega
          have j3 : (A + k) / 8 < bs.length := by omega
          generalize (A + k) / 8 = J at ck zk hN j1 j3
          generalize (A + k) % 8 = M at hr8 hp ex es j2 hN
          generalize x ^^^ 2 ^ M = y at ex hN
          clear hbv htb hT
          go_wp2
          go_roundw
          case rel => exact ⟨k + 1, by omega, by go_num, hN⟩
          case measure => simp [intOf]; omega
      · obtain rfl : k = 32 := by omega
        obtain ⟨⟨C, hC1, hC2, hC3⟩, hfin⟩ := hT
        rw [show v % 2 ^ 32 = v from Nat.mod_eq_of_lt hv] at hC2
        have hne := crc_burst hC1 hv hv0 (by omega) hC2
        have hne' : ((crc bs : Int) != (crc C : Int)) = true := by simp; omega
        have s1 := sum_ok (hG.more hfin) ao cap bs (hx.more hfin) (by omega)
        have s2 := sum_ok (hG.more hfin) (some ⟨g, 0, none⟩) (bs.length + T.length) C hC3.rdB (by omega)
        rw [hC1] at s2
        have HS1 : Hid (Calls Tryd.prog 10 #[.slice ao bs.length cap] wr _) := s1
        have HS2 : Hid (Calls Tryd.prog 10 #[.slice (some ⟨g, 0, none⟩) bs.length (bs.length + T.length)] wr _) := s2
        clear s1 s2 hne hC1 hC2 hC3
        go_wp2_with fail
        refine HS1.out.mono ?_
        rintro e wr ⟨rfl, rfl⟩
        go_wp2_with fail
        refine HS2.out.mono ?_
        rintro e wr ⟨rfl, rfl⟩
        go_wp2
        go_ret
        exact ⟨rfl, hfin⟩
  · obtain ⟨n, rfl⟩ := Int.eq_ofNat_of_zero_le (show 0 ≤ at_ by omega)
    have hA := hm n
    have hAl : n % (8 * bs.length - 31) < 8 * bs.length - 31 := Nat.mod_lt _ (by omega)
    generalize n % (8 * bs.length - 31) = A at hA hAl
    have hn := ha.2
    clear ha hm
    go_enter Tryd.func7, Tryd.ntmps7
    go_wp2_with fail
    refine (awake_ok hG).mono ?_
    rintro e w1 ⟨rfl, hg1⟩
    have hx1 := hx.more hg1
    go_wp2_with (at_builtin; refine wpList_append_bytes rfl _ _ rfl rfl ao bs cap rfl hx1 (by omega) hl.2.2 ?_; intro v1 w2 hown1 hg2)
    obtain ⟨g, T, rfl, hgg, hO⟩ := own_of hown1 hx.1 (by omega)
    have hsz1 := hg1.size
    have hgw2 := grownBy_trans hg1 hg2
    have hT := TurnRel.start hO hgw2 v A
    clear hown1 hO hx1 hg2
    go_wp2_with fail
    go_loopw [9] (fun i wr => ∃ k : Nat, k ≤ 32 ∧ i = num k ∧ TurnRel w wr g bs T v A k) (fun i _ => 32 - (intOf i).toNat)
    case atStart => exact ⟨0, Nat.zero_le _, rfl, hT⟩
    case round =>
      clear hT hgw2 hn hneg hA
      obtain ⟨k, hk, rfl, hT⟩ := hrel
      by_cases hlt : k < 32
      · have b1 : (k : Int) < 32 := by omega
        have hbv := bit_v (i := k) hv
        rcases htb : v.testBit k with _ | _
        · have hN := hT.skip htb
          rw [htb] at hbv
          have hbv' : bits .and .u32 ((v : Int) / 2 ^ k) 1 = 0 := hbv
          clear hbv htb hT
          go_wp2
          go_roundw
          case rel => exact ⟨k + 1, by omega, by go_num, hN⟩
          case measure => simp [intOf]; omega
        · obtain ⟨x, hx255, ck, zk, hN⟩ := hT.turn htb (by omega) (by omega)
          rw [htb] at hbv
          have hbv' : bits .and .u32 ((v : Int) / 2 ^ k) 1 = 1 := hbv
          have hr8 : (A + k) % 8 < 8 := Nat.mod_lt _ (by decide)
          have hp : 2 ^ ((A + k) % 8) ≤ 255 := Nat.le_trans (Nat.pow_le_pow_right (by decide) (show (A + k) % 8 ≤ 7 by omega)) (by decide)
          have ex : bits .xor .u8 (x : Int) ((2 : Int) ^ ((A + k) % 8)) = ((x ^^^ 2 ^ ((A + k) % 8) : Nat) : Int) := by simpa using xor_u8 hx255 hp
          have es := shl_one hr8
          have j1 : ((A : Int) + (k : Int)) / 8 = (((A + k) / 8 : Nat) : Int) := by omega
          have j2 : ((A : Int) + (k : Int)) % 8 = (((A + k) % 8 : Nat) : Int) := by omega
          have j3 : (A + k) / 8 < bs.length := by omega
          generalize (A + k) / 8 = J at ck zk hN j1 j3
          generalize (A + k) % 8 = M at hr8 hp ex es j2 hN
          generalize x ^^^ 2 ^ M = y at ex hN
          clear hbv htb hT
          go_wp2
          go_roundw
          case rel => exact ⟨k + 1, by omega, by go_num, hN⟩
          case measure => simp [intOf]; omega
      · obtain rfl : k = 32 := by omega
        obtain ⟨⟨C, hC1, hC2, hC3⟩, hfin⟩ := hT
        rw [show v % 2 ^ 32 = v from Nat.mod_eq_of_lt hv] at hC2
        have hne := crc_burst hC1 hv hv0 (by omega) hC2
        have hne' : ((crc bs : Int) != (crc C : Int)) = true := by simp; omega
        have s1 := sum_ok (hG.more hfin) ao cap bs (hx.more hfin) (by omega)
        have s2 := sum_ok (hG.more hfin) (some ⟨g, 0, none⟩) (bs.length + T.length) C hC3.rdB (by omega)
        rw [hC1] at s2
        have HS1 : Hid (Calls Tryd.prog 10 #[.slice ao bs.length cap] wr _) := s1
        have HS2 : Hid (Calls Tryd.prog 10 #[.slice (some ⟨g, 0, none⟩) bs.length (bs.length + T.length)] wr _) := s2
        clear s1 s2 hne hC1 hC2 hC3
        go_wp2_with fail
        refine HS1.out.mono ?_
        rintro e wr ⟨rfl, rfl⟩
        go_wp2_with fail
        refine HS2.out.mono ?_
        rintro e wr ⟨rfl, rfl⟩
        go_wp2
        go_ret
        exact ⟨rfl, hfin⟩
end Cr
end Go.Proofs.YtpdbjibjicbckaaDoor
