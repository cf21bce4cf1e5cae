/- The walk of CrcTurned. -/
import Derived.Test.YtpdbjibjicbckabDoorZXg
import Derived.Test.YtpdbjibjicbckabDoorZXh
namespace Go.Proofs.YtpdbjibjicbckabDoor
open Go.RowKit
namespace Cr
theorem own_parts {w : World} {g : Nat} {a b : List Nat} (h : OwnB w g (a ++ b) []) : RdB w (some ⟨g, 0, none⟩) a ∧ RdB w (some ⟨g, 0 + a.length, none⟩) b := by
  have hc := fun (k : Nat) (hk : k < (a ++ b).length) => h.cell hk
  have n1 : ∀ i, i < a.length → nth (a ++ b) i = nth a i := fun i hi => by rw [nth_of (by simp; omega), nth_of hi, List.getElem_append_left hi]
  have n2 : ∀ i, i < b.length → nth (a ++ b) (a.length + i) = nth b i := fun i hi => by rw [nth_of (by simp; omega), nth_of hi, List.getElem_append_right (by omega)]; simp
  refine ⟨⟨fun i => ?_, .inr ⟨g, 0, rfl, fun i hi => ?_⟩⟩, ⟨fun i => ?_, .inr ⟨g, _, rfl, fun i hi => ?_⟩⟩⟩
  · by_cases hi : i < a.length
    · rw [← n1 i hi]; exact h.le i
    · rw [nth_over _ (by omega)]; omega
  · rw [Nat.zero_add, hc i (by simp; omega), n1 i hi]
  · by_cases hi : i < b.length
    · rw [← n2 i hi]; exact h.le _
    · rw [nth_over _ (by omega)]; omega
  · rw [Nat.zero_add, hc _ (by simp; omega), n2 i hi]
set_option maxHeartbeats 3200000 in
set_option maxRecDepth 4000 in
theorem law_CrcTurned (ao : Option Addr) (len cap : Nat) (bs : List Nat) {w : World} (hx : ArgB w ao len bs) (hl : len ≤ 140737488351232 ∧ len ≤ cap ∧ (ao = none → cap = 0)) (at_ : Int) (ha : I64 at_) (v : Nat) (hv : W32 v) (hG : Glob w) (_h0 : 0 < w.heap.size) :
    Calls Tryd.prog 3 #[.slice ao len cap, num at_, q32 v] w fun e w' => e = .returned (.bool true) ∧ w.grownBy w' none := by
  obtain ⟨rfl, hx⟩ := hx
  by_cases hv0 : v = 0
  · subst hv0
    go_enter Tryd.func3, Tryd.ntmps3
    go_wp2_with fail
    refine (awake_ok hG).mono ?_
    rintro e w1 ⟨rfl, hg1⟩
    go_wp2
    go_ret
    exact ⟨rfl, hg1⟩
  have v0 : ((v : Int) == 0) = false := by simp; omega
  by_cases h5 : 500 < bs.length
  · have h5' : decide ((500 : Int) < (bs.length : Int)) = true := by simp; omega
    go_enter Tryd.func3, Tryd.ntmps3
    go_wp2_with fail
    refine (awake_ok hG).mono ?_
    rintro e w1 ⟨rfl, hg1⟩
    go_wp2
    go_ret
    exact ⟨rfl, hg1⟩
  have h5' : decide ((500 : Int) < (bs.length : Int)) = false := by simp; omega
  have hcl := crc_lt hx.le
  have hL4 : (bs ++ le4 (crc bs)).length = bs.length + 4 := by simp [le4]
  have hsealed := (open_iff hx.le (le4_le (crc bs)) rfl).1 (nm_le4 hcl)
  have HL4 : Hid _ := hL4
  have HSd : Hid _ := hsealed
  clear hL4 hsealed hcl
  have hm : ∀ n : Nat, (n : Int).tmod (8 * ((bs.length : Int) + 4) - 31) = ((n % (8 * (bs.length + 4) - 31) : Nat) : Int) := fun n => by
    rw [show (8 * ((bs.length : Int) + 4) - 31) = ((8 * (bs.length + 4) - 31 : Nat) : Int) by omega, Int.ofNat_tmod]
  by_cases hneg : at_ < 0
  · obtain ⟨n, rfl⟩ : ∃ n : Nat, at_ = -((n : Int) + 1) := ⟨(-(at_ + 1)).toNat, by omega⟩
    have hA := hm n
    have hAl : n % (8 * (bs.length + 4) - 31) < 8 * (bs.length + 4) - 31 := Nat.mod_lt _ (by omega)
    generalize n % (8 * (bs.length + 4) - 31) = A at hA hAl
    have hA : -((-((n : Int) + 1) + 1).tmod (8 * ((bs.length : Int) + 4) - 31)) = (A : Int) := by
      rw [show -((n : Int) + 1) + 1 = -(n : Int) by omega, Int.neg_tmod, Int.neg_neg]; exact hA
    have hn := ha.1
    clear ha hm
    go_enter Tryd.func3, Tryd.ntmps3
    go_wp2_with fail
    refine (awake_ok hG).mono ?_
    rintro e w1 ⟨rfl, hg1⟩
    have hx1 := hx.more hg1
    go_wp2_with fail
    refine (seal_ok (hG.more hg1) ao cap bs hx1 (by omega)).mono ?_
    rintro e w2 ⟨g, rfl, hgg, hg2, hO⟩
    have hsz1 := hg1.size
    have hgw2 := grownBy_trans hg1 hg2
    have hT := TurnRel.start hO hgw2 v A
    generalize hLL : bs ++ le4 (crc bs) = L at hT HL4 HSd
    have HLL : Hid _ := hLL
    clear hO hx1 hg2 hLL
    go_wp2_with fail
    go_loopw [9] (fun i wr => ∃ k : Nat, k ≤ 32 ∧ i = num k ∧ TurnRel w wr g L [] v A k) (fun i _ => 32 - (intOf i).toNat)
    case atStart => exact ⟨0, Nat.zero_le _, rfl, hT⟩
    case round =>
      clear hT hgw2 hn hneg hA
      obtain ⟨k, hk, rfl, hT⟩ := hrel
      by_cases hlt : k < 32
      · have b1 : (k : Int) < 32 := by omega
        have hbv := bit_v (i := k) hv
        rcases htb : v.testBit k with _ | _
        · have hN := hT.skip htb
          rw [htb] at hbv
          have hbv' : bits .and .u32 ((v : Int) / 2 ^ k) 1 = 0 := hbv
          clear hbv htb hT
          go_wp2
          go_roundw
          case rel => exact ⟨k + 1, by omega, by go_num, hN⟩
          case measure => simp [intOf]; omega
        · obtain ⟨x, hx255, ck, zk, hN⟩ := hT.turn htb (by rw [HL4.out]; omega) (by omega)
          rw [htb] at hbv
          have hbv' : bits .and .u32 ((v : Int) / 2 ^ k) 1 = 1 := hbv
          have hr8 : (A + k) % 8 < 8 := Nat.mod_lt _ (by decide)
          have hp : 2 ^ ((A + k) % 8) ≤ 255 := Nat.le_trans (Nat.pow_le_pow_right (by decide) (show (A + k) % 8 ≤ 7 by omega)) (by decide)
          have ex : bits .xor .u8 (x : Int) ((2 : Int) ^ ((A + k) % 8)) = ((x ^^^ 2 ^ ((A + k) % 8) : Nat) : Int) := by simpa using xor_u8 hx255 hp
          have es := shl_one hr8
          have j1 : ((A : Int) + (k : Int)) / 8 = (((A + k) / 8 : Nat) : Int) := by omega
          have j2 : ((A : Int) + (k : Int)) % 8 = (((A + k) % 8 : Nat) : Int) := by omega
          have j3 : (A + k) / 8 < bs.length + 4 := by omega
          generalize (A + k) / 8 = J at ck zk hN j1 j3
          generalize (A + k) % 8 = M at hr8 hp ex es j2 hN
          generalize x ^^^ 2 ^ M = y at ex hN
          clear hbv htb hT
          go_wp2
          go_roundw
          case rel => exact ⟨k + 1, by omega, by go_num, hN⟩
          case measure => simp [intOf]; omega
      · obtain rfl : k = 32 := by omega
        obtain ⟨⟨C, hC1, hC2, hC3⟩, hfin⟩ := hT
        rw [show v % 2 ^ 32 = v from Nat.mod_eq_of_lt hv] at hC2
        have hne := burst_ne (r := FF) hC1 hv hv0 (by rw [HL4.out]; omega) hC2
        rw [HSd.out] at hne
        have hCl : C.length = bs.length + 4 := hC1.trans HL4.out
        have hCs : C.take bs.length ++ C.drop bs.length = C := List.take_append_drop _ _
        have hC4 := hC3
        rw [← hCs] at hC4
        obtain ⟨hd, ht⟩ := own_parts hC4
        have hdl : (C.take bs.length).length = bs.length := by simp; omega
        have htl : (C.drop bs.length).length = 4 := by simp; omega
        have hbad : ¬ nm (C.drop bs.length) = crc (C.take bs.length) := fun e => hne (by
          have := (open_iff hd.le ht.le htl).1 e
          rwa [hCs] at this)
        have ho := open_ok (hG.more hfin) g 0 (bs.length + 4) _ _ hd ht htl (by omega) (by omega)
        rw [hdl] at ho
        have HO : Hid (Calls Tryd.prog 6 #[.slice (some ⟨g, 0, none⟩) (bs.length + 4) (bs.length + 4)] wr fun e w' => e = .returned (.tuple #[.slice none 0 0, num 30]) ∧ w.grownBy w' none) := by
          refine ho.mono fun e w' hp => ?_
          rw [OpenPost, if_neg (by simpa using hbad)] at hp
          exact ⟨hp.1, grownBy_trans hfin hp.2⟩
        clear ho hbad hdl htl hd ht hC4 hCs hCl hne hC1 hC2 hC3 HLL HL4 HSd
        go_wp2_with fail
        refine HO.out.mono ?_
        rintro e w3 ⟨rfl, hfin3⟩
        go_wp2
        go_ret
        exact ⟨rfl, hfin3⟩
  · obtain ⟨n, rfl⟩ := Int.eq_ofNat_of_zero_le (show 0 ≤ at_ by omega)
    have hA := hm n
    have hAl : n % (8 * (bs.length + 4) - 31) < 8 * (bs.length + 4) - 31 := Nat.mod_lt _ (by omega)
    generalize n % (8 * (bs.length + 4) - 31) = A at hA hAl
    have hn := ha.2
    clear ha hm
    go_enter Tryd.func3, Tryd.ntmps3
    go_wp2_with fail
    refine (awake_ok hG).mono ?_
    rintro e w1 ⟨rfl, hg1⟩
    have hx1 := hx.more hg1
    go_wp2_with fail
    refine (seal_ok (hG.more hg1) ao cap bs hx1 (by omega)).mono ?_
    rintro e w2 ⟨g, rfl, hgg, hg2, hO⟩
    have hsz1 := hg1.size
    have hgw2 := grownBy_trans hg1 hg2
    have hT := TurnRel.start hO hgw2 v A
    generalize hLL : bs ++ le4 (crc bs) = L at hT HL4 HSd
    have HLL : Hid _ := hLL
    clear hO hx1 hg2 hLL
    go_wp2_with fail
    go_loopw [9] (fun i wr => ∃ k : Nat, k ≤ 32 ∧ i = num k ∧ TurnRel w wr g L [] v A k) (fun i _ => 32 - (intOf i).toNat)
    case atStart => exact ⟨0, Nat.zero_le _, rfl, hT⟩
    case round =>
      clear hT hgw2 hn hneg hA
      obtain ⟨k, hk, rfl, hT⟩ := hrel
      by_cases hlt : k < 32
      · have b1 : (k : Int) < 32 := by omega
        have hbv := bit_v (i := k) hv
        rcases htb : v.testBit k with _ | _
        · have hN := hT.skip htb
          rw [htb] at hbv
          have hbv' : bits .and .u32 ((v : Int) / 2 ^ k) 1 = 0 := hbv
          clear hbv htb hT
          go_wp2
          go_roundw
          case rel => exact ⟨k + 1, by omega, by go_num, hN⟩
          case measure => simp [intOf]; omega
        · obtain ⟨x, hx255, ck, zk, hN⟩ := hT.turn htb (by rw [HL4.out]; omega) (by omega)
          rw [htb] at hbv
          have hbv' : bits .and .u32 ((v : Int) / 2 ^ k) 1 = 1 := hbv
          have hr8 : (A + k) % 8 < 8 := Nat.mod_lt _ (by decide)
          have hp : 2 ^ ((A + k) % 8) ≤ 255 := Nat.le_trans (Nat.pow_le_pow_right (by decide) (show (A + k) % 8 ≤ 7 by omega)) (by decide)
          have ex : bits .xor .u8 (x : Int) ((2 : Int) ^ ((A + k) % 8)) = ((x ^^^ 2 ^ ((A + k) % 8) : Nat) : Int) := by simpa using xor_u8 hx255 hp
          have es := shl_one hr8
          have j1 : ((A : Int) + (k : Int)) / 8 = (((A + k) / 8 : Nat) : Int) := by omega
          have j2 : ((A : Int) + (k : Int)) % 8 = (((A + k) % 8 : Nat) : Int) := by omega
          have j3 : (A + k) / 8 < bs.length + 4 := by omega
          generalize (A + k) / 8 = J at ck zk hN j1 j3
          generalize (A + k) % 8 = M at hr8 hp ex es j2 hN
          generalize x ^^^ 2 ^ M = y at ex hN
          clear hbv htb hT
          go_wp2
          go_roundw
          case rel => exact ⟨k + 1, by omega, by go_num, hN⟩
          case measure => simp [intOf]; omega
      · obtain rfl : k = 32 := by omega
        obtain ⟨⟨C, hC1, hC2, hC3⟩, hfin⟩ := hT
        rw [show v % 2 ^ 32 = v from Nat.mod_eq_of_lt hv] at hC2
        have hne := burst_ne (r := FF) hC1 hv hv0 (by rw [HL4.out]; omega) hC2
        rw [HSd.out] at hne
        have hCl : C.length = bs.length + 4 := hC1.trans HL4.out
        have hCs : C.take bs.length ++ C.drop bs.length = C := List.take_append_drop _ _
        have hC4 := hC3
        rw [← hCs] at hC4
        obtain ⟨hd, ht⟩ := own_parts hC4
        have hdl : (C.take bs.length).length = bs.length := by simp; omega
        have htl : (C.drop bs.length).length = 4 := by simp; omega
        have hbad : ¬ nm (C.drop bs.length) = crc (C.take bs.length) := fun e => hne (by
          have := (open_iff hd.le ht.le htl).1 e
          rwa [hCs] at this)
        have ho := open_ok (hG.more hfin) g 0 (bs.length + 4) _ _ hd ht htl (by omega) (by omega)
        rw [hdl] at ho
        have HO : Hid (Calls Tryd.prog 6 #[.slice (some ⟨g, 0, none⟩) (bs.length + 4) (bs.length + 4)] wr fun e w' => e = .returned (.tuple #[.slice none 0 0, num 30]) ∧ w.grownBy w' none) := by
          refine ho.mono fun e w' hp => ?_
          rw [OpenPost, if_neg (by simpa using hbad)] at hp
          exact ⟨hp.1, grownBy_trans hfin hp.2⟩
        clear ho hbad hdl htl hd ht hC4 hCs hCl hne hC1 hC2 hC3 HLL HL4 HSd
        go_wp2_with fail
        refine HO.out.mono ?_
        rintro e w3 ⟨rfl, hfin3⟩
        go_wp2
        go_ret
        exact ⟨rfl, hfin3⟩
end Cr
end Go.Proofs.YtpdbjibjicbckabDoor
