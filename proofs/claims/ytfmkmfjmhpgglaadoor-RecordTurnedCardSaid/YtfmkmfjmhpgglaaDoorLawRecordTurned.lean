/- The walk of RecordTurned. -/
import Derived.Test.YtfmkmfjmhpgglaaDoorRn
namespace Go.Proofs.YtfmkmfjmhpgglaaDoor
open Go.RowKit
namespace Rc
open Cr
theorem parE_bad {C : List Nat} (h : C.length = 37) (hle : ∀ x ∈ C, x ≤ 255) (hne : reg FF C ≠ stn 32 FF) : parE C = 30 := by
  obtain ⟨l1, l2⟩ := take_drop37 (b := C) (by omega)
  have e : C.take 33 ++ (C.drop 33).take 4 = C := by
    rw [List.take_of_length_le (l := C.drop 33) (by simp; omega), List.take_append_drop]
  have hb : ¬ nm ((C.drop 33).take 4) = crc (C.take 33) := fun h' => hne (by
    have := (open_iff (fun x hx => hle x (List.mem_of_mem_take hx)) (fun x hx => hle x (List.mem_of_mem_drop (List.mem_of_mem_take hx))) l2).1 h'
    rwa [e] at this)
  unfold parE
  rw [if_neg (by omega), if_neg hb]
/-- The kind as the statement takes it. -/
def kof (k : Int) : Int := 1 + (if k < 0 then -(k + 1) else k).tmod 4
theorem kof_may (k : Int) : 1 ≤ kof k ∧ kof k ≤ 4 := by
  unfold kof
  have h : 0 ≤ (if k < 0 then -(k + 1) else k) := by split <;> omega
  have h1 := Int.tmod_nonneg 4 h
  have h2 := Int.tmod_lt_of_pos (if k < 0 then -(k + 1) else k) (show (0 : Int) < 4 by decide)
  omega
theorem taken_none {w : World} {base : Nat} {b : List Nat} {v : Value} (h : w.ownsRow base 24 5 v 0 (valsR (recs b 0))) : ∃ ao c, v = .slice ao 0 c := by
  rcases h.2 with ⟨rfl, _⟩ | ⟨g, cap, cur, rfl, _⟩
  · exact ⟨_, _, rfl⟩
  · exact ⟨_, _, rfl⟩
set_option maxHeartbeats 6400000 in
set_option maxRecDepth 100000 in
theorem law_RecordTurned (r : Rec) (hf : r.Fits) (at_ : Int) (ha : I64 at_) (v : Nat) (hv : W32 v) {w : World} (hG : Glob w) (_h0 : 0 < w.heap.size) :
    Calls Tryd.prog 6 #[recV r, num at_, q32 v] w fun e w' => e = .returned (.bool true) ∧ w.grownBy w' none := by
  have hA := World.grownBy_alloc w (recL r) none
  have hbx := heap_alloc_new w (recL r)
  have HAw := hide (awake_ok (Glob.more hG hA))
  have HA := hide hA
  have HBx := hide hbx
  have HGl := hide hG
  clear hG hA hbx
  obtain ⟨k, s, a, b, c⟩ := r
  have hk := hf.kind
  simp only at hk
  clear hf
  by_cases hv0 : v = 0
  · subst hv0
    go_enter Tryd.func6, Tryd.ntmps6
    go_wp2_with fail
    refine HAw.out.mono ?_
    rintro e w1 ⟨rfl, hg1⟩
    have hgw1 := grownBy_trans HA.out hg1
    go_wp2
    go_ret
    exact ⟨rfl, hgw1⟩
  have v0 : ((v : Int) == 0) = false := by simp; omega
  have hm : ∀ n : Nat, (n : Int).tmod 265 = ((n % 265 : Nat) : Int) := fun n => (Int.ofNat_tmod n 265).symm
  by_cases hkn : k < 0
  · skip
    obtain ⟨n, rfl⟩ : ∃ n : Nat, k = -((n : Int) + 1) := ⟨(-(k + 1)).toNat, by omega⟩
    have hkk : kof (-((n : Int) + 1)) = 1 + ((n % 4 : Nat) : Int) := by unfold kof; rw [if_pos (by omega), show -(-((n : Int) + 1) + 1) = (n : Int) by omega, Int.ofNat_tmod n 4]; rfl
    have hq : (-((n : Int) + 1) + 1) = -(n : Int) := by omega
    have hn4 : (n : Int).tmod 4 = ((n % 4 : Nat) : Int) := (Int.ofNat_tmod n 4).symm
    have hm4 : n % 4 < 4 := Nat.mod_lt _ (by decide)
    have hM : MayR ⟨kof (-((n : Int) + 1)), s, a, b, c⟩ := kof_may _
    have hfit : (⟨kof (-((n : Int) + 1)), s, a, b, c⟩ : Rec).kind = 1 + ((n % 4 : Nat) : Int) := hkk
    obtain ⟨R, hR⟩ : ∃ R : Rec, R = ⟨kof (-((n : Int) + 1)), s, a, b, c⟩ := ⟨_, rfl⟩
    rw [← hR] at hM
    have hRV : recV R = .agg #[num (1 + ((n % 4 : Nat) : Int)), q64 s, q64 a, q64 b, q64 c] := by rw [hR]; simp only [recV, hkk]
    have hRL : recL R = .cells #[num (1 + ((n % 4 : Nat) : Int)), q64 s, q64 a, q64 b, q64 c] 24 := by rw [hR]; simp only [recL, hkk]
    have HRV := hide hRV
    have HRL := hide hRL
    have HM := hide hM
    generalize n % 4 = M at hn4 hm4 HRV HRL
    clear hR hM hRV hRL hkk hfit
    go_enter Tryd.func6, Tryd.ntmps6
    go_wp2_with fail
    refine HAw.out.mono ?_
    rintro e w1 ⟨rfl, hg1⟩
    have hb1 := obj_more HBx.out hg1
    have hgw1 := grownBy_trans HA.out hg1
    have d0 : w1.cell? ⟨w.heap.size, 0, none⟩ = some (num (-((n : Int) + 1))) := cell_at hb1 rfl
    have f0 : w1.frozen? ⟨w.heap.size, 0, none⟩ = false := free_at hb1
    have d1 : w1.cell? ⟨w.heap.size, 1, none⟩ = some (q64 s) := cell_at hb1 rfl
    have d2 : w1.cell? ⟨w.heap.size, 2, none⟩ = some (q64 a) := cell_at hb1 rfl
    have d3 : w1.cell? ⟨w.heap.size, 3, none⟩ = some (q64 b) := cell_at hb1 rfl
    have d4 : w1.cell? ⟨w.heap.size, 4, none⟩ = some (q64 c) := cell_at hb1 rfl
    have hk1 := hk.1
    have hk2 := hk.2
    have HB1 := hide hb1
    have HG1 := hide hgw1
    clear hk hb1 hgw1 hg1 HAw HA HBx
    go_wp2_with fail
    obtain ⟨U, hU⟩ : ∃ U, U = (w1.setCell ⟨w.heap.size, 0, none⟩ (.int .i64 (n : Int))).setCell ⟨w.heap.size, 0, none⟩ (.int .i64 (1 + (M : Int))) := ⟨_, rfl⟩
    have hgU : w.grownBy U none := by rw [hU]; exact grownBy_set (grownBy_set HG1.out (Nat.le_refl _) _) (Nat.le_refl _) _
    rw [← hU]
    have hBy := Bytes_ok (Glob.more HGl.out hgU) HM.out
    rw [HRV.out] at hBy
    have hsU := hgU.size
    refine hBy.mono ?_
    rintro e w2 ⟨g, rfl, hgg, hg2, hO⟩
    have hgw2 := grownBy_trans hgU hg2
    have hO' : OwnB w2 g (sealed R) [] := hO
    have hLL := sealed_len R
    have hsd := (open_iff (recB_le' HM.out) (le4_le (crc (recB R))) rfl).1 (nm_le4 (crc_lt (recB_le' HM.out)))
    have HSd : Hid (reg FF (sealed R) = stn 32 FF) := hsd
    have HLL := hide hLL
    have HO := hide hO'
    have HG2 := hide hgw2
    clear hU hgU hBy hg2 hO hO' hgw2 hsd d0 f0 d1 d2 d3 d4 HB1 HG1 hLL HRL HRV hn4 hm4 hk1 hk2
    generalize sealed R = L at HSd HLL HO
    by_cases han : at_ < 0
    · skip
      obtain ⟨m, rfl⟩ : ∃ m : Nat, at_ = -((m : Int) + 1) := ⟨(-(at_ + 1)).toNat, by omega⟩
      have hA := hm m
      have hAl : m % 265 < 265 := Nat.mod_lt _ (by decide)
      generalize m % 265 = A at hA hAl
      have ha1 := ha.1
      have ha2 := ha.2
      have hA : -((-((m : Int) + 1) + 1).tmod 265) = (A : Int) := by rw [show -((m : Int) + 1) + 1 = -(m : Int) by omega, Int.neg_tmod, Int.neg_neg]; exact hA
      have hT := TurnRel.start HO.out HG2.out v A
      clear ha hm
      go_wp2_with fail
      go_loopw [10] (fun i wr => ∃ k : Nat, k ≤ 32 ∧ i = num k ∧ TurnRel w wr g L [] v A k) (fun i _ => 32 - (intOf i).toNat)
      case atStart => exact ⟨0, Nat.zero_le _, rfl, hT⟩
      case round =>
        clear hT hA ha1 ha2 han
        obtain ⟨k, hk, rfl, hT⟩ := hrel
        by_cases hlt : k < 32
        · have b1 : (k : Int) < 32 := by omega
          have hbv := bit_v (i := k) hv
          rcases htb : v.testBit k with _ | _
          · have hN := hT.skip htb
            rw [htb] at hbv
            have hbv' : bits .and .u32 ((v : Int) / 2 ^ k) 1 = 0 := hbv
            clear hbv htb hT
            go_wp2
            go_roundw
            case rel => exact ⟨k + 1, by omega, by go_num, hN⟩
            case measure => simp [intOf]; omega
          · obtain ⟨x, hx255, ck, zk, hN⟩ := hT.turn htb (by rw [HLL.out]; omega) (by omega)
            rw [htb] at hbv
            have hbv' : bits .and .u32 ((v : Int) / 2 ^ k) 1 = 1 := hbv
            have hr8 : (A + k) % 8 < 8 := Nat.mod_lt _ (by decide)
            have hp : 2 ^ ((A + k) % 8) ≤ 255 := Nat.le_trans (Nat.pow_le_pow_right (by decide) (show (A + k) % 8 ≤ 7 by omega)) (by decide)
            have ex : bits .xor .u8 (x : Int) ((2 : Int) ^ ((A + k) % 8)) = ((x ^^^ 2 ^ ((A + k) % 8) : Nat) : Int) := by simpa using xor_u8 hx255 hp
            have es := shl_one hr8
            have j1 : ((A : Int) + (k : Int)) / 8 = (((A + k) / 8 : Nat) : Int) := by omega
            have j2 : ((A : Int) + (k : Int)) % 8 = (((A + k) % 8 : Nat) : Int) := by omega
            have j3 : (A + k) / 8 < 37 := by omega
            generalize (A + k) / 8 = J at ck zk hN j1 j3
            generalize (A + k) % 8 = M' at hr8 hp ex es j2 hN
            generalize x ^^^ 2 ^ M' = y at ex hN
            clear hbv htb hT
            go_wp2
            go_roundw
            case rel => exact ⟨k + 1, by omega, by go_num, hN⟩
            case measure => simp [intOf]; omega
        · obtain rfl : k = 32 := by omega
          obtain ⟨⟨C, hC1, hC2, hC3⟩, hfin⟩ := hT
          rw [show v % 2 ^ 32 = v from Nat.mod_eq_of_lt hv] at hC2
          have hne := burst_ne (r := FF) hC1 hv hv0 (by rw [HLL.out]; omega) hC2
          rw [HSd.out] at hne
          have hCl : C.length = 37 := hC1.trans HLL.out
          have hpE := parE_bad hCl hC3.rdB.le hne
          obtain ⟨Pq, hpR⟩ : ∃ Pq, parR C = Pq := ⟨_, rfl⟩
          have hP := Parse_any (Glob.more HGl.out hfin) (some ⟨g, 0, none⟩) 37 C hC3.rdB (by omega)
          rw [hCl] at hP
          have hPP : ∀ e w', ParsePost wr C e w' → e = .returned (.tuple #[recV Pq, num 30]) ∧ wr.grownBy w' none := fun e w' h => by rw [ParsePost, hpE, hpR] at h; exact h
          have hno : ¬ Ok C 0 := fun h => by have := h.1; rw [show 37 * 0 = 0 from rfl, List.drop_zero, hpE] at this; exact absurd this (by decide)
          have HP := hide hP
          have HPP := hide hPP
          have HNo := hide hno
          have HC := hide hC3
          have HCl := hide hCl
          have HFin := hide hfin
          clear hP hPP hno hC3 hpE hpR hne hC1 hC2 hfin hCl
          go_wp2_with fail
          refine HP.out.mono fun e w5 hp5 => ?_
          obtain ⟨rfl, hg5⟩ := HPP.out _ _ hp5
          obtain ⟨V, hV⟩ : ∃ V, V = w5.alloc (.cells #[.int .i64 Pq.kind, .int .u64 Pq.seq, .int .u64 Pq.a, .int .u64 Pq.b, .int .u64 Pq.c] 24) := ⟨_, rfl⟩
          have hgV : w5.grownBy V none := by rw [hV]; exact World.grownBy_alloc w5 _ none
          have hg5V := grownBy_trans hg5 hgV
          have hfV := grownBy_trans HFin.out hg5V
          have hT := taken_ok (Glob.more HGl.out hfV) (some ⟨g, 0, none⟩) 37 C (N := 0) (fun k h => absurd h (Nat.not_lt_zero k)) HNo.out (by omega) (OwnB.more HC.out hg5V).rdB (by rw [HCl.out]; omega) (fun e => by cases e) (by rw [HCl.out]; omega) (-1)
          rw [HCl.out] at hT
          have HT := hide hT
          have HV := hide hV
          have HfV := hide hfV
          clear hp5 hg5 hV hgV hg5V hfV hT HP HPP HNo HC HFin
          go_wp2_with (rw [← HV.out])
          refine HT.out.mono ?_
          rintro e w6 ⟨tv, rfl, hg6, hown⟩
          obtain ⟨ta, tc, rfl⟩ := taken_none hown
          have hF := grownBy_trans HfV.out hg6
          clear hown hg6
          go_wp2
          go_ret
          exact ⟨rfl, hF⟩
    · skip
      obtain ⟨m, rfl⟩ := Int.eq_ofNat_of_zero_le (show 0 ≤ at_ by omega)
      have hA := hm m
      have hAl : m % 265 < 265 := Nat.mod_lt _ (by decide)
      generalize m % 265 = A at hA hAl
      have ha1 := ha.1
      have ha2 := ha.2
      have hT := TurnRel.start HO.out HG2.out v A
      clear ha hm
      go_wp2_with fail
      go_loopw [10] (fun i wr => ∃ k : Nat, k ≤ 32 ∧ i = num k ∧ TurnRel w wr g L [] v A k) (fun i _ => 32 - (intOf i).toNat)
      case atStart => exact ⟨0, Nat.zero_le _, rfl, hT⟩
      case round =>
        clear hT hA ha1 ha2 han
        obtain ⟨k, hk, rfl, hT⟩ := hrel
        by_cases hlt : k < 32
        · have b1 : (k : Int) < 32 := by omega
          have hbv := bit_v (i := k) hv
          rcases htb : v.testBit k with _ | _
          · have hN := hT.skip htb
            rw [htb] at hbv
            have hbv' : bits .and .u32 ((v : Int) / 2 ^ k) 1 = 0 := hbv
            clear hbv htb hT
            go_wp2
            go_roundw
            case rel => exact ⟨k + 1, by omega, by go_num, hN⟩
            case measure => simp [intOf]; omega
          · obtain ⟨x, hx255, ck, zk, hN⟩ := hT.turn htb (by rw [HLL.out]; omega) (by omega)
            rw [htb] at hbv
            have hbv' : bits .and .u32 ((v : Int) / 2 ^ k) 1 = 1 := hbv
            have hr8 : (A + k) % 8 < 8 := Nat.mod_lt _ (by decide)
            have hp : 2 ^ ((A + k) % 8) ≤ 255 := Nat.le_trans (Nat.pow_le_pow_right (by decide) (show (A + k) % 8 ≤ 7 by omega)) (by decide)
            have ex : bits .xor .u8 (x : Int) ((2 : Int) ^ ((A + k) % 8)) = ((x ^^^ 2 ^ ((A + k) % 8) : Nat) : Int) := by simpa using xor_u8 hx255 hp
            have es := shl_one hr8
            have j1 : ((A : Int) + (k : Int)) / 8 = (((A + k) / 8 : Nat) : Int) := by omega
            have j2 : ((A : Int) + (k : Int)) % 8 = (((A + k) % 8 : Nat) : Int) := by omega
            have j3 : (A + k) / 8 < 37 := by omega
            generalize (A + k) / 8 = J at ck zk hN j1 j3
            generalize (A + k) % 8 = M' at hr8 hp ex es j2 hN
            generalize x ^^^ 2 ^ M' = y at ex hN
            clear hbv htb hT
            go_wp2
            go_roundw
            case rel => exact ⟨k + 1, by omega, by go_num, hN⟩
            case measure => simp [intOf]; omega
        · obtain rfl : k = 32 := by omega
          obtain ⟨⟨C, hC1, hC2, hC3⟩, hfin⟩ := hT
          rw [show v % 2 ^ 32 = v from Nat.mod_eq_of_lt hv] at hC2
          have hne := burst_ne (r := FF) hC1 hv hv0 (by rw [HLL.out]; omega) hC2
          rw [HSd.out] at hne
          have hCl : C.length = 37 := hC1.trans HLL.out
          have hpE := parE_bad hCl hC3.rdB.le hne
          obtain ⟨Pq, hpR⟩ : ∃ Pq, parR C = Pq := ⟨_, rfl⟩
          have hP := Parse_any (Glob.more HGl.out hfin) (some ⟨g, 0, none⟩) 37 C hC3.rdB (by omega)
          rw [hCl] at hP
          have hPP : ∀ e w', ParsePost wr C e w' → e = .returned (.tuple #[recV Pq, num 30]) ∧ wr.grownBy w' none := fun e w' h => by rw [ParsePost, hpE, hpR] at h; exact h
          have hno : ¬ Ok C 0 := fun h => by have := h.1; rw [show 37 * 0 = 0 from rfl, List.drop_zero, hpE] at this; exact absurd this (by decide)
          have HP := hide hP
          have HPP := hide hPP
          have HNo := hide hno
          have HC := hide hC3
          have HCl := hide hCl
          have HFin := hide hfin
          clear hP hPP hno hC3 hpE hpR hne hC1 hC2 hfin hCl
          go_wp2_with fail
          refine HP.out.mono fun e w5 hp5 => ?_
          obtain ⟨rfl, hg5⟩ := HPP.out _ _ hp5
          obtain ⟨V, hV⟩ : ∃ V, V = w5.alloc (.cells #[.int .i64 Pq.kind, .int .u64 Pq.seq, .int .u64 Pq.a, .int .u64 Pq.b, .int .u64 Pq.c] 24) := ⟨_, rfl⟩
          have hgV : w5.grownBy V none := by rw [hV]; exact World.grownBy_alloc w5 _ none
          have hg5V := grownBy_trans hg5 hgV
          have hfV := grownBy_trans HFin.out hg5V
          have hT := taken_ok (Glob.more HGl.out hfV) (some ⟨g, 0, none⟩) 37 C (N := 0) (fun k h => absurd h (Nat.not_lt_zero k)) HNo.out (by omega) (OwnB.more HC.out hg5V).rdB (by rw [HCl.out]; omega) (fun e => by cases e) (by rw [HCl.out]; omega) (-1)
          rw [HCl.out] at hT
          have HT := hide hT
          have HV := hide hV
          have HfV := hide hfV
          clear hp5 hg5 hV hgV hg5V hfV hT HP HPP HNo HC HFin
          go_wp2_with (rw [← HV.out])
          refine HT.out.mono ?_
          rintro e w6 ⟨tv, rfl, hg6, hown⟩
          obtain ⟨ta, tc, rfl⟩ := taken_none hown
          have hF := grownBy_trans HfV.out hg6
          clear hown hg6
          go_wp2
          go_ret
          exact ⟨rfl, hF⟩
  · skip
    obtain ⟨n, rfl⟩ := Int.eq_ofNat_of_zero_le (show 0 ≤ k by omega)
    have hkk : kof (n : Int) = 1 + ((n % 4 : Nat) : Int) := by unfold kof; rw [if_neg (by omega), Int.ofNat_tmod n 4]; rfl
    have hn4 : (n : Int).tmod 4 = ((n % 4 : Nat) : Int) := (Int.ofNat_tmod n 4).symm
    have hm4 : n % 4 < 4 := Nat.mod_lt _ (by decide)
    have hM : MayR ⟨kof ((n : Int)), s, a, b, c⟩ := kof_may _
    have hfit : (⟨kof ((n : Int)), s, a, b, c⟩ : Rec).kind = 1 + ((n % 4 : Nat) : Int) := hkk
    obtain ⟨R, hR⟩ : ∃ R : Rec, R = ⟨kof ((n : Int)), s, a, b, c⟩ := ⟨_, rfl⟩
    rw [← hR] at hM
    have hRV : recV R = .agg #[num (1 + ((n % 4 : Nat) : Int)), q64 s, q64 a, q64 b, q64 c] := by rw [hR]; simp only [recV, hkk]
    have hRL : recL R = .cells #[num (1 + ((n % 4 : Nat) : Int)), q64 s, q64 a, q64 b, q64 c] 24 := by rw [hR]; simp only [recL, hkk]
    have HRV := hide hRV
    have HRL := hide hRL
    have HM := hide hM
    generalize n % 4 = M at hn4 hm4 HRV HRL
    clear hR hM hRV hRL hkk hfit
    go_enter Tryd.func6, Tryd.ntmps6
    go_wp2_with fail
    refine HAw.out.mono ?_
    rintro e w1 ⟨rfl, hg1⟩
    have hb1 := obj_more HBx.out hg1
    have hgw1 := grownBy_trans HA.out hg1
    have d0 : w1.cell? ⟨w.heap.size, 0, none⟩ = some (num ((n : Int))) := cell_at hb1 rfl
    have f0 : w1.frozen? ⟨w.heap.size, 0, none⟩ = false := free_at hb1
    have d1 : w1.cell? ⟨w.heap.size, 1, none⟩ = some (q64 s) := cell_at hb1 rfl
    have d2 : w1.cell? ⟨w.heap.size, 2, none⟩ = some (q64 a) := cell_at hb1 rfl
    have d3 : w1.cell? ⟨w.heap.size, 3, none⟩ = some (q64 b) := cell_at hb1 rfl
    have d4 : w1.cell? ⟨w.heap.size, 4, none⟩ = some (q64 c) := cell_at hb1 rfl
    have hk1 := hk.1
    have hk2 := hk.2
    have HB1 := hide hb1
    have HG1 := hide hgw1
    clear hk hb1 hgw1 hg1 HAw HA HBx
    go_wp2_with fail
    obtain ⟨U, hU⟩ : ∃ U, U = w1.setCell ⟨w.heap.size, 0, none⟩ (.int .i64 (1 + (M : Int))) := ⟨_, rfl⟩
    have hgU : w.grownBy U none := by rw [hU]; exact grownBy_set HG1.out (Nat.le_refl _) _
    rw [← hU]
    have hBy := Bytes_ok (Glob.more HGl.out hgU) HM.out
    rw [HRV.out] at hBy
    have hsU := hgU.size
    refine hBy.mono ?_
    rintro e w2 ⟨g, rfl, hgg, hg2, hO⟩
    have hgw2 := grownBy_trans hgU hg2
    have hO' : OwnB w2 g (sealed R) [] := hO
    have hLL := sealed_len R
    have hsd := (open_iff (recB_le' HM.out) (le4_le (crc (recB R))) rfl).1 (nm_le4 (crc_lt (recB_le' HM.out)))
    have HSd : Hid (reg FF (sealed R) = stn 32 FF) := hsd
    have HLL := hide hLL
    have HO := hide hO'
    have HG2 := hide hgw2
    clear hU hgU hBy hg2 hO hO' hgw2 hsd d0 f0 d1 d2 d3 d4 HB1 HG1 hLL HRL HRV hn4 hm4 hk1 hk2
    generalize sealed R = L at HSd HLL HO
    by_cases han : at_ < 0
    · skip
      obtain ⟨m, rfl⟩ : ∃ m : Nat, at_ = -((m : Int) + 1) := ⟨(-(at_ + 1)).toNat, by omega⟩
      have hA := hm m
      have hAl : m % 265 < 265 := Nat.mod_lt _ (by decide)
      generalize m % 265 = A at hA hAl
      have ha1 := ha.1
      have ha2 := ha.2
      have hA : -((-((m : Int) + 1) + 1).tmod 265) = (A : Int) := by rw [show -((m : Int) + 1) + 1 = -(m : Int) by omega, Int.neg_tmod, Int.neg_neg]; exact hA
      have hT := TurnRel.start HO.out HG2.out v A
      clear ha hm
      go_wp2_with fail
      go_loopw [10] (fun i wr => ∃ k : Nat, k ≤ 32 ∧ i = num k ∧ TurnRel w wr g L [] v A k) (fun i _ => 32 - (intOf i).toNat)
      case atStart => exact ⟨0, Nat.zero_le _, rfl, hT⟩
      case round =>
        clear hT hA ha1 ha2 han
        obtain ⟨k, hk, rfl, hT⟩ := hrel
        by_cases hlt : k < 32
        · have b1 : (k : Int) < 32 := by omega
          have hbv := bit_v (i := k) hv
          rcases htb : v.testBit k with _ | _
          · have hN := hT.skip htb
            rw [htb] at hbv
            have hbv' : bits .and .u32 ((v : Int) / 2 ^ k) 1 = 0 := hbv
            clear hbv htb hT
            go_wp2
            go_roundw
            case rel => exact ⟨k + 1, by omega, by go_num, hN⟩
            case measure => simp [intOf]; omega
          · obtain ⟨x, hx255, ck, zk, hN⟩ := hT.turn htb (by rw [HLL.out]; omega) (by omega)
            rw [htb] at hbv
            have hbv' : bits .and .u32 ((v : Int) / 2 ^ k) 1 = 1 := hbv
            have hr8 : (A + k) % 8 < 8 := Nat.mod_lt _ (by decide)
            have hp : 2 ^ ((A + k) % 8) ≤ 255 := Nat.le_trans (Nat.pow_le_pow_right (by decide) (show (A + k) % 8 ≤ 7 by omega)) (by decide)
            have ex : bits .xor .u8 (x : Int) ((2 : Int) ^ ((A + k) % 8)) = ((x ^^^ 2 ^ ((A + k) % 8) : Nat) : Int) := by simpa using xor_u8 hx255 hp
            have es := shl_one hr8
            have j1 : ((A : Int) + (k : Int)) / 8 = (((A + k) / 8 : Nat) : Int) := by omega
            have j2 : ((A : Int) + (k : Int)) % 8 = (((A + k) % 8 : Nat) : Int) := by omega
            have j3 : (A + k) / 8 < 37 := by omega
            generalize (A + k) / 8 = J at ck zk hN j1 j3
            generalize (A + k) % 8 = M' at hr8 hp ex es j2 hN
            generalize x ^^^ 2 ^ M' = y at ex hN
            clear hbv htb hT
            go_wp2
            go_roundw
            case rel => exact ⟨k + 1, by omega, by go_num, hN⟩
            case measure => simp [intOf]; omega
        · obtain rfl : k = 32 := by omega
          obtain ⟨⟨C, hC1, hC2, hC3⟩, hfin⟩ := hT
          rw [show v % 2 ^ 32 = v from Nat.mod_eq_of_lt hv] at hC2
          have hne := burst_ne (r := FF) hC1 hv hv0 (by rw [HLL.out]; omega) hC2
          rw [HSd.out] at hne
          have hCl : C.length = 37 := hC1.trans HLL.out
          have hpE := parE_bad hCl hC3.rdB.le hne
          obtain ⟨Pq, hpR⟩ : ∃ Pq, parR C = Pq := ⟨_, rfl⟩
          have hP := Parse_any (Glob.more HGl.out hfin) (some ⟨g, 0, none⟩) 37 C hC3.rdB (by omega)
          rw [hCl] at hP
          have hPP : ∀ e w', ParsePost wr C e w' → e = .returned (.tuple #[recV Pq, num 30]) ∧ wr.grownBy w' none := fun e w' h => by rw [ParsePost, hpE, hpR] at h; exact h
          have hno : ¬ Ok C 0 := fun h => by have := h.1; rw [show 37 * 0 = 0 from rfl, List.drop_zero, hpE] at this; exact absurd this (by decide)
          have HP := hide hP
          have HPP := hide hPP
          have HNo := hide hno
          have HC := hide hC3
          have HCl := hide hCl
          have HFin := hide hfin
          clear hP hPP hno hC3 hpE hpR hne hC1 hC2 hfin hCl
          go_wp2_with fail
          refine HP.out.mono fun e w5 hp5 => ?_
          obtain ⟨rfl, hg5⟩ := HPP.out _ _ hp5
          obtain ⟨V, hV⟩ : ∃ V, V = w5.alloc (.cells #[.int .i64 Pq.kind, .int .u64 Pq.seq, .int .u64 Pq.a, .int .u64 Pq.b, .int .u64 Pq.c] 24) := ⟨_, rfl⟩
          have hgV : w5.grownBy V none := by rw [hV]; exact World.grownBy_alloc w5 _ none
          have hg5V := grownBy_trans hg5 hgV
          have hfV := grownBy_trans HFin.out hg5V
          have hT := taken_ok (Glob.more HGl.out hfV) (some ⟨g, 0, none⟩) 37 C (N := 0) (fun k h => absurd h (Nat.not_lt_zero k)) HNo.out (by omega) (OwnB.more HC.out hg5V).rdB (by rw [HCl.out]; omega) (fun e => by cases e) (by rw [HCl.out]; omega) (-1)
          rw [HCl.out] at hT
          have HT := hide hT
          have HV := hide hV
          have HfV := hide hfV
          clear hp5 hg5 hV hgV hg5V hfV hT HP HPP HNo HC HFin
          go_wp2_with (rw [← HV.out])
          refine HT.out.mono ?_
          rintro e w6 ⟨tv, rfl, hg6, hown⟩
          obtain ⟨ta, tc, rfl⟩ := taken_none hown
          have hF := grownBy_trans HfV.out hg6
          clear hown hg6
          go_wp2
          go_ret
          exact ⟨rfl, hF⟩
    · skip
      obtain ⟨m, rfl⟩ := Int.eq_ofNat_of_zero_le (show 0 ≤ at_ by omega)
      have hA := hm m
      have hAl : m % 265 < 265 := Nat.mod_lt _ (by decide)
      generalize m % 265 = A at hA hAl
      have ha1 := ha.1
      have ha2 := ha.2
      have hT := TurnRel.start HO.out HG2.out v A
      clear ha hm
      go_wp2_with fail
      go_loopw [10] (fun i wr => ∃ k : Nat, k ≤ 32 ∧ i = num k ∧ TurnRel w wr g L [] v A k) (fun i _ => 32 - (intOf i).toNat)
      case atStart => exact ⟨0, Nat.zero_le _, rfl, hT⟩
      case round =>
        clear hT hA ha1 ha2 han
        obtain ⟨k, hk, rfl, hT⟩ := hrel
        by_cases hlt : k < 32
        · have b1 : (k : Int) < 32 := by omega
          have hbv := bit_v (i := k) hv
          rcases htb : v.testBit k with _ | _
          · have hN := hT.skip htb
            rw [htb] at hbv
            have hbv' : bits .and .u32 ((v : Int) / 2 ^ k) 1 = 0 := hbv
            clear hbv htb hT
            go_wp2
            go_roundw
            case rel => exact ⟨k + 1, by omega, by go_num, hN⟩
            case measure => simp [intOf]; omega
          · obtain ⟨x, hx255, ck, zk, hN⟩ := hT.turn htb (by rw [HLL.out]; omega) (by omega)
            rw [htb] at hbv
            have hbv' : bits .and .u32 ((v : Int) / 2 ^ k) 1 = 1 := hbv
            have hr8 : (A + k) % 8 < 8 := Nat.mod_lt _ (by decide)
            have hp : 2 ^ ((A + k) % 8) ≤ 255 := Nat.le_trans (Nat.pow_le_pow_right (by decide) (show (A + k) % 8 ≤ 7 by omega)) (by decide)
            have ex : bits .xor .u8 (x : Int) ((2 : Int) ^ ((A + k) % 8)) = ((x ^^^ 2 ^ ((A + k) % 8) : Nat) : Int) := by simpa using xor_u8 hx255 hp
            have es := shl_one hr8
            have j1 : ((A : Int) + (k : Int)) / 8 = (((A + k) / 8 : Nat) : Int) := by omega
            have j2 : ((A : Int) + (k : Int)) % 8 = (((A + k) % 8 : Nat) : Int) := by omega
            have j3 : (A + k) / 8 < 37 := by omega
            generalize (A + k) / 8 = J at ck zk hN j1 j3
            generalize (A + k) % 8 = M' at hr8 hp ex es j2 hN
            generalize x ^^^ 2 ^ M' = y at ex hN
            clear hbv htb hT
            go_wp2
            go_roundw
            case rel => exact ⟨k + 1, by omega, by go_num, hN⟩
            case measure => simp [intOf]; omega
        · obtain rfl : k = 32 := by omega
          obtain ⟨⟨C, hC1, hC2, hC3⟩, hfin⟩ := hT
          rw [show v % 2 ^ 32 = v from Nat.mod_eq_of_lt hv] at hC2
          have hne := burst_ne (r := FF) hC1 hv hv0 (by rw [HLL.out]; omega) hC2
          rw [HSd.out] at hne
          have hCl : C.length = 37 := hC1.trans HLL.out
          have hpE := parE_bad hCl hC3.rdB.le hne
          obtain ⟨Pq, hpR⟩ : ∃ Pq, parR C = Pq := ⟨_, rfl⟩
          have hP := Parse_any (Glob.more HGl.out hfin) (some ⟨g, 0, none⟩) 37 C hC3.rdB (by omega)
          rw [hCl] at hP
          have hPP : ∀ e w', ParsePost wr C e w' → e = .returned (.tuple #[recV Pq, num 30]) ∧ wr.grownBy w' none := fun e w' h => by rw [ParsePost, hpE, hpR] at h; exact h
          have hno : ¬ Ok C 0 := fun h => by have := h.1; rw [show 37 * 0 = 0 from rfl, List.drop_zero, hpE] at this; exact absurd this (by decide)
          have HP := hide hP
          have HPP := hide hPP
          have HNo := hide hno
          have HC := hide hC3
          have HCl := hide hCl
          have HFin := hide hfin
          clear hP hPP hno hC3 hpE hpR hne hC1 hC2 hfin hCl
          go_wp2_with fail
          refine HP.out.mono fun e w5 hp5 => ?_
          obtain ⟨rfl, hg5⟩ := HPP.out _ _ hp5
          obtain ⟨V, hV⟩ : ∃ V, V = w5.alloc (.cells #[.int .i64 Pq.kind, .int .u64 Pq.seq, .int .u64 Pq.a, .int .u64 Pq.b, .int .u64 Pq.c] 24) := ⟨_, rfl⟩
          have hgV : w5.grownBy V none := by rw [hV]; exact World.grownBy_alloc w5 _ none
          have hg5V := grownBy_trans hg5 hgV
          have hfV := grownBy_trans HFin.out hg5V
          have hT := taken_ok (Glob.more HGl.out hfV) (some ⟨g, 0, none⟩) 37 C (N := 0) (fun k h => absurd h (Nat.not_lt_zero k)) HNo.out (by omega) (OwnB.more HC.out hg5V).rdB (by rw [HCl.out]; omega) (fun e => by cases e) (by rw [HCl.out]; omega) (-1)
          rw [HCl.out] at hT
          have HT := hide hT
          have HV := hide hV
          have HfV := hide hfV
          clear hp5 hg5 hV hgV hg5V hfV hT HP HPP HNo HC HFin
          go_wp2_with (rw [← HV.out])
          refine HT.out.mono ?_
          rintro e w6 ⟨tv, rfl, hg6, hown⟩
          obtain ⟨ta, tc, rfl⟩ := taken_none hown
          have hF := grownBy_trans HfV.out hg6
          clear hown hg6
          go_wp2
          go_ret
          exact ⟨rfl, hF⟩
end Rc
end Go.Proofs.YtfmkmfjmhpgglaaDoor
