/- The document's own More and Sum; awake. -/
import Derived.Test.YtoakokpeomlkjaaDoorXb
import Derived.Lib.SlBytesConst
namespace Go.Proofs.YtoakokpeomlkjaaDoor
open Go.RowKit
namespace Cr
theorem bit_u32 {x k : Nat} (hx : x ≤ 255) : bits .and .u32 ((x : Int) / 2 ^ k % 4294967296) 1 = ((x / 2 ^ k % 2 : Nat) : Int) := by
  have h2 := Nat.le_trans (Nat.div_le_self x (2 ^ k)) hx
  have e : ((x : Int) / 2 ^ k) = ((x / 2 ^ k : Nat) : Int) := by simp
  rw [e]
  generalize x / 2 ^ k = z at h2 ⊢
  rw [show ((z : Int) % 4294967296) = (z : Int) by omega]
  exact and1_u32 (w_byte h2)
set_option maxHeartbeats 1600000 in
theorem kMore_ok {w : World} (s : Nat) (hs : W32 s) (ao : Option Addr) (cap : Nat) (bs : List Nat) (hx : RdB w ao bs) (hl : bs.length ≤ 1000000000000000) :
    Calls Tryd.prog 44 #[q32 s, .slice ao bs.length cap] w fun e w' => e = .returned (q32 (more s bs)) ∧ w' = w := by
  have hnt : bits .xor .u32 (s : Int) 4294967295 = ((s ^^^ FF : Nat) : Int) := u32_xor_nat s FF hs w_FF
  go_enter Tryd.func44, Tryd.ntmps44
  go_wp2_with fail
  go_loopw [6, 5] (fun i r wr => wr = w ∧ ∃ k : Nat, k ≤ bs.length ∧ i = num k ∧ r = q32 (reg (s ^^^ FF) (bs.take k))) (fun i _ _ => bs.length - (intOf i).toNat)
  case atStart => exact ⟨rfl, 0, Nat.zero_le _, rfl, rfl⟩
  case round =>
    clear hnt
    obtain ⟨rfl, k, hk, rfl, rfl⟩ := hrel
    have hR := reg_w (w_xor hs w_FF) hx.le k
    by_cases hlt : k < bs.length
    · have b1 : (k : Int) < (bs.length : Int) := by omega
      have hbk := hx.1 k
      obtain ⟨gd, od, rfl, hcd⟩ := hx.2.resolve_left (fun e => by rw [e] at hlt; simp at hlt)
      have ck := hcd k hlt
      have hn := reg_snoc (s ^^^ FF) hlt
      generalize reg (s ^^^ FF) (bs.take k) = R at hR hn ⊢
      generalize nth bs k = X at hbk ck hn
      have HN : Hid _ := hn
      clear hcd hn
      go_wp2_with fail
      go_loopw [7, 5] (fun j r wq => wq = wr ∧ ∃ q : Nat, q ≤ 8 ∧ j = num q ∧ r = q32 (part R X q)) (fun j _ _ => 8 - (intOf j).toNat)
      case atStart => exact ⟨rfl, 0, Nat.zero_le _, rfl, by rw [part_zero]⟩
      case round =>
        obtain ⟨rfl, q, hq, rfl, rfl⟩ := hrel
        by_cases hql : q < 8
        · have b2 : (q : Int) < 8 := by omega
          have hY : W32 (part R X q) := part_lt hR hbk
          have hp := part_next R X q
          have e0 := bit_u32 (k := q) hbk
          have hd : X / 2 ^ q % 2 ≤ 1 := by omega
          rw [← ref_step _ _ hd] at hp
          generalize part R X q = Y at hY hp ⊢
          generalize X / 2 ^ q % 2 = D at e0 hd hp
          have e1 := and1_u32 hY
          have e2 : bits .xor .u32 ((Y : Int) / 2) 3988292384 = ((Y / 2 ^^^ PP : Nat) : Int) := by
            have := u32_xor_nat (Y / 2) PP (w_div hY 2) (by decide)
            simpa [PP] using this
          have e3 : ((Y : Int) / 2) = ((Y / 2 : Nat) : Int) := by simp
          rw [e3] at e2
          generalize Y % 2 = M at e1 hp
          generalize Y / 2 = Z at e2 e3 hp
          generalize Z ^^^ PP = V at e2 hp
          by_cases hyd : M = D
          · rw [if_pos hyd] at hp
            have b3 : (M : Int) = (D : Int) := by rw [hyd]
            have HP : Hid _ := hp
            clear hp hyd
            go_wp2
            go_roundw
            case rel => exact ⟨trivial, q + 1, by omega, by go_num, by rw [HP.out]⟩
            case measure => simp [intOf]; omega
          · rw [if_neg hyd] at hp
            have b3 : ¬ (M : Int) = (D : Int) := by omega
            have HP : Hid _ := hp
            clear hp hyd
            go_wp2
            go_roundw
            case rel => exact ⟨trivial, q + 1, by omega, by go_num, by rw [HP.out]⟩
            case measure => simp [intOf]; omega
        · obtain rfl : q = 8 := by omega
          rw [part_all hbk]
          go_wp2
          go_roundw
          case rel => exact ⟨trivial, k + 1, by omega, by go_num, by rw [HN.out]⟩
          case measure => simp [intOf]; omega
    · have hke : k = bs.length := by omega
      have b1 : ¬ (k : Int) < (bs.length : Int) := by omega
      have HN : Hid (bits .xor .u32 ((reg (s ^^^ FF) (bs.take k) : Nat) : Int) 4294967295 = ((more s bs : Nat) : Int)) := by
        have := u32_xor_nat _ FF hR w_FF
        rw [Hid, show (4294967295 : Int) = ((FF : Nat) : Int) from rfl, this, hke, List.take_length]; rfl
      clear hke hR
      go_wp2
      go_ret
      exact ⟨ret_int HN.out, rfl⟩
set_option maxHeartbeats 400000 in
theorem kSum_ok {w : World} (ao : Option Addr) (cap : Nat) (bs : List Nat) (hx : RdB w ao bs) (hl : bs.length ≤ 1000000000000000) :
    Calls Tryd.prog 36 #[.slice ao bs.length cap] w fun e w' => e = .returned (q32 (crc bs)) ∧ w' = w := by
  have h := kMore_ok (w := w) 0 (by unfold W32; decide) ao cap bs hx hl
  go_enter Tryd.func36, Tryd.ntmps36
  go_wp2_with fail
  refine h.mono ?_
  rintro e w ⟨rfl, rfl⟩
  go_wp2
  go_ret
  exact ⟨rfl, rfl⟩
theorem nine : crc [49, 50, 51, 52, 53, 54, 55, 56, 57] = 3421780262 := by kernel_rfl
def nineL : List Nat := [49, 50, 51, 52, 53, 54, 55, 56, 57]
end Cr
end Go.Proofs.YtoakokpeomlkjaaDoor
