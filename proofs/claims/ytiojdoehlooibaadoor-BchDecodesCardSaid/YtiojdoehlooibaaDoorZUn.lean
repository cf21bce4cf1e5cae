/- unlike: in how many bits two rows of bytes differ. -/
import Derived.Test.YtiojdoehlooibaaDoorZAd
import Derived.BigRegion
namespace Go.Proofs.YtiojdoehlooibaaDoor
open Go.RowKit
namespace Gf
/-- The first k bits of a byte, from the lowest, that are 1. -/
def pcN (x : Nat) : Nat → Nat
  | 0 => 0
  | k + 1 => pcN x k + x / 2 ^ k % 2
theorem wt_append (a b : List Nat) : wt (a ++ b) = wt a + wt b := by rw [wt_eq, wt_eq, wt_eq, List.countP_append]
theorem if_bit {x : Nat} (h : x ≤ 1) : (if x = 1 then 1 else 0) = x := by
  have : x = 0 ∨ x = 1 := by omega
  rcases this with rfl | rfl <;> rfl
theorem wt_byte (x : Nat) : wt (byteBits x) = pcN x 8 := by
  have e : byteBits x = [x / 2 ^ 7 % 2, x / 2 ^ 6 % 2, x / 2 ^ 5 % 2, x / 2 ^ 4 % 2, x / 2 ^ 3 % 2, x / 2 ^ 2 % 2, x / 2 ^ 1 % 2, x / 2 ^ 0 % 2] := rfl
  rw [e]
  have hb : ∀ k, x / 2 ^ k % 2 ≤ 1 := fun k => by omega
  rw [wt_cons, wt_cons, wt_cons, wt_cons, wt_cons, wt_cons, wt_cons, wt_cons, if_bit (hb 7), if_bit (hb 6), if_bit (hb 5), if_bit (hb 4), if_bit (hb 3), if_bit (hb 2), if_bit (hb 1), if_bit (hb 0)]
  simp only [pcN]
  have h0 : wt [] = 0 := rfl
  omega
theorem pcN_le (x k : Nat) : pcN x k ≤ k := by
  induction k with
  | zero => exact Nat.le_refl _
  | succ k ih => rw [pcN]; omega
/-- The first i bytes' bits that differ. -/
def unN (a b : List Nat) : Nat → Nat
  | 0 => 0
  | i + 1 => unN a b i + pcN (nth a i ^^^ nth b i) 8
theorem xor_byte' {a b : Nat} (ha : a ≤ 255) (hb : b ≤ 255) : a ^^^ b ≤ 255 := by
  have := Nat.xor_lt_two_pow (x := a) (y := b) (n := 8) (by omega) (by omega)
  omega
theorem unN_le (a b : List Nat) (i : Nat) : unN a b i ≤ 8 * i := by
  induction i with
  | zero => exact Nat.le_refl _
  | succ i ih => rw [unN]; have := pcN_le (nth a i ^^^ nth b i) 8; omega
theorem unN_is {a b : List Nat} (hl : a.length = b.length) : ∀ i, i ≤ a.length → unN a b i = wt (bitsS ((xl a b).take i))
  | 0, _ => rfl
  | i + 1, h => by
    rw [bitsS_snoc _ (by rw [xl_len hl]; omega), wt_append, wt_byte, nth_xl hl, unN, unN_is hl i (by omega)]
/-- In how many bits. -/
def unS (a b : List Nat) : Nat := wt (xl (bitsS a) (bitsS b))
theorem unN_all {a b : List Nat} (hl : a.length = b.length) : unN a b a.length = unS a b := by
  rw [unN_is hl _ (Nat.le_refl _), List.take_of_length_le (by rw [xl_len hl]; exact Nat.le_refl _), bits_xorB hl, unS]
theorem and_bit_u8 (x k : Nat) (hx : x ≤ 255) : bits .and .u8 ((x : Int) / 2 ^ k) 1 = ((x / 2 ^ k % 2 : Nat) : Int) := by
  have e : ((x : Int) / 2 ^ k) = ((x / 2 ^ k : Nat) : Int) := by simp
  have hle : x / 2 ^ k ≤ x := Nat.div_le_self _ _
  rw [e]
  have := and_u8 (a := x / 2 ^ k) (b := 1) (by omega) (by decide)
  rw [show ((1 : Nat) : Int) = 1 from rfl] at this
  rw [this, Nat.and_one_is_mod]
set_option maxHeartbeats 1600000 in
set_option maxRecDepth 4000 in
theorem unlike_ok {w : World} (aa ab : Option Addr) (ca cb : Nat) (a b : List Nat) (ha : RdB w aa a) (hb : RdB w ab b) (hl : a.length = b.length) (hn : a.length ≤ 10000) :
    Calls Tryd.prog 23 #[.slice aa a.length ca, .slice ab b.length cb] w fun e w' => e = .returned (num (unS a b : Nat)) ∧ w.grownBy w' none := by
  obtain ⟨LB, hLB⟩ : ∃ LB, LB = b.length := ⟨_, rfl⟩
  rw [← hLB]
  have HLB : Hid (LB = b.length) := hLB
  have hLa : a.length = LB := by omega
  have HLa : Hid (a.length = LB) := hLa
  have HL : Hid (a.length = b.length) := hl
  clear hLB hLa hl
  go_enter Tryd.func23, Tryd.ntmps23
  go_wp2_with fail
  go_loopw [5, 6] (fun v i wr => ∃ k : Nat, k ≤ a.length ∧ i = num k ∧ v = num (unN a b k : Nat) ∧ w.grownBy wr none) (fun _ i _ => a.length - (intOf i).toNat)
  case atStart => exact ⟨0, Nat.zero_le _, rfl, rfl, World.grownBy.refl _ _⟩
  case round =>
    obtain ⟨k, hk, rfl, rfl, hg⟩ := hrel
    have hun := unN_le a b k
    by_cases hlt : k < a.length
    · have b1 : (k : Int) < (a.length : Int) := by omega
      have b2 : (k : Int) < (LB : Int) := by have := HLa.out; omega
      have hxa := ha.1 k
      have hxb := hb.1 k
      obtain ⟨ga, oa, haa, hca⟩ := ha.2.resolve_left (fun e => by rw [e] at hlt; simp at hlt)
      obtain ⟨gb, ob, hab, hcb⟩ := hb.2.resolve_left (fun e => by have h1 := HL.out; rw [e] at h1; simp at h1; rw [h1] at hlt; simp at hlt)
      subst haa hab
      have HS : Hid (unN a b (k + 1) = unN a b k + pcN (nth a k ^^^ nth b k) 8) := rfl
      have hxo := xor_u8 hxa hxb
      have hX : nth a k ^^^ nth b k ≤ 255 := xor_byte' hxa hxb
      have hca' := hca k hlt
      have hcb' := hcb k (by have := HL.out; omega)
      obtain ⟨X, hXe⟩ : ∃ X, X = nth a k ^^^ nth b k := ⟨_, rfl⟩
      rw [← hXe] at HS hxo hX
      obtain ⟨U, hU⟩ : ∃ U, U = unN a b k := ⟨_, rfl⟩
      rw [← hU] at HS hun ⊢
      clear hXe hU hca hcb
      go_wp2_with fail
      go_loopw [5, 7] (fun v i ws => ∃ j : Nat, j ≤ 8 ∧ i = num j ∧ v = num ((U + pcN X j : Nat) : Int) ∧ w.grownBy ws none) (fun _ i _ => 8 - (intOf i).toNat)
      case atStart => exact ⟨0, by omega, rfl, by rw [pcN, Nat.add_zero], hg⟩
      case round =>
        clear hg
        obtain ⟨j, hj, rfl, rfl, hg⟩ := hrel
        have hpl := pcN_le X j
        by_cases hj8 : j < 8
        · have b3 : (j : Int) < 8 := by omega
          have ka : wr.cell? ⟨ga, oa + k, none⟩ = some (.int .u8 (nth a k : Nat)) := by
            rw [World.cell?_of_block (w := w) (a := ⟨ga, oa + k, none⟩) (hg.block ga (lt_of_cell hca') (by simp))]; exact hca'
          have kb : wr.cell? ⟨gb, ob + k, none⟩ = some (.int .u8 (nth b k : Nat)) := by
            rw [World.cell?_of_block (w := w) (a := ⟨gb, ob + k, none⟩) (hg.block gb (lt_of_cell hcb') (by simp))]; exact hcb'
          have hab := and_bit_u8 X j hX
          have HP : Hid (pcN X (j + 1) = pcN X j + X / 2 ^ j % 2) := rfl
          obtain ⟨Bt, hBt⟩ : ∃ Bt, Bt = X / 2 ^ j % 2 := ⟨_, rfl⟩
          have hB1 : Bt ≤ 1 := by omega
          rw [← hBt] at hab HP
          obtain ⟨Q, hQ⟩ : ∃ Q, Q = U + pcN X j := ⟨_, rfl⟩
          have HQ : Hid (Q = U + pcN X j) := hQ
          have hQl : Q ≤ 80000 := by omega
          rw [← hQ]
          clear hBt hQ
          have w1 : IntKind.i64.wrap ((Q : Int) + (Bt : Int)) = (Q : Int) + (Bt : Int) := by rw [IntKind.wrap_i64]; omega
          have w2 : IntKind.i64.wrap (Bt : Int) = (Bt : Int) := by rw [IntKind.wrap_i64]; omega
          go_wp2_with fail
          go_region
          all_goals
            go_wp2
            go_roundw
            case rel => exact ⟨j + 1, by omega, by go_num, by have h1 := HQ.out; have h2 := HP.out; rw [h2]; go_num, grownBy_drew hg⟩
            case measure => simp [intOf]; omega
        · obtain rfl : j = 8 := by omega
          go_wp2_with fail
          go_roundw
          case rel => exact ⟨k + 1, by omega, by go_num, by rw [HS.out], hg⟩
          case measure => simp [intOf]; omega
    · obtain rfl : k = a.length := by omega
      have b1 : ¬ ((a.length : Int) < (a.length : Int)) := by omega
      have HA : Hid _ := unN_all HL.out
      rw [HA.out]
      go_wp2_with fail
      go_ret
      exact ⟨rfl, hg⟩
end Gf
end Go.Proofs.YtiojdoehlooibaaDoor
