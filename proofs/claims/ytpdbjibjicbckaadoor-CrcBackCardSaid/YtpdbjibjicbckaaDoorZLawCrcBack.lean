/- The walk of CrcBack. -/
import Derived.Test.YtpdbjibjicbckaaDoorZXf
import Derived.Test.YtpdbjibjicbckaaDoorZXg
namespace Go.Proofs.YtpdbjibjicbckaaDoor
open Go.RowKit
namespace Cr
theorem own_parts {w : World} {g : Nat} {a b : List Nat} (h : OwnB w g (a ++ b) []) : RdB w (some ⟨g, 0, none⟩) a ∧ RdB w (some ⟨g, 0 + a.length, none⟩) b := by
  have hc := fun (k : Nat) (hk : k < (a ++ b).length) => h.cell hk
  have n1 : ∀ i, i < a.length → nth (a ++ b) i = nth a i := fun i hi => by rw [nth_of (by simp; omega), nth_of hi, List.getElem_append_left hi]
  have n2 : ∀ i, i < b.length → nth (a ++ b) (a.length + i) = nth b i := fun i hi => by rw [nth_of (by simp; omega), nth_of hi, List.getElem_append_right (by omega)]; simp
  refine ⟨⟨fun i => ?_, .inr ⟨g, 0, rfl, fun i hi => ?_⟩⟩, ⟨fun i => ?_, .inr ⟨g, _, rfl, fun i hi => ?_⟩⟩⟩
  · by_cases hi : i < a.length
    · rw [← n1 i hi]; exact h.le i
    · rw [nth_over _ (by omega)]; omega
  · rw [Nat.zero_add, hc i (by simp; omega), n1 i hi]
  · by_cases hi : i < b.length
    · rw [← n2 i hi]; exact h.le _
    · rw [nth_over _ (by omega)]; omega
  · rw [Nat.zero_add, hc _ (by simp; omega), n2 i hi]
theorem xor_u8 {a b : Nat} (ha : a ≤ 255) (hb : b ≤ 255) : bits .xor .u8 (a : Int) (b : Int) = ((a ^^^ b : Nat) : Int) := u8_xor_nat a b (by omega) (by omega)
theorem xor_le {a b : Nat} (ha : a ≤ 255) (hb : b ≤ 255) : a ^^^ b ≤ 255 := by
  have := Nat.xor_lt_two_pow (x := a) (y := b) (n := 8) (by omega) (by omega)
  omega
/-- While what was sealed is written over, all else stays. -/
structure BkRel (w wr : World) (g g2 n : Nat) (bs : List Nat) : Prop where
  row : ∃ S, S.length = n ∧ OwnB wr g S []
  back : OwnB wr g2 bs []
  more : w.grownBy wr none
theorem BkRel.next {w wr : World} {g g2 n : Nat} {bs : List Nat} (h : BkRel w wr g g2 n bs) (hg : w.heap.size ≤ g) (hne : g2 ≠ g) {k : Nat} (hk : k < n) : ∃ x, x ≤ 255 ∧ wr.cell? ⟨g, k, none⟩ = some (.int .u8 (x : Nat)) ∧ wr.frozen? ⟨g, k, none⟩ = false ∧ BkRel w (wr.setCell ⟨g, k, none⟩ (.int .u8 (x ^^^ 255 : Nat))) g g2 n bs := by
  obtain ⟨S, hS, hO⟩ := h.row
  refine ⟨nth S k, hO.le k, hO.cell (by omega), hO.frozen k, ⟨_, ?_, hO.store (k := k) (v := nth S k ^^^ 255) (by omega) (xor_le (hO.le k) (by omega))⟩, ⟨by rw [setCell_else hne]; exact h.back.at_, h.back.le⟩, grownBy_setCell h.more (.inl hg) _⟩
  simp [hS]
set_option maxHeartbeats 3200000 in
theorem law_CrcBack (ao : Option Addr) (len cap : Nat) (bs : List Nat) {w : World} (hx : ArgB w ao len bs) (hl : len ≤ 140737488351232 ∧ len ≤ cap ∧ (ao = none → cap = 0)) (hG : Glob w) (_h0 : 0 < w.heap.size) :
    Calls Tryd.prog 5 #[.slice ao len cap] w fun e w' => e = .returned (.bool true) ∧ w.grownBy w' none := by
  obtain ⟨rfl, hx⟩ := hx
  have hle := hx.le
  have hcl := crc_lt hle
  go_enter Tryd.func5, Tryd.ntmps5
  go_wp2_with fail
  refine (awake_ok hG).mono ?_
  rintro e w1 ⟨rfl, hg1⟩
  have hcv := conv_ok (hx.more hg1) cap
  go_wp2_with fail
  refine (seal_ok (hG.more hg1) ao cap bs (hx.more hg1) (by omega)).mono ?_
  rintro e w2 ⟨g, rfl, hgg, hg2, hO⟩
  clear hcv
  have hgw2 := grownBy_trans hg1 hg2
  have hsz1 := hg1.size
  obtain ⟨hd, ht⟩ := own_parts hO
  have hlen : (bs ++ le4 (crc bs)).length = bs.length + 4 := by simp [le4]
  have HOp : Hid _ := fun (w' : World) (e' : w2 = w') => open_ok (w := w') (e' ▸ (hG.more hgw2)) g 0 (bs.length + 4) bs (le4 (crc bs)) (e' ▸ hd) (e' ▸ ht) rfl (Nat.le_refl _) (by omega)
  clear hd ht
  have HH : Hid _ := hlen
  clear hlen
  go_wp2_with fail
  refine (HOp.out w2 rfl).mono ?_
  rintro e w3 hpost
  have hpost' := hpost
  rw [OpenPost, nm_le4 hcl] at hpost'
  simp only [decide_true, if_true] at hpost'
  obtain ⟨g2, rfl, hgg2, hg3, hO3⟩ := hpost'
  clear hpost HOp
  have hO2 := hO.more hg3
  have hne : g2 ≠ g := by have := hO.lt; omega
  have hgw3 := grownBy_trans hgw2 hg3
  have hB : BkRel w w3 g g2 (bs.length + 4) bs := ⟨⟨_, HH.out, hO2⟩, hO3, hgw3⟩
  have hcx := conv_ok hO3.rdB bs.length
  clear hO hO2 hO3 HH hg3 hgw3 hg2
  go_wp2_with fail
  go_loopw [8] (fun i wr => ∃ k : Nat, k ≤ bs.length + 4 ∧ i = num k ∧ BkRel w wr g g2 (bs.length + 4) bs) (fun i _ => bs.length + 4 - (intOf i).toNat)
  case atStart => exact ⟨0, Nat.zero_le _, rfl, hB⟩
  case round =>
    clear hB hcx
    obtain ⟨k, hk, rfl, hB⟩ := hrel
    by_cases hlt : k < bs.length + 4
    · have b1 : (k : Int) < (bs.length : Int) + 4 := by omega
      obtain ⟨x, hx255, ck, zk, hN⟩ := hB.next (by omega) hne hlt
      have ex : bits .xor .u8 (x : Int) 255 = ((x ^^^ 255 : Nat) : Int) := xor_u8 hx255 (Nat.le_refl 255)
      clear hB
      generalize x ^^^ 255 = y at ex hN
      go_wp2
      go_roundw
      case rel => exact ⟨k + 1, by omega, by go_num, hN⟩
      case measure => simp [intOf]; omega
    · have b1 : ¬ (k : Int) < (bs.length : Int) + 4 := by omega
      have hc1 := conv_ok hB.back.rdB bs.length
      have hc2 := conv_ok (hx.more hB.more) cap
      have hfin := hB.more
      go_wp2
      go_ret
      exact ⟨rfl, hfin⟩
end Cr
end Go.Proofs.YtpdbjibjicbckaaDoor
