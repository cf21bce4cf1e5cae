/- cleaned: a parity without its last byte's other bits. -/
import Derived.Test.YtiojdoehlooibaaDoorZDa
import Derived.Test.YtiojdoehlooibaaDoorZCp
namespace Go.Proofs.YtiojdoehlooibaaDoor
open Go.RowKit
namespace Gf
/-- The last byte's other bits left out. -/
def clean (r : Nat) (ps : List Nat) : List Nat := ps.set (ps.length - 1) (nth ps (ps.length - 1) &&& (255 <<< (8 * ps.length - r)) % 256)
theorem mask_bit {k j : Nat} (hk : k < 8) (hj : j < 8) : ((255 <<< k) % 256).testBit j = decide (k ≤ j) := by
  have hk' : k = 0 ∨ k = 1 ∨ k = 2 ∨ k = 3 ∨ k = 4 ∨ k = 5 ∨ k = 6 ∨ k = 7 := by omega
  have hj' : j = 0 ∨ j = 1 ∨ j = 2 ∨ j = 3 ∨ j = 4 ∨ j = 5 ∨ j = 6 ∨ j = 7 := by omega
  rcases hk' with rfl | rfl | rfl | rfl | rfl | rfl | rfl | rfl <;> rcases hj' with rfl | rfl | rfl | rfl | rfl | rfl | rfl | rfl <;> rfl
theorem and_le255 {a b : Nat} (hb : b ≤ 255) : a &&& b ≤ 255 := Nat.le_trans Nat.and_le_right hb
theorem bits_take {l : List Nat} (h : Bits l) (n : Nat) : Bits (l.take n) := fun k => by
  by_cases hk : k < n
  · rw [nth_take _ hk]; exact h k
  · rw [nth_over _ (by simp; omega)]; omega
/-- The cleaned bytes are the first bits. -/
theorem clean_is {r : Nat} {ps : List Nat} (hr : 1 ≤ r) (hp : ps.length = (r + 7) / 8) (hle : ∀ k, nth ps k ≤ 255) : clean r ps = bytesS ((bitsS ps).take r) := by
  have hbl := bitsS_len ps
  have hm : (255 <<< (8 * ps.length - r)) % 256 ≤ 255 := by have := Nat.mod_lt (255 <<< (8 * ps.length - r)) (show 0 < 256 by decide); omega
  refine bytes_eq ?_ (nth_set_le hle _ (and_le255 hm)) (bytesS_le _) fun k => ?_
  · rw [bytesS_len, List.length_take, hbl, clean, List.length_set]; omega
  · rw [nth_bits_bytes (bits_take (bits_bitsS ps) r), nth_bitsS, clean, nth_set _ _ _ _ (by omega)]
    by_cases hk : k < r
    · rw [nth_take _ hk, nth_bitsS]
      by_cases e : k / 8 = ps.length - 1
      · rw [if_pos e, testBit_val, testBit_val, Nat.testBit_and, mask_bit (by omega) (by omega), decide_eq_true (by omega), Bool.and_true, e]
      · rw [if_neg e]
    · rw [nth_over ((bitsS ps).take r) (by simp; omega)]
      by_cases e : k / 8 = ps.length - 1
      · rw [if_pos e, testBit_val, Nat.testBit_and, mask_bit (by omega) (by omega), decide_eq_false (by omega), Bool.and_false]; rfl
      · rw [if_neg e, nth_over ps (by omega), Nat.zero_div]
theorem and_u8 {a b : Nat} (ha : a ≤ 255) (hb : b ≤ 255) : bits .and .u8 (a : Int) (b : Int) = ((a &&& b : Nat) : Int) :=
  (bits_nat .u8 8 (by decide) (fun n h1 h2 => by
    have h3 : n < 256 := by simpa using h2
    rw [IntKind.wrap_u8]; omega) a b (by omega) (by omega)).1
/-- What cleaned answers. -/
def CleanPost (b : Nat) (w : World) (bs : List Nat) (e : Ending) (w' : World) : Prop := ∃ g T, e = .returned (.slice (some ⟨g, 0, none⟩) bs.length (bs.length + List.length T)) ∧ w.heap.size ≤ g ∧ w.grownBy w' none ∧ OwnB b w' g bs T
theorem Fld.own_new {w w' : World} {b m g : Nat} {bs : List Nat} {T : List Value} (h : Fld w b m) (hg : w.grownBy w' none) (hn : w.heap.size ≤ g) (hh : w'.heap[g]? = some (.cells (valsB bs ++ T).toArray 5)) (hle : ∀ k, nth bs k ≤ 255) : OwnB b w' g bs T :=
  ⟨hh, (h.free_new hn).of_block (hg.block b h.lt (by simp)), hle⟩
set_option maxHeartbeats 1600000 in
set_option maxRecDepth 4000 in
theorem cleaned_ok {w : World} {c b m bytes t : Nat} (h : Cod w c b m bytes t) (ap : Option Addr) (cp : Nat) (ps : List Nat) (hx : RdB w ap ps) (hp : ps.length = pS m t) :
    Calls Tryd.prog 36 #[ptr c, .slice ap ps.length cp] w fun e w' => CleanPost b w (clean (rS m t) ps) e w' := by
  have h104 := h.r_104
  have h2 := h.two
  unfold pS at hp
  have hcl : (clean (rS m t) ps).length = ps.length := by rw [clean, List.length_set]
  have hR1 : 1 ≤ rS m t := by unfold rS; omega
  obtain ⟨R, hR⟩ : ∃ R, R = rS m t := ⟨_, rfl⟩
  rw [← hR] at h104 hp hR1 hcl ⊢
  have c3 := h.c3
  rw [← hR] at c3
  have HCl : Hid _ := hcl
  have p1 : 1 ≤ ps.length := by omega
  have p2 : ps.length ≤ 13 := by omega
  have p3 : R ≤ 8 * ps.length := by omega
  have p4 : 8 * ps.length < R + 8 := by omega
  clear hR hcl hp
  go_enter Tryd.func36, Tryd.ntmps36
  go_wp2_with fail
  refine (clone_ok ap cp ps hx (by omega) (by omega)).mono ?_
  rintro e w1 ⟨g, T, rfl, hg1, hgr, hh⟩
  have hO := h.fld.own_new hgr hg1 hh hx.1
  have c3' : w1.cell? ⟨c, 3, none⟩ = some (num (R : Nat)) := by
    rw [World.cell?_of_block (w := w) (a := ⟨c, 3, none⟩) (hgr.block c h.lt (by simp))]; exact c3
  have cl := hO.cell (k := ps.length - 1) (by omega)
  have zl := hO.frozen (ps.length - 1)
  have hle := hx.1 (ps.length - 1)
  have b1 : ((ps.length : Int) - 1).toNat = ps.length - 1 := by omega
  have b2 : (0 : Int) ≤ (ps.length : Int) - 1 := by omega
  have b3 : (0 : Int) ≤ 8 * (ps.length : Int) - (R : Int) := by omega
  have b4 : (8 * (ps.length : Int) - (R : Int)).toNat = 8 * ps.length - R := by omega
  have b5 : (ps.length : Int) ≤ 13 := by omega
  have hm : (255 <<< (8 * ps.length - R)) % 256 ≤ 255 := by have := Nat.mod_lt (255 <<< (8 * ps.length - R)) (show 0 < 256 by decide); omega
  have hN := hO.store (k := ps.length - 1) (v := nth ps (ps.length - 1) &&& (255 <<< (8 * ps.length - R)) % 256) (by omega) (and_le255 hm)
  have HV : Hid (bits .and .u8 (nth ps (ps.length - 1) : Int) (255 * 2 ^ (8 * ps.length - R) % 256) = ((nth ps (ps.length - 1) &&& (255 <<< (8 * ps.length - R)) % 256 : Nat) : Int)) := by
    rw [Hid, ← and_u8 hle hm, Nat.shiftLeft_eq]
    simp
  have HN : Hid _ := hN
  have hG9 := grownBy_setCell hgr (.inl hg1) (.int .u8 (nth ps (ps.length - 1) &&& (255 <<< (8 * ps.length - R)) % 256 : Nat)) (i := ps.length - 1)
  have HG9 : Hid _ := hG9
  clear hN hm hG9 hO hh hgr
  go_wp2_with fail
  go_region
  all_goals
    go_wp2
    go_ret
    refine ⟨g, T, ret_slice2 HCl.out.symm (by rw [HCl.out]), hg1, ?_, ?_⟩
    · rw [HV.out]; exact grownBy_drew HG9.out
    · rw [HV.out]; exact HN.out.drew
end Gf
end Go.Proofs.YtiojdoehlooibaaDoor
