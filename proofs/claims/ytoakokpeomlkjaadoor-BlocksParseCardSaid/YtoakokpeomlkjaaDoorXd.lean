/- number, Seal, Open of the program. -/
import Derived.Test.YtoakokpeomlkjaaDoorXc
namespace Go.Proofs.YtoakokpeomlkjaaDoor
open Go.RowKit
namespace Cr
theorem nm_snoc {l : List Nat} {k : Nat} (h : k < l.length) : nm (l.take (k + 1)) = nm (l.take k) ^^^ nth l k <<< (8 * k) := by
  rw [take_snoc h, nm_app]
  simp [nm, Nat.min_eq_left (Nat.le_of_lt h)]
theorem nm_take_lt {l : List Nat} (hl : ∀ x ∈ l, x ≤ 255) {k : Nat} (h : k ≤ l.length) : nm (l.take k) < 2 ^ (8 * k) := by
  have := nm_lt (l.take k) (fun x hx => hl x (List.mem_of_mem_take hx))
  rwa [List.length_take, Nat.min_eq_left h] at this
theorem or_step {l : List Nat} (hl : ∀ x ∈ l, x ≤ 255) (h4 : l.length = 4) {k : Nat} (h : k < 4) :
    bits .or .u32 ((nm (l.take k) : Nat) : Int) (((nth l k <<< (8 * k) : Nat) : Int)) = ((nm (l.take (k + 1)) : Nat) : Int) := by
  have h1 := nm_take_lt hl (k := k) (by omega)
  have h2 : nth l k ≤ 255 := by rw [nth_of (by omega)]; exact hl _ (List.getElem_mem _)
  have h3 : (2 : Nat) ^ (8 * k) ≤ 2 ^ 24 := Nat.pow_le_pow_right (by decide) (by omega)
  have h5 : nth l k <<< (8 * k) ≤ 255 * 2 ^ 24 := by rw [Nat.shiftLeft_eq]; exact Nat.mul_le_mul h2 h3
  rw [u32_or_nat _ _ (by omega) (by omega), or_xor _ h1, nm_snoc (by omega)]
theorem shl_u32 {x k : Nat} (hx : x ≤ 255) (h : k < 4) : (x : Int) * 2 ^ (8 * k) % 4294967296 = ((x <<< (8 * k) : Nat) : Int) := by
  have h3 : (2 : Nat) ^ (8 * k) ≤ 2 ^ 24 := Nat.pow_le_pow_right (by decide) (by omega)
  have h5 : x <<< (8 * k) ≤ 255 * 2 ^ 24 := by rw [Nat.shiftLeft_eq]; exact Nat.mul_le_mul hx h3
  have e : (x : Int) * 2 ^ (8 * k) = ((x <<< (8 * k) : Nat) : Int) := by rw [Nat.shiftLeft_eq]; simp
  rw [e]
  generalize x <<< (8 * k) = z at h5 ⊢
  omega
set_option maxHeartbeats 800000 in
theorem number_ok {w : World} (ao : Option Addr) (cap : Nat) (l : List Nat) (hx : RdB w ao l) (h4 : l.length = 4) :
    Calls Tryd.prog 45 #[.slice ao 4 cap] w fun e w' => e = .returned (q32 (nm l)) ∧ w' = w := by
  obtain ⟨gd, od, rfl, hcd⟩ := hx.2.resolve_left (fun e => by rw [e] at h4; simp at h4)
  go_enter Tryd.func45, Tryd.ntmps45
  go_wp2_with fail
  go_loopw [8, 3] (fun i r wr => wr = w ∧ ∃ k : Nat, k ≤ 4 ∧ i = num k ∧ r = q32 (nm (l.take k))) (fun i _ _ => 4 - (intOf i).toNat)
  case atStart => exact ⟨rfl, 0, Nat.zero_le _, rfl, rfl⟩
  case round =>
    obtain ⟨rfl, k, hk, rfl, rfl⟩ := hrel
    by_cases hlt : k < 4
    · have b1 : (k : Int) < 4 := by omega
      have o := or_step hx.le h4 hlt
      have ck := hcd k (by omega)
      have hbk := hx.1 k
      have sh := shl_u32 hbk hlt
      generalize nth l k = X at o ck hbk sh
      obtain ⟨N', hN⟩ : ∃ N', N' = nm (l.take (k + 1)) := ⟨_, rfl⟩
      rw [← hN] at o
      have HN : Hid _ := hN
      clear hN
      generalize nm (l.take k) = N at o ⊢
      generalize X <<< (8 * k) = Z at o sh
      clear hcd h4
      go_wp2
      go_roundw
      case rel => exact ⟨trivial, k + 1, by omega, by go_num, by rw [← HN.out]⟩
      case measure => simp [intOf]; omega
    · have hke : k = 4 := by omega
      subst hke
      have HN : Hid (nm (l.take 4) = nm l) := by rw [Hid, ← h4, List.take_length]
      clear h4 hcd
      go_wp2
      go_ret
      exact ⟨by rw [HN.out]; rfl, rfl⟩
/-! ### Seal -/
theorem info_parts {i? : Option TypeInfo} {z : Value} {a b : Nat} (h : i?.map (fun i => (i.zero, i.size, i.bytes)) = some (some z, a, b)) : ∃ i, i? = some i ∧ i.zero = some z ∧ i.size = a ∧ i.bytes = b := by
  cases i? with
  | none => simp at h
  | some i => simp at h; exact ⟨i, rfl, h.1, h.2.1, h.2.2⟩
theorem Tryd.info5 : (Tryd.prog.info? 5).map (fun i => (i.zero, i.size, i.bytes)) = some (some (.int .u8 0), 1, 1) := by kernel_rfl
/-- The bytes of a sum laid so far. -/
def laidS (bs : List Nat) (s k : Nat) : List Nat := bs ++ (le4 s).take k ++ List.replicate (4 - k) 0
theorem laidS_len (bs : List Nat) (s : Nat) {k : Nat} (h : k ≤ 4) : (laidS bs s k).length = bs.length + 4 := by
  simp [laidS, le4]; omega
theorem byte_of (s k : Nat) (h : k < 4) : nth (le4 s) k = s / 2 ^ (8 * k) % 256 := by
  have : k = 0 ∨ k = 1 ∨ k = 2 ∨ k = 3 := by omega
  rcases this with rfl | rfl | rfl | rfl <;> simp [nth, le4]
theorem laidS_next (bs : List Nat) (s : Nat) {k : Nat} (h : k < 4) : (laidS bs s k).set (bs.length + k) (s / 2 ^ (8 * k) % 256) = laidS bs s (k + 1) := by
  have hl : (bs ++ (le4 s).take k).length = bs.length + k := by simp [le4]; omega
  unfold laidS
  rw [List.set_append_right _ _ (by omega), hl, Nat.sub_self, show 4 - k = (4 - (k + 1)) + 1 by omega, List.replicate_succ, List.set_cons_zero, take_snoc (by simp [le4]; omega), byte_of s k h]
  simp
theorem laidS_le {bs : List Nat} (hb : ∀ x ∈ bs, x ≤ 255) (s k : Nat) : ∀ i, nth (laidS bs s k) i ≤ 255 := fun i => by
  by_cases h : i < (laidS bs s k).length
  · rw [nth_of h]
    have hm := List.getElem_mem h
    generalize (laidS bs s k)[i] = x at hm
    simp only [laidS, List.mem_append, List.mem_replicate] at hm
    rcases hm with (hm | hm) | ⟨_, hm⟩
    · exact hb x hm
    · exact le4_le s x (List.mem_of_mem_take hm)
    · omega
  · rw [nth_over _ (by omega)]; omega
end Cr
end Go.Proofs.YtoakokpeomlkjaaDoor
