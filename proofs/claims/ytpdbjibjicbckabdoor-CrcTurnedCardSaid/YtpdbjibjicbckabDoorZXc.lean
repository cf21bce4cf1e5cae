/- The document's own More and Sum; awake. -/
import Derived.Test.YtpdbjibjicbckabDoorZXb
import Derived.Lib.SlBytesConst
namespace Go.Proofs.YtpdbjibjicbckabDoor
open Go.RowKit
namespace Cr
theorem bit_u32 {x k : Nat} (hx : x ≤ 255) : bits .and .u32 ((x : Int) / 2 ^ k % 4294967296) 1 = ((x / 2 ^ k % 2 : Nat) : Int) := by
  have h2 := Nat.le_trans (Nat.div_le_self x (2 ^ k)) hx
  have e : ((x : Int) / 2 ^ k) = ((x / 2 ^ k : Nat) : Int) := by simp
  rw [e]
  generalize x / 2 ^ k = z at h2 ⊢
  rw [show ((z : Int) % 4294967296) = (z : Int) by omega]
  exact and1_u32 (w_byte h2)
theorem nine : crc [49, 50, 51, 52, 53, 54, 55, 56, 57] = 3421780262 := by kernel_rfl
def nineL : List Nat := [49, 50, 51, 52, 53, 54, 55, 56, 57]
set_option maxHeartbeats 400000 in
theorem awake_ok {w : World} (hG : Glob w) :
    Calls Tryd.prog 4 #[] w fun e w' => e = .returned (.bool true) ∧ w.grownBy w' none := by
  have hA := World.grownBy_alloc w (.cells (valsB nineL).toArray 5 (9, 10)) none
  have hr : RdB (w.alloc (.cells (valsB nineL).toArray 5 (9, 10))) (some ⟨w.heap.size, 0, none⟩) nineL := ⟨by
    intro i
    by_cases h : i < 9
    · have : i = 0 ∨ i = 1 ∨ i = 2 ∨ i = 3 ∨ i = 4 ∨ i = 5 ∨ i = 6 ∨ i = 7 ∨ i = 8 := by omega
      rcases this with rfl | rfl | rfl | rfl | rfl | rfl | rfl | rfl | rfl <;> decide
    · rw [nth_over _ (by simp [nineL]; omega)]; omega, .inr ⟨w.heap.size, 0, rfl, fun i hi => by
    have h := heap_alloc_new w (.cells (valsB nineL).toArray 5 (9, 10))
    rw [Nat.zero_add]
    simp only [World.cell?, h]
    simpa using valsB_at hi⟩⟩
  have h := sum_ok (hG.more hA) (some ⟨w.heap.size, 0, none⟩) 9 _ hr (by simp [nineL])
  have kc := Lib.run_convert_bytes_const (P := Tryd.prog) w 22 5 (valsB nineL).toArray 9 9 Tryd.underlying22 Tryd.underlying5
  generalize hW : w.alloc (.cells (valsB nineL).toArray 5 (9, 10)) = W at hA h
  have kc' : (convert 22 22 (.slice (some ⟨w.heap.size, 0, none⟩) 9 9)).run Tryd.prog (w.alloc (.cells #[.int .u8 49, .int .u8 50, .int .u8 51, .int .u8 52, .int .u8 53, .int .u8 54, .int .u8 55, .int .u8 56, .int .u8 57] 5)) = .ok (.slice (some ⟨w.heap.size, 0, none⟩) 9 9) W := by rw [← hW]; exact kc
  have HS : Hid (Calls Tryd.prog 7 #[.slice (some ⟨w.heap.size, 0, none⟩) 9 9] W fun e w' => e = .returned (q32 3421780262) ∧ w' = W) := by
    rw [show crc nineL = 3421780262 from nine] at h
    exact h
  have HA : Hid _ := hA
  clear h hA kc hr hW
  go_enter Tryd.func4, Tryd.ntmps4
  go_wp2_with fail
  refine HS.out.mono ?_
  rintro e w' ⟨rfl, rfl⟩
  go_wp2
  go_ret
  exact ⟨rfl, HA.out⟩
end Cr
end Go.Proofs.YtpdbjibjicbckabDoor
