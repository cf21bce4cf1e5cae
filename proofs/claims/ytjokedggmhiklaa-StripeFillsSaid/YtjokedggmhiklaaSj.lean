/- Layer 6 (stripe): abs; what rows want. -/
import Derived.Test.YtjokedggmhiklaaSi
import Derived.ProofKit
import Derived.OpenShut
import Derived.ChangeOld
import Derived.Stop.Joined
import Derived.SizedLaws
import Derived.Deep.Slices
namespace Go.Proofs.Ytjokedggmhiklaa
open Go.ChangeShapes Go.WideShapes Go.ChangeAt Go.RowKit Go.Maps
namespace Sp
def absS (n : Int) : Nat := if n < 0 then (-(n + 1)).toNat else n.toNat
theorem absS_neg {n : Int} (h : n < 0) : (absS n : Int) = -(n + 1) := by unfold absS; rw [if_pos h]; omega
theorem absS_pos {n : Int} (h : ¬ n < 0) : (absS n : Int) = n := by unfold absS; rw [if_neg h]; omega
theorem absS_le {n : Int} (h : I64 n) : absS n ≤ 9223372036854775807 := by
  unfold I64 at h
  by_cases hn : n < 0
  · have := absS_neg hn; omega
  · have := absS_pos hn; omega
set_option maxHeartbeats 400000 in
theorem abs_ok (n : Int) (h : I64 n) (w : World) : Calls Try.prog 23 #[num n] w fun e w' => e = .returned (num (absS n)) ∧ w' = w := by
  obtain ⟨h1, h2⟩ := h
  by_cases hn : n < 0
  · have HE : Hid _ := absS_neg hn
    have q1 : n + 1 ≤ 0 := by omega
    go_enter Try.func23, Try.ntmps23
    go_wp2
    go_ret
    exact ⟨ret_int (by rw [HE.out]), rfl⟩
  · have HE : Hid _ := absS_pos hn
    go_enter Try.func23, Try.ntmps23
    go_wp2
    go_ret
    exact ⟨ret_int HE.out.symm, rfl⟩
theorem own : ownKnob Try.prog.godebug = none := by kernel_rfl
theorem laidOut : laidOutB Try.prog = true := by kernel_rfl
theorem i64_of_wf {x : Int} (h : (Lit.int .i64 x).wf = true) : I64 x := by
  simp [Lit.wf, IntKind.min, IntKind.max, IntKind.signed, IntKind.bits] at h
  unfold I64
  omega
theorem wf_i64 {x : Int} (h : I64 x) : (Lit.int .i64 x).wf = true := by
  unfold I64 at h
  simp [Lit.wf, IntKind.min, IntKind.max, IntKind.signed, IntKind.bits]
  omega
/-! ### The sides that the parity has met -/
theorem keyed3 : Keyed Try.prog 3 := int_keyed Try.underlying3
def MetM (w : World) (mp i : Nat) (p : Nat → Int) : Prop :=
  ∃ n DM, w.ownsMap Try.prog 3 (plainElem (H := Unit) Try.prog 3) mp n DM ∧ n ≤ i ∧ Maps.size DM = i ∧ ∀ z, Maps.has DM (.int .i64 z) = true → ∃ j, j < i ∧ z = p j
theorem met_made (w : World) (p : Nat → Int) : MetM (w.alloc (.map #[] 0)) w.heap.size 0 p := by
  have h : (w.alloc (.map #[] 0)).ownsMap Try.prog 3 (plainElem (H := Unit) Try.prog 3) w.heap.size 0 (.map []) := World.ownsMap_made w Try.prog 3 _
  exact ⟨0, _, h, Nat.le_refl _, rfl, fun z hz => by simp [Maps.has] at hz⟩
theorem MetM.put {w : World} {mp i : Nat} {p : Nat → Int} (h : MetM w mp i p) (hi : i ≤ 1000) (hp : I64 (p i)) (hne : ∀ j, j < i → p i ≠ p j) :
    ∃ w', (Instr.mapUpdate 24 (.map (some mp)) (num (p i)) (num 1)).run Try.prog w = .ok () w' ∧ MetM w' mp (i + 1) p ∧ w.grownBy w' (some mp) := by
  obtain ⟨n, DM, hown, hn, hs, hh⟩ := h
  obtain ⟨w', hrun, hown', ht⟩ := hown.store (t := 24) keyed3 Try.underlying24 (by unfold maxLen; omega) (keyOf_int_mk Try.underlying3 (wf_i64 hp)) (plainElem_int Try.underlying3 (a := 1) (by decide))
  have hno : Maps.has DM (.int .i64 (p i)) = false := by
    cases e : Maps.has DM (.int .i64 (p i)) with
    | false => rfl
    | true =>
      obtain ⟨j, hj, e2⟩ := hh _ e
      exact absurd e2 (hne j hj)
  refine ⟨w', hrun, ⟨n + 1, _, hown', by omega, ?_, fun z hz => ?_⟩, ht.grown⟩
  · rw [Maps.size_put (hown.tidy keyed3), hno, hs]; rfl
  · by_cases e : z = p i
    · exact ⟨i, by omega, e⟩
    · rw [has_put_other (fun e2 => e (by simpa using e2))] at hz
      obtain ⟨j, hj, e2⟩ := hh _ hz
      exact ⟨j, by omega, e2⟩
end Sp
end Go.Proofs.Ytjokedggmhiklaa
