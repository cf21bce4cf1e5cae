/- Layer 7 (blocks): poolFor, of bytes that fit. -/
import Derived.Test.YtoakokpeomlkjaaDoorBr
namespace Go.Proofs.YtoakokpeomlkjaaDoor
open Go.RowKit Go.Maps
namespace Bk
set_option maxHeartbeats 1600000 in
theorem poolFor_ok {w : World} (g off cap len n m : Nat) (h1 : 1 ≤ n) (h2 : n ≤ 8) (h3 : 1 ≤ m) (h4 : m ≤ 64) (hl : len = 2 + n * (5 * m)) (c0 : w.cell? ⟨g, off, none⟩ = some (q8 n)) (c1 : w.cell? ⟨g, off + 1, none⟩ = some (q8 m)) :
    Calls Tryd.prog 38 #[.slice (some ⟨g, off, none⟩) len cap] w fun e w' => ∃ P, P.n = n ∧ P.m = m ∧ Hi w.heap.size P ∧ e = .returned (ptr P.p 0) ∧ w.grownBy w' none ∧ PoolM w' P fresh := by
  have hN := fun k => hide (New_ok n m h1 h2 h3 h4 (w.drewN k))
  have HN := hide hN
  have i1 : (1 : Int) ≤ (n : Int) := by omega
  have i2 : (n : Int) ≤ 8 := by omega
  have i3 : (1 : Int) ≤ (m : Int) := by omega
  have i4 : (m : Int) ≤ 64 := by omega
  have hq : n * (5 * m) = n * m * 5 := by rw [Nat.mul_comm 5 m, Nat.mul_assoc]
  obtain ⟨q, hq2⟩ : ∃ q, q = n * m := ⟨_, rfl⟩
  have hq5 : q ≤ 512 := by rw [hq2]; exact Nat.mul_le_mul h2 h4
  have e1 : (n : Int) * (m : Int) = (q : Int) := by rw [hq2]; simp
  have e2 : (len : Int) = 2 + (q : Int) * 5 := by rw [hl, hq, ← hq2]; omega
  have e3 : ((len : Int) != 2 + (q : Int) * 5) = false := by rw [e2]; simp
  have e4 : (2 : Int) ≤ (len : Int) := by omega
  have i5 : (q : Int) ≤ 512 := by omega
  have i6 : (0 : Int) ≤ (q : Int) := by omega
  have e5 : (1 : Int) < (len : Int) := by omega
  clear hl hq hq2 hN e2 hq5
  go_enter Tryd.func38, Tryd.ntmps38
  go_wp2_with fail
  go_quiet (fail)
  revert nq
  intro n1
  go_wp2_with fail
  refine (HN.out n1).out.mono ?_
  rintro e w2 ⟨P, hn, hm, hHi, rfl, hg, hP⟩
  have HF : Hid (P.n = n ∧ P.m = m ∧ Hi w.heap.size P ∧ w.grownBy w2 none ∧ PoolM w2 P fresh) := ⟨hn, hm, hHi, ⟨hg.os, hg.tape, hg.output, hg.size, hg.block⟩, hP⟩
  clear hn hm hHi hg hP HN
  go_wp2
  go_ret
  exact ⟨P, HF.out.1, HF.out.2.1, HF.out.2.2.1, rfl, HF.out.2.2.2.1, HF.out.2.2.2.2⟩
end Bk
end Go.Proofs.YtoakokpeomlkjaaDoor
