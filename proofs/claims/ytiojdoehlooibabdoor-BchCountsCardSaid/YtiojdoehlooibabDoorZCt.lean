/- Bits of data that are turned, each once: in how many the words differ. -/
import Derived.Test.YtiojdoehlooibabDoorZBe
namespace Go.Proofs.YtiojdoehlooibabDoor
open Go.RowKit
namespace Gf
/-- Where the bit k of bytes lies in their row of bits. -/
def rvB (k : Nat) : Nat := 8 * (k / 8) + (7 - k % 8)
theorem rvB_rvB (k : Nat) : rvB (rvB k) = k := by unfold rvB; omega
theorem rvB_lt {k n : Nat} (h : k < 8 * n) : rvB k < 8 * n := by unfold rvB; omega
/-- D is bs with the bits of K turned. -/
structure Flp (bs D K : List Nat) : Prop where
  ld : D.length = bs.length
  bd : ∀ i, nth D i ≤ 255
  nd : K.Nodup
  lt : ∀ k ∈ K, k < 8 * bs.length
  bit : ∀ j, nth (bitsS D) j = nth (bitsS bs) j ^^^ (if rvB j ∈ K then 1 else 0)
theorem Flp.start {bs : List Nat} (hb : ∀ i, nth bs i ≤ 255) : Flp bs bs [] :=
  ⟨rfl, hb, List.nodup_nil, fun k h => by simp at h, fun j => by rw [if_neg (by simp), Nat.xor_zero]⟩
theorem Flp.more {bs D K : List Nat} (h : Flp bs D K) {k : Nat} (hk : k < 8 * bs.length) (hn : ¬ k ∈ K) : Flp bs (D.set (k / 8) (nth D (k / 8) ^^^ 2 ^ (k % 8))) (k :: K) := by
  have h8 : k % 8 < 8 := Nat.mod_lt _ (by decide)
  refine ⟨by rw [List.length_set, h.ld], nth_set_le h.bd _ (xor_byte (h.bd _) (two_le h8)), List.nodup_cons.2 ⟨hn, h.nd⟩, fun x hx => ?_, fun j => ?_⟩
  · rcases List.mem_cons.1 hx with rfl | h2
    · exact hk
    · exact h.lt x h2
  · rw [nth_flip (by rw [h.ld]; omega) h8, h.bit, Nat.xor_assoc]
    congr 1
    by_cases e : j = 8 * (k / 8) + (7 - k % 8)
    · have e2 : rvB j = k := by rw [e]; exact rvB_rvB k
      rw [if_pos e, e2, if_neg hn, if_pos (by simp)]; rfl
    · have e2 : rvB j ≠ k := fun e3 => e (by rw [← e3]; exact (rvB_rvB j).symm)
      rw [if_neg e, Nat.xor_zero]
      by_cases hm : rvB j ∈ K
      · rw [if_pos hm, if_pos (List.mem_cons_of_mem _ hm)]
      · rw [if_neg hm, if_neg (fun hx => by
          rcases List.mem_cons.1 hx with e3 | h2
          · exact e2 e3
          · exact hm h2)]
theorem Flp.count {bs D K : List Nat} (h : Flp bs D K) : wt (xl (bitsS D) (bitsS bs)) = K.length := by
  have hl : (bitsS D).length = (bitsS bs).length := by rw [bitsS_len, bitsS_len, h.ld]
  have hp : (supp (xl (bitsS D) (bitsS bs))).Perm (K.map rvB) := by
    refine (List.perm_ext_iff_of_nodup (supp_nodup _) ?_).2 fun i => ?_
    · exact List.pairwise_map.2 (List.Pairwise.imp (fun hne e => hne (by have := congrArg rvB e; rwa [rvB_rvB, rvB_rvB] at this)) h.nd)
    · rw [mem_supp, nth_xl hl, h.bit, xor3, Nat.xor_self, Nat.zero_xor, xl_len hl, bitsS_len, h.ld, List.mem_map]
      constructor
      · rintro ⟨_, e⟩
        by_cases hm : rvB i ∈ K
        · exact ⟨rvB i, hm, rvB_rvB i⟩
        · rw [if_neg hm] at e; omega
      · rintro ⟨k, hk, rfl⟩
        rw [rvB_rvB, if_pos hk]
        exact ⟨rvB_lt (h.lt k hk), rfl⟩
  rw [wt, hp.length_eq, List.length_map]
theorem Flp.word {bs D K : List Nat} (h : Flp bs D K) (r : Nat) (P : List Nat) : wt (xl (wrdS r D P) (wrdS r bs P)) = K.length := by
  unfold wrdS
  rw [xl_append (by rw [bitsS_len, bitsS_len, h.ld]), wt_eq, List.countP_append, ← wt_eq, ← wt_eq, wt_self, h.count, Nat.add_zero]
end Gf
end Go.Proofs.YtiojdoehlooibabDoor
