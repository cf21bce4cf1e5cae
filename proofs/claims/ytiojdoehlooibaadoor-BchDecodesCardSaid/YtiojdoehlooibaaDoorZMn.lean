/- What the statements on turned bits share: a word with its own parity, bits that differ. -/
import Derived.Test.YtiojdoehlooibaaDoorZBw
import Derived.Test.YtiojdoehlooibaaDoorZUn
import Derived.Test.YtiojdoehlooibaaDoorZCd
namespace Go.Proofs.YtiojdoehlooibaaDoor
open Go.RowKit
namespace Gf
theorem par_take {m t : Nat} (h : Em m) (bs : List Nat) : (bitsS (parB m t bs)).take (rS m t) = par m t (bitsS bs) := by
  have hpl := par_len m t (bitsS bs)
  have hbl : (bitsS (parB m t bs)).length = 8 * pS m t := by rw [bitsS_len, parB_len]
  have h8 : rS m t ≤ 8 * pS m t := by unfold pS; omega
  apply List.ext_getElem
  · rw [List.length_take, hbl, hpl]; exact Nat.min_eq_left h8
  · intro i i1 i2
    have e : nth ((bitsS (parB m t bs)).take (rS m t)) i = nth (par m t (bitsS bs)) i := by
      rw [nth_take _ (by rw [hpl] at i2; exact i2)]
      exact nth_bits_bytes (bits_par h t (bits_bitsS bs)) i
    rwa [nth_of i1, nth_of i2] at e
theorem wrd_par {m t : Nat} (h : Em m) (bs : List Nat) : wrdS (rS m t) bs (parB m t bs) = bitsS bs ++ par m t (bitsS bs) := by rw [wrdS, par_take h]
theorem wt_take_le (l : List Nat) (n : Nat) : wt (l.take n) ≤ wt l := by
  have e : wt l = wt (l.take n) + wt (l.drop n) := by rw [← wt_append, List.take_append_drop]
  omega
theorem wt_parts {r : Nat} {D P ds ps : List Nat} (hd : D.length = ds.length) : wt (xl (wrdS r D P) (wrdS r ds ps)) ≤ unS D ds + unS P ps := by
  unfold wrdS
  rw [xl_append (by rw [bitsS_len, bitsS_len, hd]), wt_append]
  have e : xl ((bitsS P).take r) ((bitsS ps).take r) = (xl (bitsS P) (bitsS ps)).take r := by
    unfold xl; rw [List.take_zipWith]
  rw [e]
  have := wt_take_le (xl (bitsS P) (bitsS ps)) r
  unfold unS
  omega
theorem RdB.stepB {b : Nat} {w w' : World} {g o : Nat} {bs : List Nat} (h : RdB w (some ⟨g, o, none⟩) bs) (hs : Step b w w') (hg : g ≠ b) : RdB w' (some ⟨g, o, none⟩) bs := by
  refine ⟨h.1, ?_⟩
  rcases h.2 with e | ⟨g', o', e, hc⟩
  · exact .inl e
  · have : g' = g ∧ o' = o := by simpa using e.symm
    obtain ⟨rfl, rfl⟩ := this
    exact .inr ⟨g', o', rfl, fun i hi => by rw [hs.cell (lt_of_cell (hc i hi)) hg]; exact hc i hi⟩
theorem Arg.take {w : World} {ao : Option Addr} {len : Nat} {xs : List Int} (h : Arg w ao len xs) (n : Nat) : Arg w ao (xs.take n).length (xs.take n) := by
  refine ⟨rfl, fun x hx => h.2.1 x (List.mem_of_mem_take hx), ?_⟩
  rcases h.2.2 with e | ⟨g, o, e, hc⟩
  · exact .inl (by rw [e]; simp)
  · refine .inr ⟨g, o, e, fun i hi => ?_⟩
    have h1 : i < n := by simp at hi; omega
    have h2 : i < xs.length := by simp at hi; omega
    rw [hc i h2]
    simp [nthI, h1]
end Gf
end Go.Proofs.YtiojdoehlooibaaDoor
