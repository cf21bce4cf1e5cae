/- Layer 7 (blocks): both Parses of the same bytes. -/
import Derived.Test.YtoakokpeomlkjaaDoorCk
namespace Go.Proofs.YtoakokpeomlkjaaDoor
open Go.RowKit Go.Maps
namespace Bk
open Cr (RdB Glob)
/-- Both answer the same error, or the same pool. -/
def TwoP (w : World) (ao : Option Addr) (len cap : Nat) : Prop :=
  (∃ x : Int, x ≠ 0 ∧ ∀ V, w.grownBy V none → Calls Tryd.prog 20 #[.slice ao len cap] V (fun e w' => e = .returned (.tuple #[.pointer none, num x]) ∧ V.grownBy w' none) ∧ Calls Tryd.prog 21 #[.slice ao len cap] V (fun e w' => e = .returned (.tuple #[.pointer none, num x]) ∧ V.grownBy w' none)) ∨
  (∃ (f : Pool) (n m : Nat), ∀ V, w.grownBy V none → Calls Tryd.prog 20 #[.slice ao len cap] V (fun e w' => ∃ P : Lay, P.n = n ∧ P.m = m ∧ e = .returned (.tuple #[ptr P.p 0, num 0]) ∧ V.grownBy w' none ∧ PoolM w' P f) ∧ Calls Tryd.prog 21 #[.slice ao len cap] V (fun e w' => ∃ R : Ref, R.n = n ∧ R.m = m ∧ e = .returned (.tuple #[ptr R.r 0, num 0]) ∧ V.grownBy w' none ∧ RefM w' R f))
theorem upF_rdF {d : List Nat} {n m i k : Nat} (hi : i < n) (hk : k < m) : rdF d m i k = upF d m (n * m) i k := by
  unfold rdF upF
  rw [if_pos]
  exact Nat.lt_of_lt_of_le (Nat.add_lt_add_left hk (i * m)) (by rw [← Nat.succ_mul]; exact Nat.mul_le_mul_right _ hi)
theorem parse_two {w : World} (hG : Glob w) (ao : Option Addr) (cap : Nat) (b : List Nat) (hx : RdB w ao b) (hc : b.length ≤ cap) (hl : b.length ≤ 140737488355328) : TwoP w ao b.length cap := by
  rcases opens_two hG ao cap b hx hc hl with ⟨g, off, d, t, rfl, hd, h1, h2, h4, hk⟩ | h
  · rw [hd]
    have hO := fun V (hV : w.grownBy V none) => kOpen_good (w := V) g off cap d t (h1.more hV) (h2.more hV) h4 (by omega) (by omega) hk
    have hA := fun V (hV : w.grownBy V none) => Parse_any (w := V) (hG.more hV) g off cap d t (h1.more hV) (h2.more hV) h4 hk (by omega) (by omega)
    have hB := fun V (hV : w.grownBy V none) => kParse_ok (w := V) (some ⟨g, off, none⟩) (d.length + 4) cap d (by omega) (hO V hV)
    by_cases hf : FitsD d
    · refine .inr ⟨rdF d (Cr.nth d 1), Cr.nth d 0, Cr.nth d 1, fun V hV => ⟨(hA V hV).mono fun e w' h => ?_, (hB V hV).mono fun e w' h => ?_⟩⟩
      · rcases h with ⟨_, _, h⟩ | ⟨P, _, hn, hm, _, he, hg, hP⟩
        · exact absurd hf h
        · exact ⟨P, hn, hm, he, hg, by rw [← hm]; exact hP⟩
      · rcases h with ⟨_, _, h⟩ | ⟨R, _, _, hn, hm, _, _, _, _, _, he, hg, hR⟩
        · exact absurd hf h
        · exact ⟨R, hn, hm, he, hg, hR.congr fun i k hi hk => by rw [← hm]; exact upF_rdF hi hk⟩
    · refine .inl ⟨81, by decide, fun V hV => ⟨(hA V hV).mono fun e w' h => ?_, (hB V hV).mono fun e w' h => ?_⟩⟩
      · rcases h with ⟨he, hg, _⟩ | ⟨P, h, _⟩
        · exact ⟨he, hg⟩
        · exact absurd h hf
      · rcases h with ⟨he, hg, _⟩ | ⟨R, h1, h2, h3, h4, h5, h6, _⟩
        · exact ⟨he, hg⟩
        · exact absurd ⟨R.n, R.m, h1, h2, h3, h4, h5, h6⟩ hf
  · exact .inl ⟨30, by decide, fun V hV => ⟨Parse_shut ao b.length cap fun U hU => (h U (Cr.grownBy_trans hV hU)).1, kParse_shut ao b.length cap (h V hV).2⟩⟩
end Bk
end Go.Proofs.YtoakokpeomlkjaaDoor
