/- The walk of BlocksParse. -/
import Derived.Test.YtoakokpeomlkjaaDoorCl
import Derived.Test.YtoakokpeomlkjaaDoorXg
namespace Go.Proofs.YtoakokpeomlkjaaDoor
open Go.RowKit Go.Maps
namespace Bk
open Cr (RdB Glob ArgB)
set_option maxHeartbeats 3200000 in
set_option maxRecDepth 100000 in
theorem law_BlocksParse (ao : Option Addr) (len cap : Nat) (bs : List Nat) {w : World} (hx : ArgB w ao len bs) (hl : len ≤ 140737488351232 ∧ len ≤ cap ∧ (ao = none → cap = 0)) (o : Bool) (hG : Glob w) :
    Calls Tryd.prog 4 #[.slice ao len cap, .bool o] w fun e w' => e = .returned (.bool true) ∧ w.grownBy w' none := by
  obtain ⟨rfl, hx⟩ := hx
  obtain ⟨hl1, hl2, hl3⟩ := hl
  have HA := hide (awake_ok w)
  have HX := hide hx
  have HG := hide hG
  clear hx hG
  cases o
  case false =>
    go_enter Tryd.func4, Tryd.ntmps4
    go_wp2_with fail
    refine HA.out.mono ?_
    rintro e w1 ⟨rfl, hg1⟩
    have HT := hide (parse_two (HG.out.more hg1) ao cap bs (HX.out.more hg1) hl2 (by omega))
    rcases HT.out with ⟨x, hx0, hT⟩ | ⟨f, n, m, hT⟩
    · have HTT := hide hT
      have q1 : (x != x) = false := by simp
      clear hT HT
      go_wp2_with fail
      refine (HTT.out w1 (World.grownBy.refl _ _)).1.mono ?_
      rintro e w2 ⟨rfl, hg2⟩
      go_wp2_with fail
      refine (HTT.out w2 hg2).2.mono ?_
      rintro e w3 ⟨rfl, hg3⟩
      have HF := hide (grownBy_trans hg1 (grownBy_trans hg2 hg3))
      clear hg1 hg2 hg3 HTT
      go_wp2
      go_ret
      exact ⟨rfl, HF.out⟩
    · have HTT := hide hT
      clear hT HT
      go_wp2_with fail
      refine (HTT.out w1 (World.grownBy.refl _ _)).1.mono ?_
      rintro e w2 ⟨P, hn, hm, rfl, hg2, hP⟩
      go_wp2_with fail
      refine (HTT.out w2 hg2).2.mono ?_
      rintro e w3 ⟨R, hn', hm', rfl, hg3, hR⟩
      have HF := hide (grownBy_trans hg1 (grownBy_trans hg2 hg3))
      have HAl := hide (alike_ok (hP.grown hg3) hR (hn'.trans hn.symm) (hm'.trans hm.symm) (HG.out.more HF.out))
      clear hg1 hg2 hg3 HTT hP hR hn hm hn' hm'
      go_wp2_with fail
      refine HAl.out.mono ?_
      rintro e w4 ⟨rfl, hg4⟩
      have HF4 := hide (grownBy_trans HF.out hg4)
      clear hg4
      go_wp2
      go_ret
      exact ⟨rfl, HF4.out⟩
  case true =>
    go_enter Tryd.func4, Tryd.ntmps4
    go_wp2_with fail
    refine HA.out.mono ?_
    rintro e w1 ⟨rfl, hg1⟩
    have HS := hide (rSeal_cap ao cap bs (HX.out.more hg1) hl3 (by omega))
    go_wp2_with fail
    refine HS.out.mono ?_
    rintro e w0 ⟨ao', cap', rfl, hrd, hcp, hg0⟩
    have hlen : (bs ++ Cr.le4 (Cr.crc bs)).length = bs.length + 4 := by simp [Cr.le4]
    have HT := hide (parse_two (HG.out.more (grownBy_trans hg1 hg0)) ao' cap' _ hrd hcp (by omega))
    rw [hlen] at HT ⊢
    rcases HT.out with ⟨x, hx0, hT⟩ | ⟨f, n, m, hT⟩
    · have HTT := hide hT
      have q1 : (x != x) = false := by simp
      clear hT HT HS hrd hcp hlen
      go_wp2_with fail
      refine (HTT.out w0 (World.grownBy.refl _ _)).1.mono ?_
      rintro e w2 ⟨rfl, hg2⟩
      go_wp2_with fail
      refine (HTT.out w2 hg2).2.mono ?_
      rintro e w3 ⟨rfl, hg3⟩
      have HF := hide (grownBy_trans (grownBy_trans hg1 hg0) (grownBy_trans hg2 hg3))
      clear hg1 hg0 hg2 hg3 HTT
      go_wp2
      go_ret
      exact ⟨rfl, HF.out⟩
    · have HTT := hide hT
      clear hT HT HS hrd hcp hlen
      go_wp2_with fail
      refine (HTT.out w0 (World.grownBy.refl _ _)).1.mono ?_
      rintro e w2 ⟨P, hn, hm, rfl, hg2, hP⟩
      go_wp2_with fail
      refine (HTT.out w2 hg2).2.mono ?_
      rintro e w3 ⟨R, hn', hm', rfl, hg3, hR⟩
      have HF := hide (grownBy_trans (grownBy_trans hg1 hg0) (grownBy_trans hg2 hg3))
      have HAl := hide (alike_ok (hP.grown hg3) hR (hn'.trans hn.symm) (hm'.trans hm.symm) (HG.out.more HF.out))
      clear hg1 hg0 hg2 hg3 HTT hP hR hn hm hn' hm'
      go_wp2_with fail
      refine HAl.out.mono ?_
      rintro e w4 ⟨rfl, hg4⟩
      have HF4 := hide (grownBy_trans HF.out hg4)
      clear hg4
      go_wp2
      go_ret
      exact ⟨rfl, HF4.out⟩
end Bk
end Go.Proofs.YtoakokpeomlkjaaDoor
