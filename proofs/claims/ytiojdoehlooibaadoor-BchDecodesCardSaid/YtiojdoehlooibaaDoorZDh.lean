/- The locator: Berlekamp and Massey's loop. -/
import Derived.Test.YtiojdoehlooibaaDoorZDd
import Derived.Test.YtiojdoehlooibaaDoorZLo
namespace Go.Proofs.YtiojdoehlooibaaDoor
open Go.RowKit
namespace Gf
theorem RdF.new {b : Nat} {w : World} (hb : b < w.heap.size) (xs : List Nat) : RdF b (w.alloc (.cells (vals xs).toArray 3)) (some ⟨w.heap.size, 0, none⟩) xs := by
  refine .inr ⟨w.heap.size, 0, rfl, by omega, fun i hi => ?_⟩
  rw [Nat.zero_add, cell_row (heap_alloc_new w _), vals_at hi]
theorem RdF.of_row {b : Nat} {w : World} {g : Nat} {R : List Nat} (hg : g ≠ b) (h : w.heap[g]? = some (.cells (vals R).toArray 3)) : RdF b w (some ⟨g, 0, none⟩) R :=
  .inr ⟨g, 0, rfl, hg, fun i hi => by rw [Nat.zero_add, cell_row h, vals_at hi]⟩
/-- Times, with numbers that are elements. -/
theorem timesN_ok {b m : Nat} {w : World} (h : Fld w b m) (ap aq : Option Addr) (cp cq : Nat) (p q : List Nat) (hp : RdF b w ap p) (hq : RdF b w aq q) (lp : p.length ≤ 100000) (lq : q.length ≤ 100000) :
    Calls Tryd.prog 49 #[ptr b, .slice ap p.length cp, .slice aq q.length cq] w fun e w' => ∃ v, e = .returned v ∧ Res b w' w.heap.size v (tmS m (rowS m (ints p)) (rowS m (ints q))) ∧ Fld w' b m ∧ Step b w w' := by
  have := times_ok h ap aq cp cq (ints p) (ints q) hp.rd hq.rd (by rw [ints_len]; omega) (by rw [ints_len]; omega)
  rw [ints_len, ints_len] at this
  exact this
/-- What the locator answers. -/
def LocPost (b m : Nat) (w : World) (c bytes t : Nat) (S : List Nat) (e : Ending) (w' : World) : Prop := ∃ ao cap C B L, e = .returned (.tuple #[.slice ao (List.length C) cap, num (L : Nat)]) ∧ RdF b w' ao C ∧ Loc m S C L B S.length ∧ Cod w' c b m bytes t ∧ Step b w w' ∧ ∃ g, ao = some ⟨g, 0, none⟩ ∧ w.heap.size ≤ g
set_option maxHeartbeats 6400000 in
set_option maxRecDepth 4000 in
theorem locator_ok {w : World} {c b m bytes t : Nat} (h : Cod w c b m bytes t) (sa : Option Addr) (cs : Nat) (S : List Nat) (hs : RdF b w sa S) (es : Els m S) (ls : S.length ≤ 1000) (hcs : S.length ≤ cs) (hs1 : 1 ≤ S.length) :
    Calls Tryd.prog 39 #[ptr c, .slice sa S.length cs] w fun e w' => LocPost b m w c bytes t S e w' := by
  have hem := h.em
  have hz := sz_bd hem
  obtain ⟨sg, so, hsa, _⟩ := hs.at (k := 0) (by omega)
  subst hsa
  have hW1 := World.grownBy_alloc w (.cells (vals [1]).toArray 3) none
  have hW2 := grownBy_trans hW1 (World.grownBy_alloc (w.alloc (.cells (vals [1]).toArray 3)) (.cells (vals [0, 1]).toArray 3) none)
  have hc2 := h.more hW2
  have hst2 : Step b w ((w.alloc (.cells (vals [1]).toArray 3)).alloc (.cells (vals [0, 1]).toArray 3)) := h.fld.step_more hW2
  have hr1 : RdF b ((w.alloc (.cells (vals [1]).toArray 3)).alloc (.cells (vals [0, 1]).toArray 3)) (some ⟨w.heap.size, 0, none⟩) [1] := (RdF.new h.fld.lt [1]).step ((h.more hW1).fld.step_more (World.grownBy_alloc _ _ none))
  have hr2 : RdF b ((w.alloc (.cells (vals [1]).toArray 3)).alloc (.cells (vals [0, 1]).toArray 3)) (some ⟨w.heap.size + 1, 0, none⟩) [0, 1] := by
    have := RdF.new (b := b) (w := w.alloc (.cells (vals [1]).toArray 3)) (h.more hW1).fld.lt [0, 1]
    simpa using this
  go_enter Tryd.func39, Tryd.ntmps39
  go_wp2_with fail
  go_loopw [6, 7, 8, 16] (fun v u l i wr => ∃ (n : Nat) (C B : List Nat) (L : Nat) (ac ab : Option Addr) (cc cb : Nat), n ≤ S.length ∧ i = num n ∧ v = .slice ac C.length cc ∧ u = .slice ab B.length cb ∧ l = num L ∧ RdF b wr ac C ∧ RdF b wr ab B ∧ Loc m S C L B n ∧ Cod wr c b m bytes t ∧ Step b w wr ∧ ∃ g, ac = some ⟨g, 0, none⟩ ∧ w.heap.size ≤ g) (fun _ _ _ i _ => S.length - (intOf i).toNat)
  case atStart => exact ⟨0, [1], [0, 1], 0, some ⟨w.heap.size, 0, none⟩, some ⟨w.heap.size + 1, 0, none⟩, 1, 2, Nat.zero_le _, rfl, rfl, rfl, rfl, hr1, hr2, Loc.start hem S, hc2, hst2, _, rfl, Nat.le_refl _⟩
  case round =>
    clear hr1 hr2 hc2 hst2 hW1 hW2
    obtain ⟨n, C, B, L, ac, ab, cc, cb, hn, rfl, rfl, rfl, rfl, hC, hB, hL, hcod, hst, hag⟩ := hrel
    have hlc := hL.lnc
    have hlb := hL.lnb
    have hLn := hL.len
    by_cases hlt : n < S.length
    · have b1 : (n : Int) < (S.length : Int) := by omega
      have b2 : (n : Int) + 1 ≤ (cs : Int) := by omega
      have b3 : ((n : Int) + 1).toNat = n + 1 := by omega
      have b4 : (S.length : Int) ≤ 1000 := by omega
      have hgap := gap_ok hcod ac (some ⟨sg, so, none⟩) cc cs n C S hC (hs.step hst) hL.elc es (by omega) hlt (by omega)
      have HGap : Hid (Calls Tryd.prog 61 #[ptr c, .slice ac C.length cc, .slice (some ⟨sg, so, none⟩) (n + 1) cs] wr _) := hgap
      clear hgap
      have hGle := cf_le hem (nth C) (nth S) n
      have hsame := fun h0 => hL.same hem h0
      have hturn := fun hl => hL.turn hem es hl
      have hgrow := fun h0 hl => hL.grow hem es h0 hl
      obtain ⟨G, hG⟩ : ∃ G, G = cf m (nth C) (nth S) n := ⟨_, rfl⟩
      rw [← hG] at hGle hsame hturn hgrow HGap
      have HSame : Hid (G = 0 → Loc m S (nxS m C B G) L (upS m B) (n + 1)) := hsame
      have HTurn : Hid (n < 2 * L → Loc m S (nxS m C B G) L (upS m B) (n + 1)) := hturn
      have HGrow : Hid (G ≠ 0 → 2 * L ≤ n → Loc m S (nxS m C B G) (n + 1 - L) (upS m (grS m C G)) (n + 1)) := hgrow
      have eC := hL.elc
      have eB := hL.elb
      clear hsame hturn hgrow hG hL
      go_wp2_with fail
      refine HGap.out.mono ?_
      rintro e w1 ⟨rfl, hc1, hs1'⟩
      have hC1 := hC.step hs1'
      have hB1 := hB.step hs1'
      have hst1 := hst.trans hs1'
      have c0 := hc1.c0
      have hgA := World.grownBy_alloc w1 (.cells (vals [G]).toArray 3) none
      have hsA : Step b w1 (w1.alloc (.cells (vals [G]).toArray 3)) := hc1.fld.step_more hgA
      have hcA := hc1.more hgA
      have hT := timesN_ok hcA.fld ab (some ⟨w1.heap.size, 0, none⟩) cb 1 B [G] (hB1.step hsA) (RdF.new hc1.fld.lt [G]) (by omega) (by simp)
      have HT : Hid (Calls Tryd.prog 49 #[ptr b, .slice ab B.length cb, .slice (some ⟨w1.heap.size, 0, none⟩) 1 1] (w1.alloc (.cells #[num G] 3)) _) := hT
      clear hT HGap hC hB hst hs1' hgA
      go_wp2_with fail
      refine HT.out.mono ?_
      rintro e w2 ⟨v2, rfl, hR2, hF2, hs2⟩
      have hcB := hcA.step hs2 hF2
      obtain ⟨a2, cp2, rfl, hrd2, _⟩ := hR2.rdF
      have hlen2 := scale_len m B G
      have hE2 := tm_els hem (rowS m (ints B)) (rowS m (ints [G]))
      have HNx : Hid (sumS C (tmS m (rowS m (ints B)) (rowS m (ints [G]))) = nxS m C B G) := rfl
      have hnl := sumS_len C (tmS m (rowS m (ints B)) (rowS m (ints [G])))
      obtain ⟨T2, hT2⟩ : ∃ T2, T2 = tmS m (rowS m (ints B)) (rowS m (ints [G])) := ⟨_, rfl⟩
      rw [← hT2] at hrd2 hlen2 hE2 HNx hnl
      rw [← hT2]
      have hC2 := (hC1.step hsA).step hs2
      have hB2 := (hB1.step hsA).step hs2
      have hst2 := (hst1.trans hsA).trans hs2
      have hsu := sum_ok hem ac a2 cc cp2 C T2 hC2.rdN hrd2.rdN eC hE2 (by omega) (by omega)
      have HSu : Hid (Calls Tryd.prog 62 #[.slice ac C.length cc, .slice a2 T2.length cp2] w2 _) := hsu
      clear hsu HT hR2 hT2 hsA hcA hs2 hst1 hC1 hB1 hc1 c0
      go_wp2_with fail
      refine HSu.out.mono ?_
      rintro e w3 ⟨rfl, hS3⟩
      have hcC := hcB.more hS3.grown
      have hs3 := hcB.fld.step_more hS3.grown
      have hC3 := hC2.step hs3
      have hB3 := hB2.step hs3
      have hst3 := hst2.trans hs3
      have hN3 : RdF b w3 (some ⟨w2.heap.size, 0, none⟩) (nxS m C B G) := by
        rw [← HNx.out]
        exact RdF.of_row (by have := hcB.fld.lt; omega) hS3.at_
      have hA3s : ∃ g, (some ⟨w2.heap.size, 0, none⟩ : Option Addr) = some ⟨g, 0, none⟩ ∧ w.heap.size ≤ g := ⟨_, rfl, by have := hst2.size; omega⟩
      have hlN : (nxS m C B G).length = max C.length T2.length := by rw [← HNx.out]; exact hnl
      obtain ⟨NX, hNX⟩ : ∃ NX, NX = nxS m C B G := ⟨_, rfl⟩
      rw [← hNX] at hN3 hlN HSame HTurn HGrow
      obtain ⟨A3, hA3⟩ : ∃ A3 : Option Addr, A3 = some ⟨w2.heap.size, 0, none⟩ := ⟨_, rfl⟩
      rw [← hA3] at hN3 hA3s
      rw [← hA3, ← hlN]
      have HlN : Hid _ := hlN
      clear hlN
      clear HSu hC2 hB2 hst2 hs3 hcB hS3 hNX hA3 HNx hnl hrd2 hF2 hE2
      have c0 := hcC.c0
      have b5 : (L : Int) ≤ (n : Int) := by omega
      have tail : ∀ {w4 : World} {ab4 : Option Addr} {cb4 : Nat} {B4 : List Nat}, Cod w4 c b m bytes t → RdF b w4 ab4 B4 → B4.length ≤ 100000 → Calls Tryd.prog 49 #[ptr b, .slice ab4 B4.length cb4, .slice (some ⟨w4.heap.size, 0, none⟩) 2 2] (w4.alloc (.cells #[num 0, num 1] 3)) fun e w' => ∃ v, e = .returned v ∧ Res b w' (w4.alloc (.cells #[num 0, num 1] 3)).heap.size v (upS m B4) ∧ Fld w' b m ∧ Step b (w4.alloc (.cells #[num 0, num 1] 3)) w' := fun {w4 ab4 cb4 B4} k1 k2 k3 =>
        timesN_ok (k1.more (World.grownBy_alloc w4 (.cells (vals [0, 1]).toArray 3) none)).fld ab4 (some ⟨w4.heap.size, 0, none⟩) cb4 2 B4 [0, 1] (k2.step (k1.fld.step_more (World.grownBy_alloc _ _ none))) (RdF.new k1.fld.lt [0, 1]) k3 (by simp)
      have HTail : Hid _ := @tail
      clear tail
      by_cases hgr : G ≠ 0 ∧ 2 * L ≤ n
      · obtain ⟨hg0, hgl⟩ := hgr
        have hLoc := HGrow.out hg0 hgl
        have b6 : ((G : Int) != 0) = true := by simp; omega
        have b7 : 2 * (L : Int) ≤ (n : Int) := by omega
        have hlg := scale_len m C (invS m G)
        have HGr : Hid (tmS m (rowS m (ints C)) (rowS m (ints [invS m G])) = grS m C G) := rfl
        have hiv := inv_le hem G
        have HEl : Hid (el m (G : Int) = G) := el_of hGle
        have hcCd := hcC.more (grownBy_drew (World.grownBy.refl w3 none))
        have hsd : Step b w3 w3.drew := (Step.refl b w3).drew
        have hInv := inv_ok hcCd.fld (G : Int)
        rw [HEl.out] at hInv
        obtain ⟨IV, hIV⟩ : ∃ IV, IV = invS m G := ⟨_, rfl⟩
        rw [← hIV] at hInv HGr hlg hiv
        have HInv : Hid (Calls Tryd.prog 63 #[ptr b, num G] w3.drew _) := hInv
        clear hInv hIV hg0 HGrow HSame HTurn
        go_wp2_with fail
        go_region_with (first | (go_at_call 63; refine HInv.out.mono ?_; rintro e w5 ⟨rfl, hF5, hs5⟩; (have hc5 := hcCd.step hs5 hF5); (have c05 := hc5.c0); (have c06 : ∀ o : Obj, (w5.alloc o).cell? ⟨c, 0, none⟩ = some (ptr b) := fun o => (hc5.more (World.grownBy_alloc w5 o none)).c0); (have c07 := c06 (.cells #[num IV] 3)); clear c06) | (go_at_call 49; (have hT6 := timesN_ok (hc5.more (World.grownBy_alloc w5 (.cells (vals [IV]).toArray 3) none)).fld ac (some ⟨w5.heap.size, 0, none⟩) cc 1 C [IV] (((hC3.step hsd).step hs5).step (hc5.fld.step_more (World.grownBy_alloc _ _ none))) (RdF.new hc5.fld.lt [IV]) (by omega) (by simp)); refine hT6.mono ?_; rintro e w6 ⟨v6, rfl, hR6, hF6, hs6⟩))
        all_goals
          have hc6 := (hc5.more (World.grownBy_alloc w5 (.cells (vals [IV]).toArray 3) none)).step hs6 hF6
          have hs56 : Step b w3 w6 := ((hsd.trans hs5).trans (hc5.fld.step_more (World.grownBy_alloc w5 (.cells (vals [IV]).toArray 3) none))).trans hs6
          obtain ⟨a6, cp6, rfl, hrd6, -⟩ := hR6.rdF
          have hN6 := hN3.step hs56
          have hst6 := hst3.trans hs56
          rw [HGr.out] at hrd6
          rw [HGr.out]
          rw [HGr.out] at hlg
          obtain ⟨B4, hB4⟩ : ∃ B4, B4 = grS m C G := ⟨_, rfl⟩
          rw [← hB4] at hrd6 hlg hLoc
          rw [← hB4]
          have HT7 := HTail.out hc6 hrd6 (cb4 := cp6) (by omega)
          have HT7' : Hid (Calls Tryd.prog 49 #[ptr b, .slice a6 B4.length cp6, .slice (some ⟨w6.heap.size, 0, none⟩) 2 2] (w6.alloc (.cells #[num 0, num 1] 3)) _) := HT7
          have c08 := hc6.c0
          clear HT7 hB4 hT6 hR6 hs56 hs6 hs5 hc5 c05 c07
          go_wp2_with fail
          refine HT7'.out.mono ?_
          rintro e w7 ⟨v7, rfl, hR7, hF7, hs7⟩
          obtain ⟨a7, cp7, rfl, hrd7, -⟩ := hR7.rdF
          have hs67 : Step b w6 w7 := (hc6.fld.step_more (World.grownBy_alloc w6 (.cells (vals [0, 1]).toArray 3) none)).trans hs7
          have hc7 := hc6.step hs67 hF7
          have hN7 := hN6.step hs67
          have hst7 := hst6.trans hs67
          have HL7 : Hid (((n + 1 - L : Nat) : Int) = (n : Int) + 1 - (L : Int)) := by rw [Hid]; omega
          clear HT7' c08 c0
          go_wp2_with fail
          go_roundw
          case rel => exact ⟨n + 1, NX, upS m B4, n + 1 - L, A3, a7, _, cp7, by omega, by go_num, rfl, rfl, by rw [HL7.out], hN7, hrd7, hLoc, hc7, hst7, hA3s⟩
          case measure => simp [intOf]; omega
      · have hLoc : Loc m S NX L (upS m B) (n + 1) := by
          by_cases h0 : G = 0
          · exact HSame.out h0
          · exact HTurn.out (by have : ¬ 2 * L ≤ n := fun h => hgr ⟨h0, h⟩; omega)
        have hcond : (((G : Int) != 0) && decide (2 * (L : Int) ≤ (n : Int))) = false := by
          cases hq : ((G : Int) != 0) with
          | false => rfl
          | true =>
            have h0 : G ≠ 0 := by simpa using hq
            have : ¬ 2 * L ≤ n := fun h => hgr ⟨h0, h⟩
            rw [Bool.true_and, decide_eq_false (by omega)]
        clear HGrow HSame HTurn hgr
        have HT7 := HTail.out hcC hB3 (cb4 := cb) (by omega)
        have HT7' : Hid (Calls Tryd.prog 49 #[ptr b, .slice ab B.length cb, .slice (some ⟨w3.heap.size, 0, none⟩) 2 2] (w3.alloc (.cells #[num 0, num 1] 3)) _) := HT7
        clear HT7
        go_wp2_with fail
        all_goals
          refine HT7'.out.mono ?_
          rintro e w7 ⟨v7, rfl, hR7, hF7, hs7⟩
          obtain ⟨a7, cp7, rfl, hrd7, -⟩ := hR7.rdF
          have hs67 : Step b w3 w7 := (hcC.fld.step_more (World.grownBy_alloc w3 (.cells (vals [0, 1]).toArray 3) none)).trans hs7
          have hc7 := hcC.step hs67 hF7
          have hN7 := hN3.step hs67
          have hst7 := hst3.trans hs67
          clear HT7' c0
          go_wp2_with fail
          go_roundw
          case rel => exact ⟨n + 1, NX, upS m B, L, A3, a7, _, cp7, by omega, by go_num, rfl, rfl, rfl, hN7, hrd7, hLoc, hc7, hst7, hA3s⟩
          case measure => simp [intOf]; omega
    · obtain rfl : n = S.length := by omega
      have b1 : ¬ ((S.length : Int) < (S.length : Int)) := by omega
      go_wp2_with fail
      go_ret2
      exact ⟨ac, cc, C, B, L, rfl, hC, hL, hcod, hst, hag⟩
end Gf
end Go.Proofs.YtiojdoehlooibaaDoor
