/- The walk of BchMakes. -/
import Derived.Test.YtiojdoehlooibaaDoorZLay2
import Derived.Test.YtiojdoehlooibaaDoorZSn
import Derived.Deep.RegionHeld3
namespace Go.Proofs.YtiojdoehlooibaaDoor
open Go.RowKit Gf
theorem mk_keep {w w' w1 : World} {c b m B T X G cap : Nat} {ao : Option Addr} (h : Cod w' c b m B T ∧ w.grownBy w' none ∧ w'.cell? ⟨X, 0, none⟩ = some (num m) ∧ w'.cell? ⟨X, 1, none⟩ = some (num B) ∧ w'.cell? ⟨X, 2, none⟩ = some (num T) ∧ w'.cell? ⟨X, 3, none⟩ = some (.slice ao G cap)) (hg : w'.grownBy w1 none) :
    Cod w1 c b m B T ∧ w.grownBy w1 none ∧ w1.cell? ⟨X, 0, none⟩ = some (num m) ∧ w1.cell? ⟨X, 1, none⟩ = some (num B) ∧ w1.cell? ⟨X, 2, none⟩ = some (num T) ∧ w1.cell? ⟨X, 3, none⟩ = some (.slice ao G cap) := by
  obtain ⟨h1, h2, h3, h4, h5, h6⟩ := h
  have hc : ∀ o, w1.cell? ⟨X, o, none⟩ = w'.cell? ⟨X, o, none⟩ := fun o => World.cell?_of_block (w := w') (a := ⟨X, o, none⟩) (hg.block X (lt_of_cell h3) (by simp))
  exact ⟨h1.more hg, grownBy_trans h2 hg, by rw [hc]; exact h3, by rw [hc]; exact h4, by rw [hc]; exact h5, by rw [hc]; exact h6⟩
set_option maxHeartbeats 3200000 in
set_option maxRecDepth 4000 in
theorem law_BchMakes (bytes : Int) (_hb : I64 bytes) (t : Int) (_ht : I64 t) (w : World) (hG : Glob w) (h0 : 0 < w.heap.size) :
    Calls Tryd.prog 3 #[num bytes, num t] w fun e w' => e = .returned (.bool true) ∧ w.grownBy w' none := by
  have hn := hnot
  by_cases hno : bytes < 1 ∨ 512 < bytes ∨ t < 1 ∨ 8 < t
  · go_enter Tryd.func3, Tryd.ntmps3
    go_wp2_with fail
    refine (awake2_ok w hG h0).mono ?_
    rintro e w1 ⟨rfl, hg1⟩
    go_wp2_with fail
    refine (bchNew_no bytes t hno).mono ?_
    rintro e w2 ⟨rfl, rfl⟩
    go_wp2_with fail
    refine (sNew_no bytes t hno).mono ?_
    rintro e w3 ⟨rfl, hg3⟩
    clear hno
    have hgw := grownBy_trans hg1 hg3
    go_wp2_with fail
    go_ret
    exact ⟨rfl, grownBy_trans hgw (World.grownBy_alloc _ _ none)⟩
  · obtain ⟨B, rfl⟩ := Int.eq_ofNat_of_zero_le (show 0 ≤ bytes by omega)
    obtain ⟨T, rfl⟩ := Int.eq_ofNat_of_zero_le (show 0 ≤ t by omega)
    have b1 : 1 ≤ B := by omega
    have b2 : B ≤ 512 := by omega
    have t1 : 1 ≤ T := by omega
    have t2 : T ≤ 8 := by omega
    clear hno
    go_enter Tryd.func3, Tryd.ntmps3
    go_wp2_with fail
    refine (awake2_ok w hG h0).mono ?_
    rintro e w1 ⟨rfl, hg1⟩
    go_wp2_with fail
    refine (bchNew_ok B T b1 b2 t1 t2 (hG.kept (hg1.block 0 h0 (by simp))) (by have := hg1.size; omega)).mono ?_
    rintro e w2 ⟨c, b, m, hM, rfl, hc2, hg2, hb2, hcb⟩
    go_wp2_with fail
    refine (sNew_ok B T b1 b2 t1 t2).mono ?_
    rintro e w3 ⟨m', ao, cap, hM', rfl, hrd, hg3⟩
    obtain rfl := hM.one hM'
    have hc3 := hc2.more hg3
    have hglen := gH_len m T
    have hgw := grownBy_trans (grownBy_trans hg1 hg2) hg3
    have h2 := hc3.two
    have h104 := hc3.r_104
    have hR : rS m T = (gH m T).length - 1 := by rw [hglen]
    have hA := World.grownBy_alloc w3 (.cells #[num m, num B, num T, .slice ao (gH m T).length cap] 29) none
    have hc4 := hc3.more (grownBy_drew hA)
    have hG2 : 2 ≤ (gH m T).length := by omega
    have hG3 : (gH m T).length ≤ 105 := by rw [hglen]; unfold rS at h104; omega
    obtain ⟨R, hRe⟩ : ∃ R, R = rS m T := ⟨_, rfl⟩
    rw [← hRe] at hR
    have hPe : pS m T = (R + 7) / 8 := by rw [hRe]
    obtain ⟨G, hGe⟩ : ∃ G, G = (gH m T).length := ⟨_, rfl⟩
    rw [← hGe] at hR hA hc4 hG2 hG3
    rw [← hGe]
    have e1 : ((R : Int) == (G : Int) - 1) = true := by rw [hR]; simp; omega
    obtain ⟨PS, hPS⟩ : ∃ PS, PS = pS m T := ⟨_, rfl⟩
    have hPG : PS = (G + 6) / 8 := by rw [hPS, hPe]; omega
    have e2 : ((PS : Int) == (((G + 6) / 8 : Nat) : Int)) = true := by rw [hPG]; simp
    have HP : ∀ {w5 : World}, Cod w5 c b m B T → Calls Tryd.prog 15 #[ptr c] w5 fun e w' => e = .returned (num (PS : Nat)) ∧ w' = w5 := fun h => by rw [hPS]; exact cParity_ok h
    have HPp : Hid _ := @HP
    have HBB : ∀ {w5 : World}, Cod w5 c b m B T → Calls Tryd.prog 13 #[ptr c] w5 fun e w' => e = .returned (num (R : Nat)) ∧ w' = w5 := fun h => by rw [hRe]; exact cBits_ok h
    have HBb : Hid _ := @HBB
    have hbox : (w3.alloc (.cells #[num m, num B, num T, .slice ao G cap] 29)).drew.heap[w3.heap.size]? = some (.cells #[num m, num B, num T, .slice ao G cap] 29) := heap_alloc_new w3 _
    obtain ⟨PG, hPGe⟩ : ∃ PG, PG = (G + 6) / 8 := ⟨_, rfl⟩
    have HSP : ∀ (w5 : World), Calls Tryd.prog 16 #[codeV m B T (.slice ao G cap)] w5 fun e w' => e = .returned (num (PG : Nat)) ∧ w5.grownBy w' none := fun w5 => by rw [hPGe]; exact sParity_ok m B T ao G cap (by omega) w5
    have HSp : Hid _ := HSP
    rw [← hPGe] at e2
    have hgw4 : w.grownBy (w3.alloc (.cells #[num m, num B, num T, .slice ao G cap] 29)).drew none := grownBy_drew (grownBy_trans hgw hA)
    have k0 : (w3.alloc (.cells #[num m, num B, num T, .slice ao G cap] 29)).drew.cell? ⟨w3.heap.size, 0, none⟩ = some (num m) := cell_row (L := [num m, num B, num T, .slice ao G cap]) hbox
    have k1 : (w3.alloc (.cells #[num m, num B, num T, .slice ao G cap] 29)).drew.cell? ⟨w3.heap.size, 1, none⟩ = some (num B) := cell_row (L := [num m, num B, num T, .slice ao G cap]) hbox
    have k2 : (w3.alloc (.cells #[num m, num B, num T, .slice ao G cap] 29)).drew.cell? ⟨w3.heap.size, 2, none⟩ = some (num T) := cell_row (L := [num m, num B, num T, .slice ao G cap]) hbox
    have k3 : (w3.alloc (.cells #[num m, num B, num T, .slice ao G cap] 29)).drew.cell? ⟨w3.heap.size, 3, none⟩ = some (.slice ao G cap) := cell_row (L := [num m, num B, num T, .slice ao G cap]) hbox
    have hS0 : Cod (w3.alloc (.cells #[num m, num B, num T, .slice ao G cap] 29)).drew c b m B T ∧ w.grownBy (w3.alloc (.cells #[num m, num B, num T, .slice ao G cap] 29)).drew none ∧ _ ∧ _ ∧ _ ∧ _ := ⟨hc4, hgw4, k0, k1, k2, k3⟩
    have HS0 : Hid _ := hS0
    clear HP HBB hR hRe hPe hGe hPS hPG HSP hPGe hglen h2 h104 hS0 k0 k1 k2 k3 hbox hc4 hgw4
    go_wp2_with fail
    go_region_held3 (fun w' => Cod w' c b m B T ∧ w.grownBy w' none ∧ w'.cell? ⟨w3.heap.size, 0, none⟩ = some (num m) ∧ w'.cell? ⟨w3.heap.size, 1, none⟩ = some (num B) ∧ w'.cell? ⟨w3.heap.size, 2, none⟩ = some (num T) ∧ w'.cell? ⟨w3.heap.size, 3, none⟩ = some (.slice ao G cap)) (first | assumption | exact HS0.out | exact mk_keep ‹_› ‹_›)
      (first | (go_at_call 12; refine (cM_ok (‹Cod _ c b m B T ∧ _›).1).mono ?_; rintro e wx ⟨rfl, rfl⟩) | (go_at_call 13; refine (HBb.out (‹Cod _ c b m B T ∧ _›).1).mono ?_; rintro e wx ⟨rfl, rfl⟩) | (go_at_call 14; refine (sR_ok m B T ao G cap (by omega) _).mono ?_; rintro e w5 ⟨rfl, hg5⟩) | (go_at_call 15; refine (HPp.out (‹Cod _ c b m B T ∧ _›).1).mono ?_; rintro e wx ⟨rfl, rfl⟩) | (go_at_call 16; refine (HSp.out _).mono ?_; rintro e w6 ⟨rfl, hg6⟩))
    all_goals
      have hG8 : Cod w6 c b m B T ∧ w.grownBy w6 none ∧ _ := ‹Cod w6 c b m B T ∧ w.grownBy w6 none ∧ _›
      have hG9 := hG8.2.1
      clear hG8
      go_wp2
      go_ret
      exact ⟨rfl, hG9⟩
end Go.Proofs.YtiojdoehlooibaaDoor
