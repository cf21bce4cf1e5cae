/- Layer 10 (lru): the walk of LruPlays. -/
import Derived.Test.YtlgomaohfhgkpaaKi
import Derived.BigQuiet
import Derived.Deep.RegionHeld3
namespace Go.Proofs.Ytlgomaohfhgkpaa
open Go.RowKit Go.Maps Go.Shelf
namespace Lr
set_option maxRecDepth 16000 in
set_option maxHeartbeats 12800000 in
theorem law_LruPlays (most : Int) (_ : I64 most) (ao : Option Addr) (len cap : Nat) (os : List OpE) {w : World} (hx : ArgO w ao len os) (hl : len ≤ 9223372036854775807) :
    Calls Try.prog 3 #[num most, .slice ao len cap] w fun e w' => e = .returned (.bool true) ∧ w.grownBy w' none := by
  have hn := hnot
  have HX : Hid (∀ (wr : World) (i : Nat), w.grownBy wr none → i < len → ∃ g off, ao = some ⟨g, off, none⟩ ∧ OpM wr g (off + i * 5) (nthO os i) ∧ OpI (nthO os i)) := fun wr i hg hi => hx.at (.of_grown hg) hi
  have hl' : (len : Int) ≤ 9223372036854775807 := by omega
  clear hx
  go_enter Try.func3, Try.ntmps3
  go_wp2_with fail
  refine (awake_ok w).mono ?_
  rintro r w1 ⟨rfl, hg1⟩
  have Hg1 := hide hg1
  clear hg1
  by_cases h1 : most < 1
  · have HN := hide (fun w => New_no most h1 w)
    go_wp2_with fail
    refine (HN.out _).mono ?_
    rintro r w2 ⟨rfl, rfl⟩
    go_wp2_with fail
    go_ret
    exact ⟨rfl, Hg1.out⟩
  · have hM1 : 1 ≤ most := by omega
    have HM1 := hide hM1
    have HNew := hide (fun w => New_ok most hM1 w)
    go_wp2_with fail
    refine (HNew.out _).mono ?_
    rintro r w3 ⟨c, _, rfl, hg2, hN⟩
    obtain ⟨w4, hw4⟩ : ∃ w4, w4 = w3.alloc (.cells #[num most, .slice none 0 0] 31) := ⟨_, rfl⟩
    have hI0 : Hid (PlN w w4 c w3.heap.size most 0) := by
      have hg4 : w3.grownBy w4 none := by rw [hw4]; exact World.grownBy_alloc w3 _ none
      have hg3 := grownBy_trans Hg1.out hg2
      refine ⟨.slice none 0 0, [], ⟨((hN (From w) (from_new Hg1.out)).less fun g hg hs => ⟨hs, by omega, by simp [Value.ownBlock]⟩).grown hg4, ⟨by rw [hw4]; exact heap_alloc_new w3 _, World.ownsRow_nil _ _ _ _, by simp [Value.ownBlock], hg3.size⟩, by simp; omega, grownBy_trans hg3 hg4⟩, Nat.le_refl _⟩
    have HW4 := hide hw4
    clear hN hg2 hw4 HNew Hg1 hM1
    go_wp2_with (rw [← HW4.out])
    go_loopw [9] (fun iv wr => ∃ i : Nat, i ≤ 120 ∧ iv = num i ∧ PlN w wr c w3.heap.size most i) (fun iv _ => 120 - (intOf iv).toNat)
    case atStart => exact ⟨0, by omega, rfl, hI0.out⟩
    case round =>
      clear hI0 HW4
      obtain ⟨i, hi, rfl, hR⟩ := hrel
      by_cases hc : i < len ∧ i < 120
      · obtain ⟨hc1, hc2⟩ := hc
        have q1 : (i : Int) < (len : Int) := by omega
        have q2 : (i : Int) < 120 := by omega
        obtain ⟨v, L, hP, hLi⟩ := hR
        obtain ⟨g, off, rfl, hop, hoi⟩ := HX.out wr i hP.gr hc1
        generalize nthO os i = o at *
        obtain ⟨y0, y1, y2, y3, y4⟩ := hop
        obtain ⟨wo, hwo⟩ : ∃ wo, wo = wr.alloc (opB o) := ⟨_, rfl⟩
        obtain ⟨ob, hob⟩ : ∃ ob, ob = wr.heap.size := ⟨_, rfl⟩
        have HPuts := hide (hP.puts hLi (by omega) HM1.out o hoi.key hwo)
        have HGets := hide (hP.gets hLi (by omega) o hoi.key hwo)
        have HDrops := hide (hP.drops hLi (by omega) o hoi.key hwo)
        have HCleans := hide (fun w' hg => hP.cleans hLi (by omega) o hwo (w' := w') hg)
        have HAbs := hide (fun w' : World => abs_ok hoi.kind w')
        have k1 := absI_ge o.kind
        have k2 := absI_le hoi.kind
        have hobx : wo.heap[ob]? = some (opB o) := by rw [hwo, hob]; exact heap_alloc_new wr _
        have z0 : wo.cell? ⟨ob, 0, none⟩ = some (num o.kind) := cell_at hobx rfl
        have z1 : wo.cell? ⟨ob, 1, none⟩ = some (num o.key) := cell_at hobx rfl
        have z2 : wo.cell? ⟨ob, 2, none⟩ = some (num o.to) := cell_at hobx rfl
        have z3 : wo.cell? ⟨ob, 3, none⟩ = some (u64v o.val) := cell_at hobx rfl
        have z4 : wo.cell? ⟨ob, 4, none⟩ = some (.bool o.dirty) := cell_at hobx rfl
        rw [← hob] at HPuts HGets HDrops HCleans
        have Hwo : Hid (wo = wr.alloc (.cells #[num o.kind, num o.key, num o.to, u64v o.val, .bool o.dirty] 34)) := hwo
        have Hob := hide hob
        clear hwo hob hobx hP hLi hoi
        go_wp2_with (first | rw [← Hwo.out, ← Hob.out])
        have kmod := Int.emod_nonneg (absI o.kind) (by decide : (7 : Int) ≠ 0)
        have kmod2 := Int.emod_lt_of_pos (absI o.kind) (by decide : (0 : Int) < 7)
        refine (HAbs.out _).mono ?_
        rintro r w5 ⟨rfl, rfl⟩
        clear HAbs Hwo Hob y0 y1 y2 y3 y4
        generalize absI o.kind = B at *
        have h7 : B % 7 = 0 ∨ B % 7 = 1 ∨ B % 7 = 2 ∨ B % 7 = 3 ∨ B % 7 = 4 ∨ B % 7 = 5 ∨ B % 7 = 6 := by omega
        rcases h7 with h7 | h7 | h7 | h7 | h7 | h7 | h7
        · clear HGets HDrops HCleans
          go_wp2_with fail
          refine HPuts.out.mono ?_
          rintro r w5 ⟨E, F, rfl, hF⟩
          obtain ⟨w6, hw6⟩ : ∃ w6, w6 = w5.alloc (entO E) := ⟨_, rfl⟩
          obtain ⟨v1, v3, v4, hK⟩ := hF w6 hw6
          have HK := hide hK
          have HW6 : Hid (w6 = w5.alloc (.cells #[num E.key, u64v E.val, .bool E.dirty] 37)) := hw6
          clear hF hw6 hK HPuts
          go_wp2_with (rw [← HW6.out])
          refine HK.out.mono ?_
          rintro r w7 ⟨rfl, hF⟩
          obtain ⟨w8, hw8⟩ : ∃ w8, w8 = w7.alloc (entR E) := ⟨_, rfl⟩
          obtain ⟨hx8, hy8, hN8⟩ := hF w8 hw8
          obtain ⟨s0, s1, s2⟩ := cells3 hx8
          obtain ⟨t0, t1, t2⟩ := cells3R hy8
          have HN8 := hide hN8
          have HW8 : Hid (w8 = w7.alloc (.cells #[num E.key, u64v E.val, .bool E.dirty] 40)) := hw8
          have HSame := hide (same_ok E w8)
          clear hF hw8 hx8 hy8 hN8 HK
          cases F
          all_goals
            go_wp2_with (rw [← HW8.out])
            refine HSame.out.mono ?_
            rintro r w9 ⟨rfl, hg9⟩
            have hG := HN8.out.grown hg9
            clear hg9
            have HG := hide hG
            clear hG
            obtain ⟨p, n, pc, hc0, hlen⟩ := HG.out.lens
            have HS0 := hide hc0
            have HLen := hide hlen
            have nn : ((n : Int) != (n : Int)) = false := by simp
            clear hlen
            go_wp2_with fail
            go_region_held3 (fun w' => w'.cell? ⟨w3.heap.size, 1, none⟩ = some (.slice p n pc)) (exact HS0.out) (first | (go_at_call 21; refine (HLen.out _ (by first | exact grownBy_drew (grownBy_refl _ _) | exact grownBy_refl _ _)).mono ?_; rintro r w6 ⟨rfl, rfl⟩))
            all_goals
              go_wp2_with fail
              go_roundw
              case rel => exact ⟨i + 1, by omega, by go_num, HG.out.grown (by first | exact grownBy_refl _ _ | exact grownBy_drew (grownBy_refl _ _))⟩
              case measure => simp [intOf]; omega
        · clear HGets HDrops HCleans
          go_wp2_with fail
          refine HPuts.out.mono ?_
          rintro r w5 ⟨E, F, rfl, hF⟩
          obtain ⟨w6, hw6⟩ : ∃ w6, w6 = w5.alloc (entO E) := ⟨_, rfl⟩
          obtain ⟨v1, v3, v4, hK⟩ := hF w6 hw6
          have HK := hide hK
          have HW6 : Hid (w6 = w5.alloc (.cells #[num E.key, u64v E.val, .bool E.dirty] 37)) := hw6
          clear hF hw6 hK HPuts
          go_wp2_with (rw [← HW6.out])
          refine HK.out.mono ?_
          rintro r w7 ⟨rfl, hF⟩
          obtain ⟨w8, hw8⟩ : ∃ w8, w8 = w7.alloc (entR E) := ⟨_, rfl⟩
          obtain ⟨hx8, hy8, hN8⟩ := hF w8 hw8
          obtain ⟨s0, s1, s2⟩ := cells3 hx8
          obtain ⟨t0, t1, t2⟩ := cells3R hy8
          have HN8 := hide hN8
          have HW8 : Hid (w8 = w7.alloc (.cells #[num E.key, u64v E.val, .bool E.dirty] 40)) := hw8
          have HSame := hide (same_ok E w8)
          clear hF hw8 hx8 hy8 hN8 HK
          cases F
          all_goals
            go_wp2_with (rw [← HW8.out])
            refine HSame.out.mono ?_
            rintro r w9 ⟨rfl, hg9⟩
            have hG := HN8.out.grown hg9
            clear hg9
            have HG := hide hG
            clear hG
            obtain ⟨p, n, pc, hc0, hlen⟩ := HG.out.lens
            have HS0 := hide hc0
            have HLen := hide hlen
            have nn : ((n : Int) != (n : Int)) = false := by simp
            clear hlen
            go_wp2_with fail
            go_region_held3 (fun w' => w'.cell? ⟨w3.heap.size, 1, none⟩ = some (.slice p n pc)) (exact HS0.out) (first | (go_at_call 21; refine (HLen.out _ (by first | exact grownBy_drew (grownBy_refl _ _) | exact grownBy_refl _ _)).mono ?_; rintro r w6 ⟨rfl, rfl⟩))
            all_goals
              go_wp2_with fail
              go_roundw
              case rel => exact ⟨i + 1, by omega, by go_num, HG.out.grown (by first | exact grownBy_refl _ _ | exact grownBy_drew (grownBy_refl _ _))⟩
              case measure => simp [intOf]; omega
        · clear HGets HDrops HCleans
          go_wp2_with fail
          refine HPuts.out.mono ?_
          rintro r w5 ⟨E, F, rfl, hF⟩
          obtain ⟨w6, hw6⟩ : ∃ w6, w6 = w5.alloc (entO E) := ⟨_, rfl⟩
          obtain ⟨v1, v3, v4, hK⟩ := hF w6 hw6
          have HK := hide hK
          have HW6 : Hid (w6 = w5.alloc (.cells #[num E.key, u64v E.val, .bool E.dirty] 37)) := hw6
          clear hF hw6 hK HPuts
          go_wp2_with (rw [← HW6.out])
          refine HK.out.mono ?_
          rintro r w7 ⟨rfl, hF⟩
          obtain ⟨w8, hw8⟩ : ∃ w8, w8 = w7.alloc (entR E) := ⟨_, rfl⟩
          obtain ⟨hx8, hy8, hN8⟩ := hF w8 hw8
          obtain ⟨s0, s1, s2⟩ := cells3 hx8
          obtain ⟨t0, t1, t2⟩ := cells3R hy8
          have HN8 := hide hN8
          have HW8 : Hid (w8 = w7.alloc (.cells #[num E.key, u64v E.val, .bool E.dirty] 40)) := hw8
          have HSame := hide (same_ok E w8)
          clear hF hw8 hx8 hy8 hN8 HK
          cases F
          all_goals
            go_wp2_with (rw [← HW8.out])
            refine HSame.out.mono ?_
            rintro r w9 ⟨rfl, hg9⟩
            have hG := HN8.out.grown hg9
            clear hg9
            have HG := hide hG
            clear hG
            obtain ⟨p, n, pc, hc0, hlen⟩ := HG.out.lens
            have HS0 := hide hc0
            have HLen := hide hlen
            have nn : ((n : Int) != (n : Int)) = false := by simp
            clear hlen
            go_wp2_with fail
            go_region_held3 (fun w' => w'.cell? ⟨w3.heap.size, 1, none⟩ = some (.slice p n pc)) (exact HS0.out) (first | (go_at_call 21; refine (HLen.out _ (by first | exact grownBy_drew (grownBy_refl _ _) | exact grownBy_refl _ _)).mono ?_; rintro r w6 ⟨rfl, rfl⟩))
            all_goals
              go_wp2_with fail
              go_roundw
              case rel => exact ⟨i + 1, by omega, by go_num, HG.out.grown (by first | exact grownBy_refl _ _ | exact grownBy_drew (grownBy_refl _ _))⟩
              case measure => simp [intOf]; omega
        · clear HPuts HDrops HCleans
          go_wp2_with fail
          refine HGets.out.mono ?_
          rintro r w5 ⟨V, F, rfl, v1, hK⟩
          have HK := hide hK
          clear HGets hK
          go_wp2_with fail
          refine HK.out.mono ?_
          rintro r w7 ⟨rfl, hG⟩
          clear HK
          cases F
          all_goals
            have HG := hide hG
            clear hG
            obtain ⟨p, n, pc, hc0, hlen⟩ := HG.out.lens
            have HS0 := hide hc0
            have HLen := hide hlen
            have nn : ((n : Int) != (n : Int)) = false := by simp
            clear hlen
            go_wp2_with fail
            go_region_held3 (fun w' => w'.cell? ⟨w3.heap.size, 1, none⟩ = some (.slice p n pc)) (exact HS0.out) (first | (go_at_call 21; refine (HLen.out _ (by first | exact grownBy_drew (grownBy_refl _ _) | exact grownBy_refl _ _)).mono ?_; rintro r w6 ⟨rfl, rfl⟩))
            all_goals
              go_wp2_with fail
              go_roundw
              case rel => exact ⟨i + 1, by omega, by go_num, HG.out.grown (by first | exact grownBy_refl _ _ | exact grownBy_drew (grownBy_refl _ _))⟩
              case measure => simp [intOf]; omega
        · clear HPuts HDrops HCleans
          go_wp2_with fail
          refine HGets.out.mono ?_
          rintro r w5 ⟨V, F, rfl, v1, hK⟩
          have HK := hide hK
          clear HGets hK
          go_wp2_with fail
          refine HK.out.mono ?_
          rintro r w7 ⟨rfl, hG⟩
          clear HK
          cases F
          all_goals
            have HG := hide hG
            clear hG
            obtain ⟨p, n, pc, hc0, hlen⟩ := HG.out.lens
            have HS0 := hide hc0
            have HLen := hide hlen
            have nn : ((n : Int) != (n : Int)) = false := by simp
            clear hlen
            go_wp2_with fail
            go_region_held3 (fun w' => w'.cell? ⟨w3.heap.size, 1, none⟩ = some (.slice p n pc)) (exact HS0.out) (first | (go_at_call 21; refine (HLen.out _ (by first | exact grownBy_drew (grownBy_refl _ _) | exact grownBy_refl _ _)).mono ?_; rintro r w6 ⟨rfl, rfl⟩))
            all_goals
              go_wp2_with fail
              go_roundw
              case rel => exact ⟨i + 1, by omega, by go_num, HG.out.grown (by first | exact grownBy_refl _ _ | exact grownBy_drew (grownBy_refl _ _))⟩
              case measure => simp [intOf]; omega
        · clear HPuts HDrops HGets
          go_wp2_with fail
          have HZ := hide z1
          have HZ2 := hide z2
          go_region_held3 (fun w' => w'.cell? ⟨ob, 1, none⟩ = some (num o.key) ∧ w'.cell? ⟨ob, 2, none⟩ = some (num o.to)) (first | exact ⟨HZ.out, HZ2.out⟩ | exact HC5.out | exact HC6.out | exact HC9.out) (first | (go_at_call 17; refine (HCleans.out _ (by first | exact grownBy_refl _ _ | exact grownBy_drew (grownBy_refl _ _))).mono ?_; rintro r w5 ⟨va, rfl, hc5, hF5⟩; have HC5 := hide hc5; have HF5 := hide hF5; clear hc5 hF5) | (go_at_call 18; refine (HF5.out _ (by first | exact grownBy_refl _ _ | exact grownBy_drew (grownBy_refl _ _))).mono ?_; rintro r w6 ⟨vb, rfl, hc6, hF6⟩; have HC6 := hide hc6; have HF6 := hide hF6; clear hc6 hF6) | (go_at_call 16; refine (HF6.out _ (by first | exact grownBy_refl _ _ | exact grownBy_drew (grownBy_refl _ _))).mono ?_; rintro r w9 ⟨rfl, hG, hc9⟩; have HC9 := hide hc9; clear hc9))
          all_goals
            have HG := hide hG
            clear hG
            obtain ⟨p, n, pc, hc0, hlen⟩ := HG.out.lens
            have HS0 := hide hc0
            have HLen := hide hlen
            have nn : ((n : Int) != (n : Int)) = false := by simp
            clear hlen
            go_wp2_with fail
            go_region_held3 (fun w' => w'.cell? ⟨w3.heap.size, 1, none⟩ = some (.slice p n pc)) (exact HS0.out) (first | (go_at_call 21; refine (HLen.out _ (by first | exact grownBy_drew (grownBy_refl _ _) | exact grownBy_refl _ _)).mono ?_; rintro r w6 ⟨rfl, rfl⟩))
            all_goals
              go_wp2_with fail
              go_roundw
              case rel => exact ⟨i + 1, by omega, by go_num, HG.out.grown (by first | exact grownBy_refl _ _ | exact grownBy_drew (grownBy_refl _ _))⟩
              case measure => simp [intOf]; omega
        · clear HGets HPuts HCleans
          go_wp2_with fail
          refine HDrops.out.mono ?_
          rintro r w5 ⟨E, F, rfl, hF⟩
          obtain ⟨w6, hw6⟩ : ∃ w6, w6 = w5.alloc (entO E) := ⟨_, rfl⟩
          obtain ⟨v1, hK⟩ := hF w6 hw6
          have HK := hide hK
          have HW6 : Hid (w6 = w5.alloc (.cells #[num E.key, u64v E.val, .bool E.dirty] 37)) := hw6
          clear hF hw6 hK HDrops
          go_wp2_with (rw [← HW6.out])
          refine HK.out.mono ?_
          rintro r w7 ⟨rfl, hF⟩
          obtain ⟨w8, hw8⟩ : ∃ w8, w8 = w7.alloc (entR E) := ⟨_, rfl⟩
          obtain ⟨hx8, hy8, hN8⟩ := hF w8 hw8
          obtain ⟨s0, s1, s2⟩ := cells3 hx8
          obtain ⟨t0, t1, t2⟩ := cells3R hy8
          have HN8 := hide hN8
          have HW8 : Hid (w8 = w7.alloc (.cells #[num E.key, u64v E.val, .bool E.dirty] 40)) := hw8
          have HSame := hide (same_ok E w8)
          clear hF hw8 hx8 hy8 hN8 HK
          cases F
          all_goals
            go_wp2_with (rw [← HW8.out])
            refine HSame.out.mono ?_
            rintro r w9 ⟨rfl, hg9⟩
            have hG := HN8.out.grown hg9
            clear hg9
            have HG := hide hG
            clear hG
            obtain ⟨p, n, pc, hc0, hlen⟩ := HG.out.lens
            have HS0 := hide hc0
            have HLen := hide hlen
            have nn : ((n : Int) != (n : Int)) = false := by simp
            clear hlen
            go_wp2_with fail
            go_region_held3 (fun w' => w'.cell? ⟨w3.heap.size, 1, none⟩ = some (.slice p n pc)) (exact HS0.out) (first | (go_at_call 21; refine (HLen.out _ (by first | exact grownBy_drew (grownBy_refl _ _) | exact grownBy_refl _ _)).mono ?_; rintro r w6 ⟨rfl, rfl⟩))
            all_goals
              go_wp2_with fail
              go_roundw
              case rel => exact ⟨i + 1, by omega, by go_num, HG.out.grown (by first | exact grownBy_refl _ _ | exact grownBy_drew (grownBy_refl _ _))⟩
              case measure => simp [intOf]; omega
      · have hc3 : ¬ (i : Int) < (len : Int) ∨ ((i : Int) < (len : Int) ∧ ¬ (i : Int) < 120) := by omega
        obtain ⟨p, n, pc, hc0, hall⟩ := hR.all (by omega)
        have HS0 := hide hc0
        have HAll := hide hall
        clear hc hall hR
        rcases hc3 with hc1 | ⟨hc1, hc2⟩
        all_goals
          go_wp2_with fail
          go_region_held3 (fun w' => w'.cell? ⟨w3.heap.size, 1, none⟩ = some (.slice p n pc)) (first | exact HS0.out | exact HC5.out | exact HC9.out) (first | (go_at_call 22; refine (HAll.out _ (by first | exact grownBy_refl _ _ | exact grownBy_drew (grownBy_refl _ _))).mono ?_; rintro r w5 ⟨va, rfl, hc5, hF5⟩; have HC5 := hide hc5; have HF5 := hide hF5; clear hc5 hF5) | (go_at_call 16; refine (HF5.out _ (by first | exact grownBy_refl _ _ | exact grownBy_drew (grownBy_refl _ _))).mono ?_; rintro r w9 ⟨rfl, hG, hc9⟩; have HC9 := hide hc9; clear hc9))
          all_goals
            go_wp2_with fail
            go_ret
            exact ⟨rfl, hG⟩
end Lr
end Go.Proofs.Ytlgomaohfhgkpaa
