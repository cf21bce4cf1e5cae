/- Layer 10 (lru): the walk of LruDrops. -/
import Derived.Test.YtlgomaohfhgkpaaLl
import Derived.Test.YtlgomaohfhgkpaaLm
namespace Go.Proofs.Ytlgomaohfhgkpaa
open Go.RowKit Go.Maps
namespace Lr
/-- What holds while other keys are put. -/
def DrI (w wr : World) (c : Nat) (M : Int) (n : Nat) : Prop := ∃ L : List Ent, L.length ≤ n ∧ CL wr c M (From w) L ∧ w.grownBy wr none
theorem DrI.put {w wr : World} {c n : Nat} {M k : Int} (h : DrI w wr c M n) (hM : 1 ≤ M) (hM2 : M ≤ 10) (hn : (n : Int) < M - 1) (hk : I64 k) :
    Calls Try.prog 11 #[ptr c, .agg #[num k, u64v 0, .bool false]] wr fun r w' => (∃ v, r = .returned v) ∧ DrI w w' c M (n + 1) := by
  obtain ⟨L, hl, hC, hg⟩ := h
  refine (Put_ok hC hM (from_new hg) (x := ⟨k, 0, false⟩) hk (by omega)).mono ?_
  rintro r w' ⟨rfl, hC', hs⟩
  exact ⟨⟨_, rfl⟩, _, by have := (putL_len (x := ⟨k, 0, false⟩) hM (by omega : (L.length : Int) ≤ M)).2; omega, hC', hs.back hg (fun _ h => h)⟩
/-- The last four calls. -/
theorem DrI.ends {w wr : World} {c n : Nat} {M k o : Int} (h : DrI w wr c M n) (hM : 1 ≤ M) (hM2 : M ≤ 10) (hn : (n : Int) ≤ M - 1) (hk : I64 k) (ho : I64 o) :
    Calls Try.prog 11 #[ptr c, .agg #[num k, u64v 3, .bool true]] wr fun r w1 => (∃ v, r = .returned v) ∧ Calls Try.prog 19 #[ptr c, num k] w1 fun r w2 => r = .returned (.tuple #[.agg #[num k, u64v 3, .bool true], .bool true]) ∧
      ∀ w3, w3 = w2.alloc (.cells #[num k, u64v 3, .bool true] 37) → Calls Try.prog 14 #[ptr c, num k] w3 fun r w4 => r = .returned (.tuple #[u64v 0, .bool false]) ∧
        Calls Try.prog 11 #[ptr c, .agg #[num o, u64v 0, .bool false]] w4 fun r w5 => (∃ g : Ent, r = .returned (.tuple #[.agg #[num g.key, u64v g.val, .bool g.dirty], .bool false]) ∧
          ∀ w6, w6 = w5.alloc (.cells #[num g.key, u64v g.val, .bool g.dirty] 37) → w6.cell? ⟨w2.heap.size, 0, none⟩ = some (num k) ∧ w6.cell? ⟨w2.heap.size, 1, none⟩ = some (u64v 3) ∧ w6.cell? ⟨w2.heap.size, 2, none⟩ = some (.bool true) ∧
            Calls Try.prog 21 #[ptr c] w6 fun r w7 => (∃ z : Nat, (z : Int) ≤ M ∧ r = .returned (num z)) ∧ w7 = w6 ∧ w.grownBy w6 none) := by
  obtain ⟨L, hl, hC, hg⟩ := h
  refine (Put_ok hC hM (from_new hg) (x := ⟨k, 3, true⟩) hk (by omega)).mono ?_
  rintro r w1 ⟨rfl, hC1, hs1⟩
  obtain ⟨d, T, e, hd, hT, -⟩ := putL_first M ⟨k, 3, true⟩ L
  have hd1 := hd rfl
  subst hd1
  rw [e] at hC1
  have hg1 := hs1.back hg (fun _ h => h)
  refine ⟨⟨_, rfl⟩, (Drop_ok hC1 hk).mono ?_⟩
  rintro r w2 ⟨rfl, hC2, hs2⟩
  have hg2 := hs2.back hg1 (fun _ h => h)
  have e1 : look ((⟨k, 3, true⟩ : Ent) :: T) k = some ⟨k, 3, true⟩ := look_head
  have e2 : rest ((⟨k, 3, true⟩ : Ent) :: T) k = rest T k := rest_head
  rw [e2] at hC2
  refine ⟨by rw [dropE, e1]; rfl, fun w3 hw3 => ?_⟩
  have hg23 : w2.grownBy w3 none := by rw [hw3]; exact World.grownBy_alloc w2 _ none
  have hr3 : w3.heap[w2.heap.size]? = some (entO ⟨k, 3, true⟩) := by rw [hw3]; exact heap_alloc_new w2 _
  have hC3 : CL w3 c M (But (From w) w2.heap.size) (rest T k) := hC2.but hg23 (Nat.le_refl _)
  have hg3 := grownBy_trans hg2 hg23
  have e3 := look_rest T k
  refine (Get_at hC3 hk (by rw [getV, e3]) (by rw [e3]) (getL_none e3)).mono ?_
  rintro r w4 ⟨rfl, hC4, hs4⟩
  have hg4 := (hs4.wide).back hg3 (fun _ h => h)
  have hr4 := hs4.obj (fun hx => hx.2 rfl) hr3
  have hTl := rest_len T k
  have hsz := hs4.size
  have hw3l := lt_of_heap hr3
  refine ⟨rfl, (Put_ok hC4 hM (fun g hgg => ⟨from_new hg4 g hgg, by omega⟩) (x := ⟨o, 0, false⟩) ho (by omega)).mono ?_⟩
  rintro r w5 ⟨rfl, hC5, hs5⟩
  have hB : putB M ⟨o, 0, false⟩ (rest T k) = false := by
    unfold putB
    split
    · rfl
    · simp; omega
  rw [hB]
  refine ⟨_, rfl, fun w6 hw6 => ?_⟩
  have hr5 := hs5.obj (fun hx => hx.2 rfl) hr4
  have hg56 : w5.grownBy w6 none := by rw [hw6]; exact World.grownBy_alloc w5 _ none
  have hr6 : w6.heap[w2.heap.size]? = some (entO ⟨k, 3, true⟩) := (hg56.block _ (lt_of_heap hr5) (by simp)).trans hr5
  obtain ⟨x0, x1, x2⟩ := cells3 hr6
  refine ⟨x0, x1, x2, (Len_ok (hC5.grown hg56)).mono ?_⟩
  rintro r w7 ⟨rfl, rfl⟩
  exact ⟨⟨_, (putL_len hM (by omega)).1, rfl⟩, rfl, grownBy_trans ((hs5.wide).back hg4 (fun _ h => h)) hg56⟩
set_option maxRecDepth 8000 in
set_option maxHeartbeats 6400000 in
theorem law_LruDrops (most : Int) (hm : I64 most) (key : Int) (hk : I64 key) (other : Int) (ho : I64 other) {w : World} :
    Calls Try.prog 7 #[num most, num key, num other] w fun e w' => e = .returned (.bool true) ∧ w.grownBy w' none := by
  have hn := hnot
  obtain ⟨M, hM⟩ : ∃ M, M = 1 + absI most % 10 := ⟨_, rfl⟩
  have hM1 : 1 ≤ M := by rw [hM]; have := Int.emod_nonneg (absI most) (by decide : (10 : Int) ≠ 0); omega
  have hM2 : M ≤ 10 := by rw [hM]; have := Int.emod_lt_of_pos (absI most) (by decide : (0 : Int) < 10); omega
  have hMe := hide hM.symm
  have H0 : Hid (∀ w, Calls Try.prog 10 #[num most] w fun r w' => r = .returned (num (absI most)) ∧ w' = w) := fun w => abs_ok hm w
  have ha1 := absI_ge most
  have ha2 := absI_le hm
  clear hM
  have hk1 := hk.1
  have hk2 := hk.2
  go_enter Try.func7, Try.ntmps7
  go_wp2_with fail
  refine (awake_ok w).mono ?_
  rintro r w1 ⟨rfl, hg1⟩
  have Hg1 := hide hg1
  clear hg1
  go_wp2_with fail
  refine (H0.out _).mono ?_
  rintro r w2 ⟨rfl, rfl⟩
  clear H0
  have HNew : Hid (∀ w, Calls Try.prog 9 #[num (1 + absI most % 10)] w (NewPost w M)) := fun w => by rw [hMe.out]; exact New_ok M hM1 w
  generalize absI most = A at *
  go_wp2_with fail
  refine (HNew.out _).mono ?_
  rintro r w3 ⟨c, _, rfl, hg2, hN⟩
  rw [hMe.out]
  generalize A % 10 = q at *
  clear ha1 ha2 HNew
  have hg3 := grownBy_trans Hg1.out hg2
  have hI0 : Hid (DrI w w3 c M 0) := ⟨[], Nat.le_refl _, hN (From w) (from_new Hg1.out), hg3⟩
  have hG := hide hg3
  clear hN hg2 hg3 hMe
  by_cases hko : key = other
  · go_wp2_with fail
    go_ret
    exact ⟨rfl, hG.out⟩
  · have hkf : (key == other) = false := by simp [hko]
    by_cases hkb : 1099511627776 < key
    · obtain ⟨b, hb1, hb2, hbe⟩ : ∃ b : Int, -9223372036854775808 ≤ b ∧ b ≤ 9223372036854775000 ∧ key - 2199023255552 = b := ⟨_, by omega, by omega, rfl⟩
      have hbe' := hide hbe
      clear hbe
      go_wp2_with (rw [hbe'.out])
      go_loopw [11, 12] (fun nv iv wr => ∃ n i : Nat, nv = num n ∧ iv = num i ∧ (n : Int) ≤ M - 1 ∧ 1 ≤ i ∧ i ≤ 40 ∧ DrI w wr c M n) (fun _ iv _ => 40 - (intOf iv).toNat)
      case atStart => exact ⟨0, 1, rfl, rfl, by omega, Nat.le_refl _, by omega, hI0.out⟩
      case round =>
        clear hI0 hG Hg1
        obtain ⟨n, i, rfl, rfl, hn1, hi1, hi2, hR⟩ := hrel
        by_cases hc : (n : Int) < M - 1 ∧ (i : Int) < 40
        · obtain ⟨hc1, hc2⟩ := hc
          have hkk : I64 (b + i) := ⟨by omega, by omega⟩
          have e1 : IntKind.i64.wrap (b + (i : Int)) = b + (i : Int) := by rw [IntKind.wrap_i64]; omega
          have HPut := hide (hR.put hM1 hM2 hc1 hkk)
          have HR := hide hR
          clear hR
          by_cases hko2 : b + (i : Int) = other
          · go_wp2_with fail
            go_roundw
            case rel => exact ⟨n, i + 1, rfl, by go_num, hn1, by omega, by omega, HR.out⟩
            case measure => simp [intOf]; omega
          · go_wp2_with fail
            refine HPut.out.mono ?_
            rintro r w5 ⟨⟨v, rfl⟩, hR5⟩
            have HR5 := hide hR5
            clear hR5 HPut HR
            go_wp2_with fail
            go_roundw
            case rel => exact ⟨n + 1, i + 1, by go_num, by go_num, by omega, by omega, by omega, HR5.out⟩
            case measure => simp [intOf]; omega
        · have HE := hide (hR.ends (o := other) hM1 hM2 hn1 hk ho)
          clear hR hbe'
          have hc3 : ¬ (n : Int) < M - 1 ∨ ((n : Int) < M - 1 ∧ ¬ (i : Int) < 40) := by omega
          clear hc
          rcases hc3 with hc1 | ⟨hc1, hc2⟩
          all_goals
            go_wp2_with fail
            refine HE.out.mono ?_
            rintro r w4 ⟨⟨v, rfl⟩, hd⟩
            have HD := hide hd
            clear hd HE
            go_wp2_with fail
            refine HD.out.mono ?_
            rintro r w5 ⟨rfl, hf⟩
            obtain ⟨w6, hw6⟩ : ∃ w6, w6 = w5.alloc (.cells #[num key, u64v 3, .bool true] 37) := ⟨_, rfl⟩
            have HG := hide (hf w6 hw6)
            have hw6' := hide hw6
            clear hw6 hf HD
            go_wp2_with (rw [← hw6'.out])
            refine HG.out.mono ?_
            rintro r w7 ⟨rfl, hp⟩
            have HP := hide hp
            clear hp HG
            go_wp2_with fail
            refine HP.out.mono ?_
            rintro r w8 ⟨g, rfl, hq⟩
            obtain ⟨w9, hw9⟩ : ∃ w9, w9 = w8.alloc (.cells #[num g.key, u64v g.val, .bool g.dirty] 37) := ⟨_, rfl⟩
            obtain ⟨x0, x1, x2, hl⟩ := hq w9 hw9
            have HL := hide hl
            have hw9' := hide hw9
            clear hw9 hq HP hl
            go_wp2_with (rw [← hw9'.out])
            refine HL.out.mono ?_
            rintro r w10 ⟨⟨z, hz, rfl⟩, rfl, hgr⟩
            have HGr := hide hgr
            clear hgr HL
            go_wp2_with fail
            go_ret
            exact ⟨rfl, HGr.out⟩
    · have hb2 : key ≤ 9223372036854775000 := by omega
      have hkd : decide (1099511627776 < key) = false := by simp; omega
      go_wp2_with fail
      go_loopw [11, 12] (fun nv iv wr => ∃ n i : Nat, nv = num n ∧ iv = num i ∧ (n : Int) ≤ M - 1 ∧ 1 ≤ i ∧ i ≤ 40 ∧ DrI w wr c M n) (fun _ iv _ => 40 - (intOf iv).toNat)
      case atStart => exact ⟨0, 1, rfl, rfl, by omega, Nat.le_refl _, by omega, hI0.out⟩
      case round =>
        clear hI0 hG Hg1
        obtain ⟨n, i, rfl, rfl, hn1, hi1, hi2, hR⟩ := hrel
        by_cases hc : (n : Int) < M - 1 ∧ (i : Int) < 40
        · obtain ⟨hc1, hc2⟩ := hc
          have hkk : I64 (key + i) := ⟨by omega, by omega⟩
          have e1 : IntKind.i64.wrap (key + (i : Int)) = key + (i : Int) := by rw [IntKind.wrap_i64]; omega
          have HPut := hide (hR.put hM1 hM2 hc1 hkk)
          have HR := hide hR
          clear hR
          by_cases hko2 : key + (i : Int) = other
          · go_wp2_with fail
            go_roundw
            case rel => exact ⟨n, i + 1, rfl, by go_num, hn1, by omega, by omega, HR.out⟩
            case measure => simp [intOf]; omega
          · go_wp2_with fail
            refine HPut.out.mono ?_
            rintro r w5 ⟨⟨v, rfl⟩, hR5⟩
            have HR5 := hide hR5
            clear hR5 HPut HR
            go_wp2_with fail
            go_roundw
            case rel => exact ⟨n + 1, i + 1, by go_num, by go_num, by omega, by omega, by omega, HR5.out⟩
            case measure => simp [intOf]; omega
        · have HE := hide (hR.ends (o := other) hM1 hM2 hn1 hk ho)
          clear hR
          have hc3 : ¬ (n : Int) < M - 1 ∨ ((n : Int) < M - 1 ∧ ¬ (i : Int) < 40) := by omega
          clear hc
          rcases hc3 with hc1 | ⟨hc1, hc2⟩
          all_goals
            go_wp2_with fail
            refine HE.out.mono ?_
            rintro r w4 ⟨⟨v, rfl⟩, hd⟩
            have HD := hide hd
            clear hd HE
            go_wp2_with fail
            refine HD.out.mono ?_
            rintro r w5 ⟨rfl, hf⟩
            obtain ⟨w6, hw6⟩ : ∃ w6, w6 = w5.alloc (.cells #[num key, u64v 3, .bool true] 37) := ⟨_, rfl⟩
            have HG := hide (hf w6 hw6)
            have hw6' := hide hw6
            clear hw6 hf HD
            go_wp2_with (rw [← hw6'.out])
            refine HG.out.mono ?_
            rintro r w7 ⟨rfl, hp⟩
            have HP := hide hp
            clear hp HG
            go_wp2_with fail
            refine HP.out.mono ?_
            rintro r w8 ⟨g, rfl, hq⟩
            obtain ⟨w9, hw9⟩ : ∃ w9, w9 = w8.alloc (.cells #[num g.key, u64v g.val, .bool g.dirty] 37) := ⟨_, rfl⟩
            obtain ⟨x0, x1, x2, hl⟩ := hq w9 hw9
            have HL := hide hl
            have hw9' := hide hw9
            clear hw9 hq HP hl
            go_wp2_with (rw [← hw9'.out])
            refine HL.out.mono ?_
            rintro r w10 ⟨⟨z, hz, rfl⟩, rfl, hgr⟩
            have HGr := hide hgr
            clear hgr HL
            go_wp2_with fail
            go_ret
            exact ⟨rfl, HGr.out⟩
end Lr
end Go.Proofs.Ytlgomaohfhgkpaa
