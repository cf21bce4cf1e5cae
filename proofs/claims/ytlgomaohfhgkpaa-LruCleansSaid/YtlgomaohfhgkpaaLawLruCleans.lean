/- Layer 10 (lru): the walk of LruCleans. -/
import Derived.Test.YtlgomaohfhgkpaaLy
import Derived.BigQuiet
namespace Go.Proofs.Ytlgomaohfhgkpaa
open Go.RowKit Go.Maps
namespace Lr
set_option maxRecDepth 16000 in
set_option maxHeartbeats 12800000 in
theorem law_LruCleans (most : Int) (hm : I64 most) (ao : Option Addr) (len cap : Nat) (xs : List Int) {w : World} (hx : Arg w ao len xs) (hl : len ≤ 9223372036854775807) (lo : Int) (_ : I64 lo) (hi : Int) (_ : I64 hi) :
    Calls Try.prog 5 #[num most, .slice ao len cap, num lo, num hi] w fun e w' => e = .returned (.bool true) ∧ w.grownBy w' none := by
  have hn := hnot
  obtain ⟨M, hM⟩ : ∃ M, M = 1 + absI most % 40 := ⟨_, rfl⟩
  have hM1 : 1 ≤ M := by rw [hM]; have := Int.emod_nonneg (absI most) (by decide : (40 : Int) ≠ 0); omega
  have hM2 : M ≤ 40 := by rw [hM]; have := Int.emod_lt_of_pos (absI most) (by decide : (0 : Int) < 40); omega
  have hMe := hide hM.symm
  have H0 : Hid (∀ w, Calls Try.prog 10 #[num most] w fun r w' => r = .returned (num (absI most)) ∧ w' = w) := fun w => abs_ok hm w
  have ha1 := absI_ge most
  have ha2 := absI_le hm
  clear hM
  have HX : Hid (∀ (wr : World) (i : Nat), w.grownBy wr none → i < len → ∃ g off, ao = some ⟨g, off, none⟩ ∧ wr.cell? ⟨g, off + i, none⟩ = some (num (nthI xs i)) ∧ I64 (nthI xs i)) := fun wr i hg hi => hx.at (.of_grown hg) hi
  have hl' : (len : Int) ≤ 9223372036854775807 := by omega
  clear hx
  go_enter Try.func5, Try.ntmps5
  go_wp2_with fail
  refine (awake_ok w).mono ?_
  rintro r w1 ⟨rfl, hg1⟩
  have Hg1 := hide hg1
  clear hg1
  go_wp2_with fail
  refine (H0.out _).mono ?_
  rintro r w2 ⟨rfl, rfl⟩
  clear H0
  have HNew : Hid (∀ w, Calls Try.prog 9 #[num (1 + absI most % 40)] w (NewPost w M)) := fun w => by rw [hMe.out]; exact New_ok M hM1 w
  generalize absI most = A at *
  go_wp2_with fail
  refine (HNew.out _).mono ?_
  rintro r w3 ⟨c, _, rfl, hg2, hN⟩
  rw [hMe.out]
  generalize A % 40 = q at *
  clear ha1 ha2 HNew
  have hI0 : Hid (CcI w w3 c M 0) := ⟨[], Nat.le_refl _, by simp; omega, hN (From w) (from_new Hg1.out), grownBy_trans Hg1.out hg2⟩
  clear hN hg2 hMe Hg1
  go_wp2_with fail
  go_loopw [12] (fun iv wr => ∃ i : Nat, (i : Int) ≤ M ∧ iv = num i ∧ CcI w wr c M i) (fun iv _ => 40 - (intOf iv).toNat)
  case atStart => exact ⟨0, by omega, rfl, hI0.out⟩
  case round =>
    clear hI0
    obtain ⟨i, hiM, rfl, hR⟩ := hrel
    by_cases hc : i < len ∧ (i : Int) < M
    · obtain ⟨hc1, hc2⟩ := hc
      have q1 : (i : Int) < (len : Int) := by omega
      obtain ⟨g, off, rfl, hcell, hk5⟩ := HX.out wr i hR.choose_spec.2.2.2 hc1
      have HPut : Hid (∀ v d, Calls Try.prog 11 #[ptr c, .agg #[num (nthI xs i), u64v v, .bool d]] wr fun r w' => (∃ v, r = .returned v) ∧ CcI w w' c M (i + 1)) := fun v d => hR.put hM1 hM2 hk5
      clear hR
      generalize nthI xs i = k at *
      go_wp2_with fail
      refine (HPut.out _ _).mono ?_
      rintro r w5 ⟨⟨v, rfl⟩, hR5⟩
      have HR5 := hide hR5
      clear hR5 HPut
      go_wp2_with fail
      go_roundw
      case rel => exact ⟨i + 1, by omega, by go_num, HR5.out⟩
      case measure => simp [intOf]; omega
    · have HC := hide (hR.clean hM2 lo hi)
      clear hR
      have hc3 : ¬ (i : Int) < (len : Int) ∨ ((i : Int) < (len : Int) ∧ ¬ (i : Int) < M) := by omega
      clear hc
      rcases hc3 with q1 | ⟨q1, q2⟩
      all_goals
        clear HX
        go_wp2_with fail
        refine HC.out.mono ?_
        rintro r w4 ⟨v, X, L, rfl, hA⟩
        clear HC
        obtain ⟨p, pc, rfl, hle, _⟩ := row_form hA.own
        obtain ⟨n, hnX⟩ : ∃ n, n = X.length := ⟨_, rfl⟩
        have hfew := hA.few
        rw [← hnX] at hA hle hfew ⊢
        have HN := hide hnX
        have HA := hide hA
        clear hnX hA
        go_wp2_with fail
        go_loopw [14] (fun jv wr => ∃ j : Nat, j ≤ n ∧ jv = num j ∧ CcA w wr c M lo hi (.slice p n pc) X L) (fun jv _ => 40 - (intOf jv).toNat)
        case atStart => exact ⟨0, by omega, rfl, HA.out⟩
        case round =>
          clear HA
          obtain ⟨j, hj, rfl, hK⟩ := hrel
          by_cases hjn : j < n
          · have p1 : (j : Int) < (n : Int) := by omega
            have hjX : j < X.length := by rw [← HN.out]; exact hjn
            obtain ⟨g2, rfl, x0, x2, y1, y2⟩ := hK.at_ hjX
            have z1 : decide (X[j].key < lo) = false := by simp; omega
            have z2 : decide (hi ≤ X[j].key) = false := by simp; omega
            have HK := hide (fun n => hK.drewN n)
            cases j with
            | zero =>
              clear hK y1 y2
              generalize X[0].key = k0 at *
              simp only [Nat.zero_mul, Nat.zero_add] at x0 x2
              have n0 : 0 < n := hjn
              go_wp2_with fail
              go_quiet (fail)
              go_wp2_with fail
              go_roundw
              case rel => exact ⟨1, by omega, by go_num, HK.out _⟩
              case measure => simp [intOf]
            | succ j =>
              obtain ⟨g3, e3, u0, _⟩ := hK.at_ (k := j) (by omega)
              obtain rfl : g2 = g3 := congrArg Addr.block (Option.some.inj e3)
              have z3 := List.pairwise_iff_getElem.1 hK.up j (j + 1) (by omega) hjX (by omega)
              have z4 : decide (X[j + 1].key ≤ X[j].key) = false := by simp; omega
              clear hK y1 y2 z3 e3
              generalize X[j + 1].key = k1 at *
              generalize X[j].key = k0 at *
              have p2 : (0 : Int) < ((j + 1 : Nat) : Int) := by omega
              have e9 : IntKind.i64.wrap (((j + 1 : Nat) : Int) - 1) = (j : Int) := by rw [IntKind.wrap_i64]; omega
              have p3 : j < n := by omega
              go_wp2_with fail
              go_quiet (fail)
              go_wp2_with fail
              go_roundw
              case rel => exact ⟨j + 2, by omega, by go_num, HK.out _⟩
              case measure => simp [intOf]; omega
          · obtain rfl : j = n := by omega
            have p1 : ¬ (j : Int) < (j : Int) := by omega
            have HAg := hide (hK.again hM2)
            clear hK
            go_wp2_with fail
            refine HAg.out.mono ?_
            rintro r w5 ⟨⟨p2, cp2, rfl⟩, hA5⟩
            clear HAg
            by_cases hj0 : j = 0
            · subst hj0
              have hgr := hA5.gr
              clear hA5
              go_wp2_with fail
              go_ret
              exact ⟨rfl, hgr⟩
            · have hX : 0 < X.length := by rw [← HN.out]; omega
              have p0 : ((j : Int) == 0) = false := by simp; omega
              have p00 : 0 < j := by omega
              obtain ⟨g2, rfl, x0, _⟩ := hA5.at_ hX
              simp only [Nat.zero_mul] at x0
              have HPut := hide (hA5.put hM1 hM2 hX)
              clear hA5
              obtain ⟨k0, hk0⟩ : ∃ k0, k0 = X[0].key := ⟨_, rfl⟩
              rw [← hk0] at x0 HPut
              have Hk0 := hide hk0
              clear hk0
              go_wp2_with fail
              refine HPut.out.mono ?_
              rintro r w6 ⟨⟨v6, rfl⟩, hB⟩
              have HL := hide (hB.last hM2)
              clear hB HPut
              go_wp2_with fail
              refine HL.out.mono ?_
              rintro r w7 ⟨g3, cp3, hc3, rfl, y0, y1, ho, hgr⟩
              obtain ⟨p', cap', e', _, hat⟩ := row_form ho
              obtain ⟨g4, e4, u0, _⟩ := hat 0 hX
              cases e'
              obtain rfl : g2 = g4 := congrArg Addr.block (Option.some.inj e4)
              simp only [Nat.zero_mul] at u0
              rw [← Hk0.out] at u0
              have HG := hide hgr
              clear HL ho hgr hat e4
              go_wp2_with fail
              go_quiet (fail)
              go_wp2_with fail
              go_ret
              exact ⟨rfl, ⟨HG.out.os, HG.out.tape, HG.out.output, HG.out.size, HG.out.block⟩⟩
end Lr
end Go.Proofs.Ytlgomaohfhgkpaa
