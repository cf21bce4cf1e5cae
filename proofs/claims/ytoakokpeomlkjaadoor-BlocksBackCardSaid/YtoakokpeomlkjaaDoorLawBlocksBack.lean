/- Layer 7 (blocks): BlocksBack, walked. -/
import Derived.Test.YtoakokpeomlkjaaDoorBw
namespace Go.Proofs.YtoakokpeomlkjaaDoor
open Go.RowKit Go.Maps
namespace Bk
open Cr (Glob)
set_option maxHeartbeats 8000000 in
set_option maxRecDepth 8000 in
theorem law_BlocksBack (x : Int) (hx : I64 x) (y : Int) (hy : I64 y) (ao : Option Addr) (len cap : Nat) (os : List OpE) {w : World} (hos : ArgO w ao len os) (hl : len ≤ 9223372036854775807) (hG : Glob w) : Calls Tryd.prog 5 #[num x, num y, .slice ao len cap] w fun e w' => e = .returned (.bool true) ∧ w.grownBy w' none := by
  have HA := hide (awake_ok w)
  have HX := hide (abs_ok x hx)
  have HY := hide (abs_ok y hy)
  obtain ⟨n, hn⟩ : ∃ n : Nat, n = 1 + absS x % 4 := ⟨_, rfl⟩
  obtain ⟨m, hm⟩ : ∃ m : Nat, m = 1 + absS y % 9 := ⟨_, rfl⟩
  have n1 : 1 ≤ n := by omega
  have n4 : n ≤ 4 := by omega
  have m1 : 1 ≤ m := by omega
  have m9 : m ≤ 9 := by omega
  have e1 : 1 + ((absS x : Nat) : Int) % 4 = (n : Int) := by omega
  have e2 : 1 + ((absS y : Nat) : Int) % 9 = (m : Int) := by omega
  have ax := absS_le hx
  have ay := absS_le hy
  generalize absS x = X at HX e1 ax
  generalize absS y = Y at HY e2 ay
  have ax' : (X : Int) ≤ 9223372036854775807 := by omega
  have ay' : (Y : Int) ≤ 9223372036854775807 := by omega
  have hl' : (len : Int) ≤ 9223372036854775807 := by omega
  clear hn hm hx hy ax ay
  go_enter Tryd.func5, Tryd.ntmps5
  go_wp2_with fail
  refine HA.out.mono ?_
  rintro e w1 ⟨rfl, hg1⟩
  go_wp2_with fail
  refine (HX.out _).mono ?_
  rintro e w1 ⟨rfl, rfl⟩
  go_wp2_with fail
  refine (HY.out _).mono ?_
  rintro e w1 ⟨rfl, rfl⟩
  have HN := hide (New_ok n m n1 (by omega) m1 (by omega) w1)
  go_wp2_with fail
  refine HN.out.mono ?_
  rintro e w2 ⟨P, hn, hm, hHi, rfl, hg2, hP⟩
  clear e1 e2 HN
  subst hn hm
  have hle := hg1.size
  have HKK := hide (fun g hg => Nat.le_trans hle (hHi.K g hg))
  have HP0 : Hid ((∃ f, PoolM w2 P f) ∧ Stp (fun g => w.heap.size ≤ g) w w2) := ⟨⟨_, hP⟩, (Stp.of_grown hg1).trans (.of_grown hg2)⟩
  have HPP : Hid (w.heap.size ≤ P.p) := Nat.le_trans hle hHi.1
  have HOS := hide hos
  have HG := hide hG
  have nn : (P.n : Int) ≤ 4 := by omega
  have mm : (P.m : Int) ≤ 9 := by omega
  have nz : ¬ (P.n : Int) = 0 := by omega
  have mz : ¬ (P.m : Int) = 0 := by omega
  clear hP hg1 hg2 hHi hle HA HX HY hos hG
  go_wp2_with fail
  go_loopw [10] (fun i wr => ∃ k : Nat, k ≤ len ∧ k ≤ 80 ∧ i = num k ∧ (∃ f, PoolM wr P f) ∧ Stp (fun g => w.heap.size ≤ g) w wr) (fun i _ => 80 - (intOf i).toNat)
  case atStart => exact ⟨0, Nat.zero_le _, by omega, rfl, HP0.out.1, HP0.out.2⟩
  case round =>
    clear HP0
    obtain ⟨k, hk, hk8, rfl, ⟨f, hP⟩, hs⟩ := hrel
    by_cases hkl : k < len
    · by_cases h80 : k < 80
      · have p1 : (k : Int) < (len : Int) := by omega
        have p2 : (k : Int) < 80 := by omega
        obtain ⟨g, off, rfl, ⟨c0, c1, c2⟩, hi⟩ := HOS.out.at hs hkl
        have HKd := hide (abs_ok _ hi.kind)
        have HD := hide (abs_ok _ hi.die)
        have HB := hide (abs_ok _ hi.block)
        have k1 := absS_le hi.kind
        have k2 := absS_le hi.die
        have k3 := absS_le hi.block
        generalize nthO os k = z at c0 c1 c2 HKd HD HB k1 k2 k3 hi
        obtain ⟨zk, zd, zb⟩ := z
        simp only at c0 c1 c2 HKd HD HB k1 k2 k3
        generalize absS zk = K at HKd k1
        generalize absS zd = D at HD k2
        generalize absS zb = Bb at HB k3
        have l1 : (K : Int) ≤ 9223372036854775807 := by omega
        have l2 : (D : Int) ≤ 9223372036854775807 := by omega
        have l3 : (Bb : Int) ≤ 9223372036854775807 := by omega
        obtain ⟨dn, hdd⟩ : ∃ dn : Nat, dn = D % P.n := ⟨_, rfl⟩
        obtain ⟨bm, hbb⟩ : ∃ bm : Nat, bm = Bb % P.m := ⟨_, rfl⟩
        have hdn : dn < P.n := by rw [hdd]; exact Nat.mod_lt _ (by omega)
        have hbm : bm < P.m := by rw [hbb]; exact Nat.mod_lt _ (by omega)
        have r1 : (D : Int) % (P.n : Int) = (dn : Int) := by rw [hdd]; exact (Int.natCast_emod D P.n).symm
        have r2 : (Bb : Int) % (P.m : Int) = (bm : Int) := by rw [hbb]; exact (Int.natCast_emod Bb P.m).symm
        have hK6 : K % 6 = 0 ∨ K % 6 = 1 ∨ K % 6 = 2 ∨ K % 6 = 3 ∨ K % 6 = 4 ∨ K % 6 = 5 := by omega
        clear HOS hi k1 k2 k3 hdd hbb
        rcases hK6 with hK6 | hK6 | hK6 | hK6 | hK6 | hK6
        · have q0 : (K : Int) % 6 = 0 := by omega
          have H1 := hide (Take_weak hP hdn)
          have HR := hide hs
          clear hP hs hK6
          go_wp2_with fail
          refine (HD.out _).mono ?_
          rintro e wr ⟨rfl, rfl⟩
          go_wp2_with fail
          refine (HB.out _).mono ?_
          rintro e wr ⟨rfl, rfl⟩
          go_wp2_with fail
          refine (HKd.out _).mono ?_
          rintro e wr ⟨rfl, rfl⟩
          go_wp2_with fail
          refine H1.out.mono ?_
          rintro e w3 ⟨⟨v, rfl⟩, hPf, s3⟩
          have HN := hide (And.intro hPf (HR.out.trans (s3.more HKK.out)))
          clear hPf s3 H1 HR
          go_wp2
          go_roundw
          case rel => exact ⟨k + 1, by omega, by omega, by go_num, HN.out.1, HN.out.2⟩
          case measure => simp [intOf]; omega
        · have q0 : (K : Int) % 6 = 1 := by omega
          have H1 := hide (Take_weak hP hdn)
          have HR := hide hs
          clear hP hs hK6
          go_wp2_with fail
          refine (HD.out _).mono ?_
          rintro e wr ⟨rfl, rfl⟩
          go_wp2_with fail
          refine (HB.out _).mono ?_
          rintro e wr ⟨rfl, rfl⟩
          go_wp2_with fail
          refine (HKd.out _).mono ?_
          rintro e wr ⟨rfl, rfl⟩
          go_wp2_with fail
          refine H1.out.mono ?_
          rintro e w3 ⟨⟨v, rfl⟩, hPf, s3⟩
          have HN := hide (And.intro hPf (HR.out.trans (s3.more HKK.out)))
          clear hPf s3 H1 HR
          go_wp2
          go_roundw
          case rel => exact ⟨k + 1, by omega, by omega, by go_num, HN.out.1, HN.out.2⟩
          case measure => simp [intOf]; omega
        · have q0 : (K : Int) % 6 = 2 := by omega
          have H1 := hide ((Close_in hP hdn hbm).mono fun _ _ h => h.weak)
          have HR := hide hs
          clear hP hs hK6
          go_wp2_with fail
          refine (HD.out _).mono ?_
          rintro e wr ⟨rfl, rfl⟩
          go_wp2_with fail
          refine (HB.out _).mono ?_
          rintro e wr ⟨rfl, rfl⟩
          go_wp2_with fail
          refine (HKd.out _).mono ?_
          rintro e wr ⟨rfl, rfl⟩
          go_wp2_with fail
          refine H1.out.mono ?_
          rintro e w3 ⟨⟨v, rfl⟩, hPf, s3⟩
          have HN := hide (And.intro hPf (HR.out.trans (s3.more HKK.out)))
          clear hPf s3 H1 HR
          go_wp2
          go_roundw
          case rel => exact ⟨k + 1, by omega, by omega, by go_num, HN.out.1, HN.out.2⟩
          case measure => simp [intOf]; omega
        · have q0 : (K : Int) % 6 = 3 := by omega
          have H1 := hide ((Free_in hP hdn hbm).mono fun _ _ h => h.weak)
          have HR := hide hs
          clear hP hs hK6
          go_wp2_with fail
          refine (HD.out _).mono ?_
          rintro e wr ⟨rfl, rfl⟩
          go_wp2_with fail
          refine (HB.out _).mono ?_
          rintro e wr ⟨rfl, rfl⟩
          go_wp2_with fail
          refine (HKd.out _).mono ?_
          rintro e wr ⟨rfl, rfl⟩
          go_wp2_with fail
          refine H1.out.mono ?_
          rintro e w3 ⟨⟨v, rfl⟩, hPf, s3⟩
          have HN := hide (And.intro hPf (HR.out.trans (s3.more HKK.out)))
          clear hPf s3 H1 HR
          go_wp2
          go_roundw
          case rel => exact ⟨k + 1, by omega, by omega, by go_num, HN.out.1, HN.out.2⟩
          case measure => simp [intOf]; omega
        · have q0 : (K : Int) % 6 = 4 := by omega
          have H1 := hide ((Erased_in hP hdn hbm).mono fun _ _ h => h.weak)
          have HR := hide hs
          clear hP hs hK6
          go_wp2_with fail
          refine (HD.out _).mono ?_
          rintro e wr ⟨rfl, rfl⟩
          go_wp2_with fail
          refine (HB.out _).mono ?_
          rintro e wr ⟨rfl, rfl⟩
          go_wp2_with fail
          refine (HKd.out _).mono ?_
          rintro e wr ⟨rfl, rfl⟩
          go_wp2_with fail
          refine H1.out.mono ?_
          rintro e w3 ⟨⟨v, rfl⟩, hPf, s3⟩
          have HN := hide (And.intro hPf (HR.out.trans (s3.more HKK.out)))
          clear hPf s3 H1 HR
          go_wp2
          go_roundw
          case rel => exact ⟨k + 1, by omega, by omega, by go_num, HN.out.1, HN.out.2⟩
          case measure => simp [intOf]; omega
        · have q0 : (K : Int) % 6 = 5 := by omega
          have H1 := hide ((Bad_in hP hdn hbm).mono fun _ _ h => h.weak)
          have HR := hide hs
          clear hP hs hK6
          go_wp2_with fail
          refine (HD.out _).mono ?_
          rintro e wr ⟨rfl, rfl⟩
          go_wp2_with fail
          refine (HB.out _).mono ?_
          rintro e wr ⟨rfl, rfl⟩
          go_wp2_with fail
          refine (HKd.out _).mono ?_
          rintro e wr ⟨rfl, rfl⟩
          go_wp2_with fail
          refine H1.out.mono ?_
          rintro e w3 ⟨⟨v, rfl⟩, hPf, s3⟩
          have HN := hide (And.intro hPf (HR.out.trans (s3.more HKK.out)))
          clear hPf s3 H1 HR
          go_wp2
          go_roundw
          case rel => exact ⟨k + 1, by omega, by omega, by go_num, HN.out.1, HN.out.2⟩
          case measure => simp [intOf]; omega
      · obtain rfl : k = 80 := by omega
        have p1 : ((80 : Nat) : Int) < (len : Int) := by omega
        have hGw : Glob wr := HG.out.more (grown_of_below (hs.below (Nat.le_refl _) fun _ h => h))
        have hBy := Bytes_ok hP hGw
        have hPa := fun (w3 : World) (g : Nat) (hg : Glob w3) hb => Parse_ok (w := w3) hg g ((poolB f P.n P.m P.n).length + 4) P.n P.m f n1 (by omega) m1 (by omega) ⟨hP.s1, hP.s4, hP.e1⟩ hb (Nat.le_refl _)
        obtain ⟨bs, hbs⟩ : ∃ bs, poolB f P.n P.m P.n = bs := ⟨_, rfl⟩
        rw [hbs] at hBy
        simp only [hbs] at hPa
        have HBy := hide hBy
        have HPa := hide hPa
        have HP := hide hP
        have HS := hide hs
        have HGw := hide hGw
        clear hP hs hGw hBy hPa hbs
        go_wp2_with fail
        refine HBy.out.mono ?_
        rintro e w3 ⟨g, rfl, hge, hg3, hO⟩
        have HPb := hide (HPa.out w3 g (HGw.out.more hg3) hO)
        have HG3 := hide hg3
        clear hge hg3 hO HPa
        go_wp2_with fail
        refine HPb.out.mono ?_
        rintro e w4 ⟨Q, g2, hqn, hqm, hHq, rfl, hg4, hQ, hsame⟩
        have hP4 := (HP.out.grown HG3.out).grown hg4
        have HF := hide ((HS.out.trans (.of_grown HG3.out)).trans (.of_grown hg4))
        have HP4 := hide hP4
        have HQ := hide hQ
        have HSame := hide hsame
        have HQN := hide hqn
        have HQM := hide hqm
        clear hP4 hQ hsame hqn hqm hHq hg4 HPb HBy
        go_wp2_with fail
        go_loopw [15] (fun i wq => wq = w4 ∧ ∃ d : Nat, d ≤ P.n ∧ i = num d) (fun i _ => P.n - (intOf i).toNat)
        case atStart => exact ⟨rfl, 0, Nat.zero_le _, rfl⟩
        case round =>
          obtain ⟨rfl, d, hd, rfl⟩ := hrel
          by_cases hdn : d < P.n
          · have q1 : (d : Int) < (P.n : Int) := by omega
            go_wp2_with fail
            go_loopw [16] (fun i wq => wq = wr ∧ ∃ b : Nat, b ≤ P.m ∧ i = num b) (fun i _ => P.m - (intOf i).toNat)
            case atStart => exact ⟨rfl, 0, Nat.zero_le _, rfl⟩
            case round =>
              obtain ⟨rfl, b, hb, rfl⟩ := hrel
              by_cases hbm : b < P.m
              · have q2 : (b : Int) < (P.m : Int) := by omega
                have h1 := State_in HP4.out hdn hbm
                have h2 := State_in HQ.out (i := d) (k := b) (by rw [HQN.out]; exact hdn) (by rw [HQM.out]; exact hbm)
                have h3 := Erases_in HP4.out hdn hbm
                have h4 := Erases_in HQ.out (i := d) (k := b) (by rw [HQN.out]; exact hdn) (by rw [HQM.out]; exact hbm)
                rw [HSame.out d b hdn hbm] at h2 h4
                generalize (f d b).st = s at h1 h2
                generalize (f d b).er = r at h3 h4
                have H1 := hide h1
                have H2 := hide h2
                have H3 := hide h3
                have H4 := hide h4
                clear h1 h2 h3 h4
                go_wp2_with fail
                refine H1.out.mono ?_
                rintro e wr ⟨rfl, rfl⟩
                go_wp2_with fail
                refine H2.out.mono ?_
                rintro e wr ⟨rfl, rfl⟩
                go_wp2_with fail
                refine H3.out.mono ?_
                rintro e wr ⟨rfl, rfl⟩
                go_wp2_with fail
                refine H4.out.mono ?_
                rintro e wr ⟨rfl, rfl⟩
                go_wp2
                go_roundw
                case rel => exact ⟨trivial, b + 1, by omega, by go_num⟩
                case measure => simp [intOf]; omega
              · obtain rfl : b = P.m := by omega
                have q2 : ¬ (P.m : Int) < (P.m : Int) := by omega
                go_wp2
                go_roundw
                case rel => exact ⟨trivial, d + 1, by omega, by go_num⟩
                case measure => simp [intOf]; omega
          · obtain rfl : d = P.n := by omega
            have q1 : ¬ (P.n : Int) < (P.n : Int) := by omega
            go_wp2
            go_ret
            exact ⟨rfl, grown_of_below (HF.out.below (Nat.le_refl _) fun _ h => h)⟩
    · obtain rfl : k = len := by omega
      have p1 : ¬ (k : Int) < (k : Int) := by omega
      have hGw : Glob wr := HG.out.more (grown_of_below (hs.below (Nat.le_refl _) fun _ h => h))
      have hBy := Bytes_ok hP hGw
      have hPa := fun (w3 : World) (g : Nat) (hg : Glob w3) hb => Parse_ok (w := w3) hg g ((poolB f P.n P.m P.n).length + 4) P.n P.m f n1 (by omega) m1 (by omega) ⟨hP.s1, hP.s4, hP.e1⟩ hb (Nat.le_refl _)
      obtain ⟨bs, hbs⟩ : ∃ bs, poolB f P.n P.m P.n = bs := ⟨_, rfl⟩
      rw [hbs] at hBy
      simp only [hbs] at hPa
      have HBy := hide hBy
      have HPa := hide hPa
      have HP := hide hP
      have HS := hide hs
      have HGw := hide hGw
      clear hP hs hGw hBy hPa hbs
      go_wp2_with fail
      refine HBy.out.mono ?_
      rintro e w3 ⟨g, rfl, hge, hg3, hO⟩
      have HPb := hide (HPa.out w3 g (HGw.out.more hg3) hO)
      have HG3 := hide hg3
      clear hge hg3 hO HPa
      go_wp2_with fail
      refine HPb.out.mono ?_
      rintro e w4 ⟨Q, g2, hqn, hqm, hHq, rfl, hg4, hQ, hsame⟩
      have hP4 := (HP.out.grown HG3.out).grown hg4
      have HF := hide ((HS.out.trans (.of_grown HG3.out)).trans (.of_grown hg4))
      have HP4 := hide hP4
      have HQ := hide hQ
      have HSame := hide hsame
      have HQN := hide hqn
      have HQM := hide hqm
      clear hP4 hQ hsame hqn hqm hHq hg4 HPb HBy
      go_wp2_with fail
      go_loopw [15] (fun i wq => wq = w4 ∧ ∃ d : Nat, d ≤ P.n ∧ i = num d) (fun i _ => P.n - (intOf i).toNat)
      case atStart => exact ⟨rfl, 0, Nat.zero_le _, rfl⟩
      case round =>
        obtain ⟨rfl, d, hd, rfl⟩ := hrel
        by_cases hdn : d < P.n
        · have q1 : (d : Int) < (P.n : Int) := by omega
          go_wp2_with fail
          go_loopw [16] (fun i wq => wq = wr ∧ ∃ b : Nat, b ≤ P.m ∧ i = num b) (fun i _ => P.m - (intOf i).toNat)
          case atStart => exact ⟨rfl, 0, Nat.zero_le _, rfl⟩
          case round =>
            obtain ⟨rfl, b, hb, rfl⟩ := hrel
            by_cases hbm : b < P.m
            · have q2 : (b : Int) < (P.m : Int) := by omega
              have h1 := State_in HP4.out hdn hbm
              have h2 := State_in HQ.out (i := d) (k := b) (by rw [HQN.out]; exact hdn) (by rw [HQM.out]; exact hbm)
              have h3 := Erases_in HP4.out hdn hbm
              have h4 := Erases_in HQ.out (i := d) (k := b) (by rw [HQN.out]; exact hdn) (by rw [HQM.out]; exact hbm)
              rw [HSame.out d b hdn hbm] at h2 h4
              generalize (f d b).st = s at h1 h2
              generalize (f d b).er = r at h3 h4
              have H1 := hide h1
              have H2 := hide h2
              have H3 := hide h3
              have H4 := hide h4
              clear h1 h2 h3 h4
              go_wp2_with fail
              refine H1.out.mono ?_
              rintro e wr ⟨rfl, rfl⟩
              go_wp2_with fail
              refine H2.out.mono ?_
              rintro e wr ⟨rfl, rfl⟩
              go_wp2_with fail
              refine H3.out.mono ?_
              rintro e wr ⟨rfl, rfl⟩
              go_wp2_with fail
              refine H4.out.mono ?_
              rintro e wr ⟨rfl, rfl⟩
              go_wp2
              go_roundw
              case rel => exact ⟨trivial, b + 1, by omega, by go_num⟩
              case measure => simp [intOf]; omega
            · obtain rfl : b = P.m := by omega
              have q2 : ¬ (P.m : Int) < (P.m : Int) := by omega
              go_wp2
              go_roundw
              case rel => exact ⟨trivial, d + 1, by omega, by go_num⟩
              case measure => simp [intOf]; omega
        · obtain rfl : d = P.n := by omega
          have q1 : ¬ (P.n : Int) < (P.n : Int) := by omega
          go_wp2
          go_ret
          exact ⟨rfl, grown_of_below (HF.out.below (Nat.le_refl _) fun _ h => h)⟩
end Bk
end Go.Proofs.YtoakokpeomlkjaaDoor
