/- Layer 7 (blocks): alike, its loops. -/
import Derived.Test.YtoakokpeomlkjaaDoorCe
namespace Go.Proofs.YtoakokpeomlkjaaDoor
open Go.RowKit Go.Maps Go.Shelf
namespace Bk
open Cr (valsB RdB Glob)
set_option maxRecDepth 100000 in
set_option maxHeartbeats 16000000 in
theorem alike_ok {w : World} {P : Lay} {R : Ref} {f : Pool} (h : PoolM w P f) (hr : RefM w R f) (hn : R.n = P.n) (hm : R.m = P.m) (hG : Glob w) : Calls Tryd.prog 18 #[ptr P.p 0, ptr R.r 0] w fun e w' => e = .returned (.bool true) ∧ w.grownBy w' none := by
  have hN : R.n ≤ 8 := hr.n8
  have hM : R.m ≤ 64 := hr.m64
  have HB := hide (fun V (g : w.grownBy V none) => (show V.cell? ⟨R.r, 0, none⟩ = some (num R.n) ∧ V.cell? ⟨R.r, 1, none⟩ = some (num R.m) from ⟨cell_at (hr.grown g).box rfl, cell_at (hr.grown g).box rfl⟩))
  have HSE := hide (fun d b => state_two h hn hm d b)
  have HIn := hide (fun V (g : w.grownBy V none) (d b : Int) (hd : ¬ InRef R d b) => kIn_out (hr.grown g) hd)
  have HInY := hide (fun V (g : w.grownBy V none) (i k : Nat) (hi : i < R.n) (hk : k < R.m) => And.intro (kIn_in (hr.grown g) hi hk) (And.intro ((hr.grown g).rd hi hk) (hr.grown g).l8))
  have HCt := hide (fun d s => count_two h hr hn hm d s)
  have HSp := hide (fun d => spread_two h hr hn hm d)
  have HFl := hide (fun (i k : Nat) (hi : i < R.n) (hk : k < R.m) => hr.flat hi hk)
  obtain ⟨S, hB1, hB2⟩ := bytes_two h hr hn hm hG
  have HB1 := hide hB1
  have HB2 := hide hB2
  clear h hr hn hm hG hB1 hB2
  go_enter Tryd.func18, Tryd.ntmps18
  go_wp2_with fail
  go_loopw [5, 6, 7, 8, 9, 10] (fun d _ _ _ _ _ wr => w.grownBy wr none ∧ ∃ x : Int, d = num x ∧ -1 ≤ x ∧ x ≤ R.n + 1) (fun d _ _ _ _ _ _ => (R.n + 1 - intOf d).toNat)
  case atStart => exact ⟨grownBy_refl _ _, -1, rfl, by omega, by omega⟩
  case round =>
    obtain ⟨hg, x, rfl, hx1, hx2⟩ := hrel
    obtain ⟨c0, c1⟩ := HB.out _ hg
    by_cases hx : x ≤ R.n
    · go_wp2_with fail
      go_loopw [6, 7, 8, 9] (fun b _ _ _ wr => w.grownBy wr none ∧ ∃ y : Int, b = num y ∧ -1 ≤ y ∧ y ≤ R.m + 1) (fun b _ _ _ _ => (R.m + 1 - intOf b).toNat)
      case atStart => exact ⟨hg, -1, rfl, by omega, by omega⟩
      case round =>
        clear c0 c1 hg
        obtain ⟨hg, y, rfl, hy1, hy2⟩ := hrel
        obtain ⟨c0, c1⟩ := HB.out _ hg
        by_cases hy : y ≤ R.m
        · rcases HSE.out x y with ⟨i, k, rfl, rfl, hi, hk, hS, hE⟩ | ⟨hno, hS, hE⟩
          · obtain ⟨hI, hR, hl8⟩ := HInY.out _ hg i k hi hk
            obtain ⟨z, j, hz, hj, ej, q1, q2, q3⟩ := HFl.out i k hi hk
            rw [← ej] at hR
            have hR2 : Rd wr.drew R j (f i k).st (f i k).er := ⟨hR.c1, hR.c2, hR.c3, hR.cs, hR.ce⟩
            generalize (f i k).st = s at hS hR hR2
            generalize ((f i k).er : Int) = e at hE hR hR2
            have HS0 : Hid (wr.drew.cell? ⟨R.r, 1, none⟩ = some (num R.m) ∧ wr.drew.cell? ⟨R.r, 2, none⟩ = some (.slice (some ⟨R.sb, 0, none⟩) R.l R.sc) ∧ wr.drew.cell? ⟨R.sb, j, none⟩ = some (num s)) := ⟨hR2.c1, hR2.c2, hR2.cs⟩
            have HT0 : Hid (wr.drew.drew.cell? ⟨R.r, 1, none⟩ = some (num R.m) ∧ wr.drew.drew.cell? ⟨R.r, 3, none⟩ = some (.slice (some ⟨R.eb, 0, none⟩) R.l R.ec) ∧ wr.drew.drew.cell? ⟨R.eb, j, none⟩ = some (num e)) := ⟨hR2.c1, hR2.c3, hR2.ce⟩
            have HS := hide hS
            have HE := hide hE
            have HI := hide hI
            have p0 : (0 : Int) ≤ (j : Int) := by omega
            have p1 : IntKind.i64.wrap ((i : Int) * (R.m : Int)) = (z : Int) := by rw [hz, IntKind.wrap_i64]; omega
            have p2 : IntKind.i64.wrap ((z : Int) + (k : Int)) = (j : Int) := by rw [hj, IntKind.wrap_i64]; omega
            clear hS hE hI hR hR2 ej hi hk hz hj
            go_wp2_with fail
            refine HI.out.mono ?_
            rintro e1 w' ⟨rfl, rfl⟩
            go_wp2_with fail
            go_region_held3 (fun w' => w'.cell? ⟨R.r, 1, none⟩ = some (num R.m) ∧ w'.cell? ⟨R.r, 2, none⟩ = some (.slice (some ⟨R.sb, 0, none⟩) R.l R.sc) ∧ w'.cell? ⟨R.sb, j, none⟩ = some (num s)) (first | assumption | exact HS0.out) (fail)
            go_wp2_with fail
            go_region_held3 (fun w' => w'.cell? ⟨R.r, 1, none⟩ = some (num R.m) ∧ w'.cell? ⟨R.r, 3, none⟩ = some (.slice (some ⟨R.eb, 0, none⟩) R.l R.ec) ∧ w'.cell? ⟨R.eb, j, none⟩ = some (num e)) (first | assumption | exact HT0.out) (fail)
            go_wp2_with fail
            refine (HS.out _ (grownBy_drew (grownBy_drew hg))).mono ?_
            rintro e1 w1 ⟨rfl, g1⟩
            have hg1 := grownBy_trans (grownBy_drew (grownBy_drew hg)) g1
            go_wp2_with fail
            refine (HE.out _ hg1).mono ?_
            rintro e1 w2 ⟨rfl, g2⟩
            have hg2 := grownBy_trans hg1 g2
            clear HS HE HI HS0 HT0
            go_wp2_with fail
            go_roundw
            case rel => exact ⟨hg2, (k : Int) + 1, by go_num, by omega, by omega⟩
            case measure => simp [intOf]; omega
          · have HS := hide hS
            have HE := hide hE
            have HI := hide (HIn.out _ hg x y hno)
            clear hS hE hno
            go_wp2_with fail
            refine HI.out.mono ?_
            rintro e w' ⟨rfl, rfl⟩
            go_wp2_with fail
            refine (HS.out _ hg).mono ?_
            rintro e w1 ⟨rfl, g1⟩
            have hg1 := grownBy_trans hg g1
            go_wp2_with fail
            refine (HE.out _ hg1).mono ?_
            rintro e w2 ⟨rfl, g2⟩
            have hg2 := grownBy_trans hg1 g2
            clear HS HE HI
            go_wp2_with fail
            go_roundw
            case rel => exact ⟨hg2, y + 1, by go_num, by omega, by omega⟩
            case measure => simp [intOf]; omega
        · go_wp2_with fail
          go_loopw [10] (fun s wr => w.grownBy wr none ∧ ∃ y : Int, s = num y ∧ 0 ≤ y ∧ y ≤ 6) (fun s _ => (6 - intOf s).toNat)
          case atStart => exact ⟨hg, 0, rfl, by omega, by omega⟩
          case round =>
            clear c0 c1 hg
            obtain ⟨hg, s, rfl, hs1, hs2⟩ := hrel
            by_cases hs : s ≤ 5
            · obtain ⟨c, h1, h2⟩ := HCt.out x s
              have H1 := hide h1
              have H2 := hide h2
              clear h1 h2
              go_wp2_with fail
              refine (H1.out _ hg).mono ?_
              rintro e w1 ⟨rfl, g1⟩
              have hg1 := grownBy_trans hg g1
              go_wp2_with fail
              refine (H2.out _ hg1).mono ?_
              rintro e w2 ⟨rfl, g2⟩
              have hg2 := grownBy_trans hg1 g2
              clear H1 H2
              go_wp2_with fail
              go_roundw
              case rel => exact ⟨hg2, s + 1, by go_num, by omega, by omega⟩
              case measure => simp [intOf]; omega
            · obtain ⟨c, h1, h2⟩ := HSp.out x
              have H1 := hide h1
              have H2 := hide h2
              clear h1 h2
              go_wp2_with fail
              refine (H1.out _ hg).mono ?_
              rintro e w1 ⟨rfl, g1⟩
              have hg1 := grownBy_trans hg g1
              go_wp2_with fail
              refine (H2.out _ hg1).mono ?_
              rintro e w2 ⟨rfl, g2⟩
              have hg2 := grownBy_trans hg1 g2
              clear H1 H2
              go_wp2_with fail
              go_roundw
              case rel => exact ⟨hg2, x + 1, by go_num, by omega, by omega⟩
              case measure => simp [intOf]; omega
    · go_wp2_with fail
      clear c0 c1
      have hd := grownBy_drew hg
      go_region_with (first
        | (go_at_call 35; refine (HB2.out _ (by assumption)).mono ?_; rintro e w2 ⟨ao2, n2, p2, rfl, g2, r2, hcv2⟩; have k1 := hcv1 _ r2; have k2 := hcv2 _ (grownBy_refl _ _))
        | (go_at_call 22; refine (HB1.out _ (by assumption)).mono ?_; rintro e w1 ⟨ao1, n1, p1, rfl, g1, r1, hcv1⟩; have k0 := hcv1 _ (grownBy_refl _ _)))
      all_goals
        clear HB1 HB2 HCt HSp HFl HIn HInY HSE HB hcv1 hcv2 k0 k1 k2
        go_wp2
        go_ret
        exact ⟨by first | rfl | (simp; rfl) | simp [Act.put], by assumption⟩
end Bk
end Go.Proofs.YtoakokpeomlkjaaDoor
