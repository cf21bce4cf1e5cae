/- The walk of NandKeeps. -/
import Derived.Test.YtojamicakkecbaaNz
namespace Go.Proofs.Ytojamicakkecbaa
open Go.ChangeShapes Go.WideShapes Go.ChangeAt Go.RowKit Go.Maps
namespace Nd
theorem other_blk (A : St) {b b' : Nat} (f : Blk → Blk) (h : b' ≠ b) : (A.upB 0 b f).blk 0 b' = A.blk 0 b' := by simp [St.upB, St.setBlk, h]
set_option maxHeartbeats 25600000 in
set_option maxRecDepth 4000 in
theorem law_NandKeeps (b0 : Int) (hb0 : I64 b0) (p0 : Int) (hp0 : I64 p0) (yo : Option Addr) (ylen ycap : Nat) (ys : List Nat) {w : World} (_hy : ArgB w yo ylen ys) (_hyl : ylen ≤ ycap ∧ ycap ≤ 9223372036854775807) (ao : Option Addr) (len cap : Nat) (os : List OpE) (hx : ArgO w ao len os) (hl : len ≤ 9223372036854775807) :
    Calls Try.prog 4 #[num b0, num p0, .slice yo ylen ycap, .slice ao len cap] w fun e w' => e = .returned (.bool true) ∧ w.grownBy w' none := by
  have hnn := hnot
  obtain ⟨nb, hnb⟩ : ∃ n, n = 1 + absS b0 % 4 := ⟨_, rfl⟩
  obtain ⟨np, hnp⟩ : ∃ n, n = 1 + absS p0 % 5 := ⟨_, rfl⟩
  have nb1 : 1 ≤ nb := by omega
  have nb2 : nb ≤ 4 := by omega
  have np1 : 1 ≤ np := by omega
  have np2 : np ≤ 5 := by omega
  have HA1 : Hid (∀ w, Calls Try.prog 14 #[num b0] w fun e w' => e = .returned (num (absS b0)) ∧ w' = w) := fun w => abs_ok b0 hb0 w
  have HA2 : Hid (∀ w, Calls Try.prog 14 #[num p0] w fun e w' => e = .returned (num (absS p0)) ∧ w' = w) := fun w => abs_ok p0 hp0 w
  have ha1 := absS_le hb0
  have ha2 := absS_le hp0
  have HNB : Hid (1 + (absS b0 : Int) % 4 = (nb : Int)) := by rw [Hid, hnb]; omega
  have HNP : Hid (1 + (absS p0 : Int) % 5 = (np : Int)) := by rw [Hid, hnp]; omega
  have ha1' : (absS b0 : Int) ≤ 9223372036854775807 := by omega
  have ha2' : (absS p0 : Int) ≤ 9223372036854775807 := by omega
  have hle : (len : Int) ≤ 9223372036854775807 := by omega
  have nb2' : (nb : Int) ≤ 4 := by omega
  have nb1' : (1 : Int) ≤ (nb : Int) := by omega
  have np2' : (np : Int) ≤ 5 := by omega
  have np1' : (1 : Int) ≤ (np : Int) := by omega
  have hpr : 1 * nb * np * 4 ≤ 4194304 := by
    have : nb * np ≤ 4 * 5 := Nat.mul_le_mul nb2 np2
    rw [Nat.one_mul]
    omega
  have HNew : Hid (∀ w, Calls Try.prog 10 #[shapeV 1 nb np 4, .slice none 0 0] w (NewPost w (St.new 1 nb np 4))) := fun w => by
    have := new_ok (w := w) 1 nb np 4 (dims_new (by decide) (by decide) nb1 (by omega) np1 (by omega) (by decide) (by decide)) hpr (ao := none) (cap := 0) (fs := []) (faults_nil w none) (fun f hf => by cases hf) (by decide) (fun f hf => by cases hf)
    exact this
  clear hnb hnp ha1 ha2 hl hpr
  go_enter Try.func4, Try.ntmps4
  go_wp2_with fail
  refine (awake_ok w).mono ?_
  rintro e w1 ⟨rfl, hg1⟩
  go_wp2_with fail
  refine (HA1.out _).mono ?_
  rintro e w1 ⟨rfl, rfl⟩
  go_wp2_with (rw [HNB.out])
  refine (HA2.out _).mono ?_
  rintro e w1 ⟨rfl, rfl⟩
  obtain ⟨W, hW⟩ : ∃ W, W = w1.alloc (.cells #[num 1, num nb, num np, num 4] 23) := ⟨_, rfl⟩
  have hgW : w1.grownBy W none := by rw [hW]; exact World.grownBy_alloc w1 _ none
  have hbx : W.heap[w1.heap.size]? = some (boxO 1 nb np 4) := by rw [hW]; exact heap_alloc_new w1 _
  have Hw : Hid _ := hW
  have s0 : W.cell? ⟨w1.heap.size, 0, none⟩ = some (num 1) := (At.of_row (o := 0) hbx rfl).1
  have s1 : W.cell? ⟨w1.heap.size, 1, none⟩ = some (num nb) := (At.of_row (o := 1) hbx rfl).1
  have s2 : W.cell? ⟨w1.heap.size, 2, none⟩ = some (num np) := (At.of_row (o := 2) hbx rfl).1
  have s3 : W.cell? ⟨w1.heap.size, 3, none⟩ = some (num 4) := (At.of_row (o := 3) hbx rfl).1
  clear hW HA1 HA2
  go_wp2_with (first | rw [HNP.out] | rw [← Hw.out])
  refine (HNew.out _).mono ?_
  rintro e w2 ⟨M, lab, rfl, h2, st2⟩
  have st02 := Stp.from (grownBy_trans hg1 hgW) st2
  have hbx2 : w2.heap[w1.heap.size]? = some (boxO 1 nb np 4) := by rw [st2.same _ (lt_of_heap hbx) rfl]; exact hbx
  have hlb2 : lab w1.heap.size = none := st2.no (lt_of_heap hbx) rfl
  have hmm := @run_makeMap Try.prog
  obtain ⟨bx, hbxe⟩ : ∃ x, x = w1.heap.size := ⟨_, rfl⟩
  have hgb : w.heap.size ≤ bx := by rw [hbxe]; exact hg1.size
  rw [← hbxe] at hbx2 hlb2
  rw [← hbxe]
  have g1 := World.grownBy_alloc w2 (.map #[] 0) none
  have hmi := make_ints (w2.alloc (.map #[] 0)) nb (by omega)
  have hsz2 : (w2.alloc (.map #[] 0)).heap.size = w2.heap.size + 1 := by simp
  rw [hsz2] at hmi
  have g2 := World.grownBy_alloc (w2.alloc (.map #[] 0)) (.cells (zerosI nb).toArray 3) none
  have hrow : ((w2.alloc (.map #[] 0)).alloc (.cells (zerosI nb).toArray 3)).heap[w2.heap.size + 1]? = some (.cells (zerosI nb).toArray 3) := by rw [← hsz2]; exact heap_alloc_new _ _
  obtain ⟨V, hV⟩ : ∃ V, V = (w2.alloc (.map #[] 0)).alloc (.cells (zerosI nb).toArray 3) := ⟨_, rfl⟩
  have hgV : w2.grownBy V none := by rw [hV]; exact grownBy_trans g1 g2
  have hlt2 : bx < w2.heap.size := lt_of_heap hbx2
  have sz2 : w.heap.size ≤ w2.heap.size := st02.size
  have hKp : KpR w V M (St.new 1 nb np 4) lab bx w2.heap.size (w2.heap.size + 1) nb np 0 0 (fun _ => none) (fun _ => 0) := by
    refine ⟨Fine.new 1 nb np 4, rfl, rfl, rfl, rfl, Bd.new 1 nb np 4, h2.more hgV, st02.grown hgV, hlb2, h2.fresh (Nat.le_refl _), h2.fresh (by omega), by rw [hgV.block bx hlt2 (by simp)]; exact hbx2, ?_, fun b hb => ?_, nb1, by omega, by omega, by omega, hgb, sz2, by omega⟩
    · exact (known_made w2).kept (by rw [hV]; exact g2.block _ (by omega) (by simp))
    · rw [hV]
      refine At.of_row hrow ?_
      show (zerosI nb).toArray[b]? = some (num 0)
      simp [zerosI, hb]
  have hKn : Knows (St.new 1 nb np 4) nb np (fun _ => none) := fun b p _ _ => rfl
  have hCt : Counts (St.new 1 nb np 4) nb np (fun _ => 0) := fun b _ => ⟨rfl, Int.le_refl _, by show (0 : Int) ≤ (np : Int); omega⟩
  have s1' : (w2.alloc (.map #[] 0)).cell? ⟨bx, 1, none⟩ = some (num nb) := by rw [cell_of_block (g1.block bx hlt2 (by simp))]; exact (At.of_row (o := 1) hbx2 rfl).1
  have HV : Hid _ := hV
  obtain ⟨mp, hmpe⟩ : ∃ x, x = w2.heap.size := ⟨_, rfl⟩
  rw [← hV] at hmi
  rw [← hmpe] at hKp hmi
  have HMp : Hid _ := hmpe
  clear s0 s1 s2 s3 Hw HNew HNB HNP st2 hgW hg1 hbx hbxe g1 g2 hV hgV hrow hmpe sz2 hsz2
  go_wp2_with (rw [← HMp.out])
  go_loopw [15] (fun i wr => ∃ (k : Nat) (A : St) (lab' : Lab) (K : Int → Option (List Nat)) (F : Nat → Int), k ≤ 60 ∧ i = num k ∧ KpR w wr M A lab' bx mp (mp + 1) nb np (20 * k) k K F ∧ Knows A nb np K ∧ Counts A nb np F) (fun i _ => 60 - (intOf i).toNat)
  case atStart => exact ⟨0, _, lab, _, _, by omega, rfl, hKp, hKn, hCt⟩
  case round =>
    clear hKp hKn hCt hmm hmi s1' HV h2 st02 hbx2 hlb2 hlt2
    obtain ⟨k, A, lab', K, F, hk, rfl, hR, hKn, hCt⟩ := hrel
    by_cases hlt : k < len ∧ k < 60
    · obtain ⟨hl1, hl2⟩ := hlt
      have q1 : (k : Int) < (len : Int) := by omega
      have q2 : (k : Int) < 60 := by omega
      have hxr := hx.more hR.st.grownBy
      have hol : k < os.length := by rw [hxr.1]; exact hl1
      obtain ⟨g, off, rfl, hc⟩ := hxr.2.1.resolve_left (fun e => by rw [e] at hol; simp at hol)
      obtain ⟨c0, c1, c2, c3, c4⟩ := hc k hol
      obtain ⟨i0, i1, i2, i3, i4, i5, i6⟩ := hxr.2.2 k hol
      have hop := hxr.2.2 k hol
      clear hc i1 i3 c1 c3 hop
      generalize (nthO os k).kind = kx at c0 i0
      generalize (nthO os k).block = bxk at c2 i2
      generalize (nthO os k).ba = ya at c4 i4
      generalize (nthO os k).bc = yc at c4 i5 i6
      generalize (nthO os k).bytes = yb at c4 i4 i5
      have HK : Hid (∀ w, Calls Try.prog 14 #[num kx] w fun e w' => e = .returned (num (absS kx)) ∧ w' = w) := fun w => abs_ok kx i0 w
      have HBx : Hid (∀ w, Calls Try.prog 14 #[num bxk] w fun e w' => e = .returned (num (absS bxk)) ∧ w' = w) := fun w => abs_ok bxk i2 w
      have l0 := absS_le i0
      have l2 := absS_le i2
      have l0' : (absS kx : Int) ≤ 9223372036854775807 := by omega
      have l2' : (absS bxk : Int) ≤ 9223372036854775807 := by omega
      obtain ⟨b, hb⟩ : ∃ b, b = absS bxk % nb := ⟨_, rfl⟩
      have HbE : Hid ((absS bxk : Int) % (nb : Int) = (b : Int)) := by rw [Hid, hb]; simp
      have hbn : b < nb := by rw [hb]; exact Nat.mod_lt _ (by omega)
      have s1 : wr.cell? ⟨bx, 1, none⟩ = some (num nb) := (At.of_row (o := 1) hR.obx rfl).1
      have s2 : wr.cell? ⟨bx, 2, none⟩ = some (num np) := (At.of_row (o := 2) hR.obx rfl).1
      have nxb := (hR.nx b hbn).1
      have hbn' : (b : Int) < (nb : Int) := by omega
      clear hb l0 l2 i0 i2
      go_wp2_with fail
      go_quiet ((go_at_call 14; exact Calls.quiet_of_same (HBx.out _)))
      rw [HbE.out]
      go_wp2_with fail
      obtain ⟨wd, hwd⟩ : ∃ wd, wd = wr.drewN nq := ⟨_, rfl⟩
      have hRd : KpR w wd M A lab' bx mp (mp + 1) nb np (20 * k) k K F := by rw [hwd]; exact hR.more (grownBy_drewN (World.grownBy.refl _ _) _)
      have c0d : wd.cell? ⟨g, off + k * 5, none⟩ = some (num kx) := by rw [hwd]; exact c0
      have c4d : wd.cell? ⟨g, off + k * 5 + 4, none⟩ = some (.slice ya yb.length yc) := by rw [hwd]; exact c4
      have i4d : RdB wd ya yb := by rw [hwd]; exact i4.more (grownBy_drewN (World.grownBy.refl _ _) _)
      rw [← hwd]
      clear hwd c0 c2 c4 i4 s1 s2 nxb hR HBx
      have s2 : wd.cell? ⟨bx, 2, none⟩ = some (num np) := (At.of_row (o := 2) hRd.obx rfl).1
      have nxb := (hRd.nx b hbn).1
      obtain ⟨hcb, hc0, hc1⟩ := hCt b hbn
      obtain ⟨kb, hkb⟩ : ∃ kb, kb = b * np := ⟨_, rfl⟩
      have HKb : Hid ((b : Int) * (np : Int) = (kb : Int)) := by rw [Hid, hkb]; simp
      have hkb2 : kb ≤ 20 := by rw [hkb]; exact Nat.le_trans (Nat.mul_le_mul (show b ≤ 4 by omega) np2) (by decide)
      have hkb2' : (kb : Int) ≤ 20 := by omega
      have HKbN : Hid (kb = b * np) := hkb
      clear hkb
      have hcbI : (F b : Int) ≤ 5 := by omega
      by_cases hpr : absS kx % 4 ≠ 0 ∧ F b ≠ np
      · have HkE : Hid (((absS kx : Int) % 4 == 0) = false) := by rw [Hid]; simp; omega
        have hk4 : ((absS kx : Int) % 4 == 0) = false := HkE.out
        have hnp4 : (F b == (np : Int)) = false := by simp; exact hpr.2
        obtain ⟨q, hq⟩ := Int.eq_ofNat_of_zero_le hc0
        have hqn : q < np := by have := hpr.2; omega
        clear hpr
        go_quiet ((go_at_call 14; exact Calls.quiet_of_same (HK.out _)))
        go_wp2_with fail
        obtain ⟨we, hwe⟩ : ∃ we, we = wd.drewN nq := ⟨_, rfl⟩
        have hRe : KpR w we M A lab' bx mp (mp + 1) nb np (20 * k) k K F := by rw [hwe]; exact hRd.more (grownBy_drewN (World.grownBy.refl _ _) _)
        have c4e : we.cell? ⟨g, off + k * 5 + 4, none⟩ = some (.slice ya yb.length yc) := by rw [hwe]; exact c4d
        have i4e : RdB we ya yb := by rw [hwe]; exact i4d.more (grownBy_drewN (World.grownBy.refl _ _) _)
        have HFi : Hid (Calls Try.prog 16 #[.slice ya yb.length yc, num 4] we (FillPost we 4)) := filled_ok i4e (by omega)
        rw [← hwe]
        clear hwe c0d c4d i4d s2 nxb hRd HK
        go_wp2_with fail
        refine HFi.out.mono ?_
        rintro e w4 ⟨gf, cf, l, T, rfl, hgf, hhf, hll, hlf, hcf, hgr4⟩
        have hR4 := hRe.more hgr4
        have hgl : lab' gf = none := hRe.arr.fresh hgf
        have src4 : Src w4 gf 0 l := ⟨hlf, fun i hi => by rw [Nat.zero_add, cell_row hhf, List.getElem?_append_left (by rw [valsB_len]; exact hi), valsB_at hi]⟩
        have hE := Program_done hR4.arr hR4.bd (by omega) 0 b q gf 0 cf hR4.fine.on (by rw [hR4.d]; decide) (by rw [hR4.b]; exact hbn) (by rw [hR4.p]; exact hqn) (by rw [hcb, hq]) (bs := l) src4 (by rw [hR4.y]; exact hll) (by rw [hR4.y]; exact hcf) hgl
        have hbP := hR4.bd.program (d := 0) (b := b) (p := q) (bs := l) (by rw [hcb, hq, hR4.p]; omega)
        have hnv := num_never hR4.bd (by omega)
        rw [hR4.fine.program hR4.bd (by omega), hR4.y] at hE
        rw [hR4.fine.program hR4.bd (by omega), hR4.y] at hbP
        have HE : Hid (Calls Try.prog 17 #[ptr M.a 0, num 0, num b, num q, .slice (some ⟨gf, 0, none⟩) 4 cf] w4 (OpPost w4 M lab' ((A.tick 1).progPart A.num 0 b q 4 l, 0))) := hE
        have hfine := (hR4.fine.tick 1).prog A.num 0 b q 4 l
        have hpgs : ∀ p, (((A.tick 1).progPart A.num 0 b q 4 l).blk 0 b).pages p = if p = q then some l else (A.blk 0 b).pages p := fun p => by
          have e1 : ((A.tick 1).blk 0 b).noP = never := hR4.fine.noP 0 b
          have e2 : (A.tick 1).Y = 4 := hR4.y
          simp only [St.progPart, St.setBlk, Blk.prog, and_self, if_true]
          rw [e1, e2, newPage_full hnv hll]
          rfl
        have hoth : ∀ b', b' ≠ b → ((A.tick 1).progPart A.num 0 b q 4 l).blk 0 b' = A.blk 0 b' := fun b' hb' => by
          simp [St.progPart, St.setBlk, hb']
          rfl
        have hnx1 : (((A.tick 1).progPart A.num 0 b q 4 l).blk 0 b).next = (q : Int) + 1 := by
          rw [prog_next]
          show (A.blk 0 b).next + 1 = _
          rw [hcb, hq]
        obtain ⟨A1, hA1⟩ : ∃ A1, A1 = (A.tick 1).progPart A.num 0 b q 4 l := ⟨_, rfl⟩
        have dA : A1.D = 1 ∧ A1.B = nb ∧ A1.P = np ∧ A1.Y = 4 := by rw [hA1]; exact ⟨hR4.d, hR4.b, hR4.p, hR4.y⟩
        rw [← hA1] at HE hbP hfine hpgs hoth hnx1
        obtain ⟨ky, hky⟩ : ∃ ky, ky = kb + q := ⟨_, rfl⟩
        obtain ⟨K2, hK2e⟩ : ∃ K2 : Int → Option (List Nat), K2 = fun i => if i = (ky : Int) then some l else K i := ⟨_, rfl⟩
        obtain ⟨F2, hF2e⟩ : ∃ F2 : Nat → Int, F2 = fun i => if i = b then (q : Int) + 1 else F i := ⟨_, rfl⟩
        have hKz : Knows A1 nb np K2 := by
          have := hKn.prog (b := b) (q := q) (l := l) (A' := A1) hqn hpgs (fun b' hb' => by rw [hoth b' hb'])
          rw [hK2e, hky, HKbN.out]
          exact this
        have hCz : Counts A1 nb np F2 := fun b' hb' => by
          rw [hF2e]
          by_cases e : b' = b
          · subst e
            simp only [if_true]
            exact ⟨hnx1, by omega, by omega⟩
          · simp only [e, if_false]
            rw [hoth b' e]
            exact hCt b' hb'
        have nxb4 : w4.cell? ⟨mp + 1, b, none⟩ = some (num q) := by rw [← hq]; exact (hR4.nx b hbn).1
        clear hE hnv hA1 hpgs hoth hnx1 HFi c4e i4e hRe hgr4 src4
        go_wp2_with fail
        refine HE.out.mono ?_
        rintro e w5 ⟨lab5, rfl, h5, st5⟩
        simp only at h5 ⊢
        have hR5 : KpR w w5 M A1 lab5 bx mp (mp + 1) nb np (20 * k + 2) k K F := hR4.op h5 st5 hfine dA.1 dA.2.1 dA.2.2.1 dA.2.2.2 (hbP.mono (by omega))
        have hrow5 : w5.heap[gf]? = some (.cells (valsB l ++ T).toArray 5) := by rw [st5.same gf (lt_of_heap hhf) hgl]; exact hhf
        have src5 : Src w5 gf 0 l := ⟨hlf, fun i hi => by rw [Nat.zero_add, cell_row hrow5, List.getElem?_append_left (by rw [valsB_len]; exact hi), valsB_at hi]⟩
        have s2 : w5.cell? ⟨bx, 2, none⟩ = some (num np) := (At.of_row (o := 2) hR5.obx rfl).1
        obtain ⟨nxb, nxz⟩ : At w5 (mp + 1) b (num q) := by rw [← hq]; exact hR5.nx b hbn
        have hcv : ∀ n, (convert 35 9 (.slice (some ⟨gf, 0, none⟩) 4 cf)).run Try.prog { w5 with drawn := n } = .ok (.string (strB l)) { w5 with drawn := n } := fun n => by
          have := conv_ok (w := { w5 with drawn := n }) (Src.of_heap src5 rfl) cf
          rw [hll] at this
          exact this
        have hI : I64 (ky : Int) := by unfold I64; omega
        have hR5d := hR5.more (grownBy_drew (World.grownBy.refl w5 none))
        obtain ⟨w6, hrun, hkn6, hg6⟩ := hR5d.kn.put hI (show l.length ≤ 4096 by omega) (by omega)
        have hR6 := hR5d.known hkn6 hg6
        rw [← hK2e] at hR6
        have hR7 := hR6.setF hbn ((q : Int) + 1)
        rw [← hF2e] at hR7
        obtain ⟨nxb6, nxz6⟩ : At w6 (mp + 1) b (num q) := by rw [← hq]; exact hR6.nx b hbn
        have em : (b : Int) * (np : Int) = (kb : Int) := HKb.out
        have em2 : (kb : Int) + (q : Int) = (ky : Int) := by omega
        have q5 : (q : Int) < 5 := by omega
        have HFo : Hid (Try.prog.follows .mixedOrders = true) := follows_mixed
        have HR7 : Hid _ := hR7
        have HK2 : Hid _ := hK2e
        have HF2 : Hid _ := hF2e
        clear hky hK2e hF2e
        clear hR5 hR5d hkn6 hg6 hR6 hR7 st5 h5 hrow5 src5 hhf HE nxb4 hfine hbP
        go_wp2_with fail
        have hcd : (convert 35 9 (.slice (some ⟨gf, 0, none⟩) 4 cf)).run Try.prog w5.drew = .ok (.string (strB l)) w5.drew := hcv _
        rw [← em2] at hrun
        have hrun' : (Instr.mapUpdate 41 (.map (some mp)) (.int .i64 ((kb : Int) + (q : Int))) (.string (strB l))).run Try.prog w5.drew = .ok () w6 := hrun
        clear hcv hrun em2
        go_still_tail 12, HFo.out
        change wpList _ _ _ _ _ (w5.drew)
        go_wp2_with fail
        rw [hrun']
        clear hrun' hcd
        have hRz : KpR w (w6.setCell ⟨mp + 1, b, none⟩ (num ((q : Int) + 1))) M A1 lab5 bx mp (mp + 1) nb np (20 * k + 5) (k + 1) K2 F2 := HR7.out.loose (by omega) (by omega)
        have hKz : Knows A1 nb np K2 := hKz
        have hCz : Counts A1 nb np F2 := hCz
        clear HR7 HK2 HF2
        go_wp2_with fail
        go_loopw [19] (fun i wr => ∃ (p : Nat) (A2 : St) (lab2 : Lab), p ≤ np ∧ i = num p ∧ KpR w wr M A2 lab2 bx mp (mp + 1) nb np (20 * k + 5 + 3 * p) (k + 1) K2 F2 ∧ Knows A2 nb np K2 ∧ Counts A2 nb np F2) (fun i _ => np - (intOf i).toNat)
        case atStart => exact ⟨0, _, _, Nat.zero_le _, rfl, hRz, hKz, hCz⟩
        case round =>
          clear hRz hKz hCz
          obtain ⟨p, A2, lab2, hpn, rfl, hR2, hK2, hC2⟩ := hrel
          have z2 : wr.cell? ⟨bx, 2, none⟩ = some (num np) := (At.of_row (o := 2) hR2.obx rfl).1
          by_cases hpl : p < np
          · have m1 : (p : Int) < (np : Int) := by omega
            have hE := Read_done0 hR2.arr hR2.bd (by omega) 0 b p hR2.fine.on (by rw [hR2.d]; decide) (by rw [hR2.b]; exact hbn) (by rw [hR2.p]; exact hpl) (hR2.fine.flips 0 b)
            rw [hR2.fine.read hR2.bd (by omega), hR2.y] at hE
            have HE : Hid (Calls Try.prog 18 #[ptr M.a 0, num 0, num b, num p] wr (ReadPost wr M lab2 (A2.tick 0, some (pageS 4 ((A2.blk 0 b).pages p)), 0))) := hE
            obtain ⟨kp, hkpe⟩ : ∃ kp, kp = kb + p := ⟨_, rfl⟩
            have hkey : K2 (kp : Int) = (A2.blk 0 b).pages p := by rw [hkpe, HKbN.out]; exact hK2 b p hbn hpl
            have hpl4 : (pageS 4 ((A2.blk 0 b).pages p)).length = 4 := by
              have := page_len hR2.arr (d := 0) (b := b) (p := p) (by rw [hR2.d]; decide) (by rw [hR2.b]; exact hbn) (by rw [hR2.p]; exact hpl)
              rwa [hR2.y] at this
            have hcn := (hC2 b hbn).1
            have hbN := hR2.bd.tick 0
            clear hE
            go_wp2_with fail
            refine HE.out.mono ?_
            rintro e w7 ⟨lab7, v7, rfl, h7, st7, hv7⟩
            simp only at h7 hv7 ⊢
            obtain ⟨bs7, g7, e7, rfl, hg7, hl7, hr7, hle7⟩ := hv7.resolve_left (fun e => by cases e.1)
            have e7' := Option.some.inj e7
            have hlen7 : bs7.length = 4 := by rw [← e7']; exact hpl4
            have hR7 : KpR w w7 M (A2.tick 0) lab7 bx mp (mp + 1) nb np (20 * k + 5 + 3 * (p + 1)) (k + 1) K2 F2 := hR2.op h7 st7 (hR2.fine.tick 0) hR2.d hR2.b hR2.p hR2.y (hbN.mono (by omega))
            have hK7 : Knows (A2.tick 0) nb np K2 := hK2
            have hC7 : Counts (A2.tick 0) nb np F2 := hC2
            have hne1 : g7 ≠ bx := by have := lt_of_heap hR2.obx; omega
            have hne2 : g7 ≠ mp := by have := hR2.mpLt; omega
            have hne3 : g7 ≠ mp + 1 := by have := hR2.gnLt; omega
            have hgw : w.heap.size ≤ g7 := Nat.le_trans hR2.st.size hg7
            have hI : I64 (kp : Int) := by unfold I64; omega
            have hlk := hR7.kn.look hI
            have z2 : w7.cell? ⟨bx, 2, none⟩ = some (num np) := (At.of_row (o := 2) hR7.obx rfl).1
            have hcv : ∀ n, (convert 35 9 (.slice (some ⟨g7, 0, none⟩) bs7.length bs7.length)).run Try.prog (w7.drewN n) = .ok (.string (strB bs7)) (w7.drewN n)   := fun n => conv_ok (w := w7.drewN n) (Src.of_heap (Src.of_row hr7 hle7) rfl) bs7.length
            rw [hlen7] at hcv
            rw [hlen7]
            have hx0 : w7.cell? ⟨g7, 0, none⟩ = some (.int .u8 (nth bs7 0 : Nat)) := by rw [cell_row hr7, valsB_at (by omega)]
            have hz0 : w7.frozen? ⟨g7, 0, none⟩ = false := frozen_row hr7
            have hnxt := (hR7.nx b hbn).1
            have HNx : Hid (∀ n, Calls Try.prog 19 #[ptr M.a 0, num 0, num b] (w7.drewN n) fun e w' => e = .returned (num (F2 b)) ∧ w' = w7.drewN n) := fun n => by
              have := next_ok (h7.drewN n) 0 b (by show 0 < A2.D; rw [hR2.d]; decide) (by show b < A2.B; rw [hR2.b]; exact hbn)
              rw [show ((A2.tick 0).blk 0 b).next = F2 b from hcn] at this
              exact this
            have em : (b : Int) * (np : Int) = (kb : Int) := HKb.out
            have em2 : (kb : Int) + (p : Int) = (kp : Int) := by omega
            clear hkpe
            have hb1 : (F2 b != F2 b) = false := by simp
            have HSet : Hid (∀ n v, KpR w ((w7.drewN n).setCell ⟨g7, 0, none⟩ v) M (A2.tick 0) lab7 bx mp (mp + 1) nb np (20 * k + 5 + 3 * (p + 1)) (k + 1) K2 F2) := fun n v => (hR7.more (grownBy_drewN (World.grownBy.refl _ _) n)).set hl7 hne1 hne2 hne3 hgw
            cases hkp : K2 (kp : Int) with
            | none =>
              have hpp : bs7 = List.replicate 4 255 := by rw [← e7', ← hkey, hkp]; rfl
              have hwv : wantV K2 (kp : Int) = .string ⟨#[]⟩ := by unfold wantV; rw [hkp]
              rw [hwv, hkp] at hlk
              rw [hpp, str_ff] at hcv
              clear hwv hkp hpp hkey e7 e7' hle7 hr7 hv7 HE hbN hR2 hC2 hK2 st7 hR7
              go_wp2_with fail
              go_quiet ((go_at_call 19; exact Calls.quiet_of_same (HNx.out _)))
              go_wp2_with fail
              exact ⟨⟨p + 1, _, _, by omega, congrArg (Value.int .i64) (by omega), HSet.out _ _, hK7, hC7⟩, by show np - ((p : Int) + 1).toNat < np - (p : Int).toNat; omega⟩
            | some bk =>
              have hpp : bs7 = bk := by rw [← e7', ← hkey, hkp]; rfl
              have hwv : wantV K2 (kp : Int) = .string (strB bk) := by unfold wantV; rw [hkp]
              rw [hwv, hkp] at hlk
              rw [hpp] at hcv
              clear hwv hkp hpp hkey e7 e7' hle7 hr7 hv7 HE hbN hR2 hC2 hK2 st7 hR7
              go_wp2_with fail
              go_quiet ((go_at_call 19; exact Calls.quiet_of_same (HNx.out _)))
              go_wp2_with fail
              exact ⟨⟨p + 1, _, _, by omega, congrArg (Value.int .i64) (by omega), HSet.out _ _, hK7, hC7⟩, by show np - ((p : Int) + 1).toNat < np - (p : Int).toNat; omega⟩
          · have m1 : ¬ (p : Int) < (np : Int) := by omega
            go_wp2_with fail
            exact ⟨⟨k + 1, _, _, _, _, by omega, congrArg (Value.int .i64) (by omega), hR2.loose (by omega) (by omega), hK2, hC2⟩, by show 60 - ((k : Int) + 1).toNat < 60 - (k : Int).toNat; omega⟩
      · rcases (show absS kx % 4 = 0 ∨ (absS kx % 4 ≠ 0 ∧ F b = np) by omega) with h4 | ⟨h4, hFb⟩
        · have hk4 : ((absS kx : Int) % 4 == 0) = true := by simp; omega
          clear h4 hpr
          go_quiet ((go_at_call 14; exact Calls.quiet_of_same (HK.out _)))
          go_wp2_with fail
          obtain ⟨we, hwe⟩ : ∃ we, we = wd.drewN nq := ⟨_, rfl⟩
          have hRe : KpR w we M A lab' bx mp (mp + 1) nb np (20 * k) k K F := by rw [hwe]; exact hRd.more (grownBy_drewN (World.grownBy.refl _ _) _)
          rw [← hwe]
          clear hwe c0d c4d i4d s2 nxb hRd HK
          have hE := Erase_done hRe.arr hRe.bd (by omega) 0 b hRe.fine.on (by rw [hRe.d]; decide) (by rw [hRe.b]; exact hbn)
          have hbP := hRe.bd.erase 0 b
          rw [hRe.fine.erase hRe.bd (by omega)] at hE
          rw [hRe.fine.erase hRe.bd (by omega)] at hbP
          have hfine := hRe.fine.eras 0 b
          obtain ⟨A1, hA1⟩ : ∃ A1, A1 = (((A.tick 2).upB 0 b Blk.incE).upB 0 b (Blk.clr A.P)).upB 0 b (Blk.setN 0) := ⟨_, rfl⟩
          rw [← hA1] at hE hbP hfine
          have dA : A1.D = 1 ∧ A1.B = nb ∧ A1.P = np ∧ A1.Y = 4 := by rw [hA1]; exact ⟨hRe.d, hRe.b, hRe.p, hRe.y⟩
          have hpgs : ∀ p, p < np → (A1.blk 0 b).pages p = none := fun p hp => by
            rw [hA1]
            simp [St.upB, St.setBlk, Blk.setN, Blk.clr, hRe.p, hp]
          have hoth : ∀ b', b' ≠ b → A1.blk 0 b' = A.blk 0 b' := fun b' hb' => by
            rw [hA1]
            simp [St.upB, St.setBlk, hb']
            rfl
          have hnx1 : (A1.blk 0 b).next = 0 := by
            rw [hA1]
            simp [St.upB, St.setBlk, Blk.setN]
          have HE : Hid (Calls Try.prog 15 #[ptr M.a 0, num 0, num b] we (OpPost we M lab' (A1, 0))) := hE
          obtain ⟨K2, hK2e⟩ : ∃ K2, K2 = delK K kb np := ⟨_, rfl⟩
          obtain ⟨F2, hF2e⟩ : ∃ F2 : Nat → Int, F2 = fun i => if i = b then 0 else F i := ⟨_, rfl⟩
          have hKz : Knows A1 nb np K2 := by
            rw [hK2e, HKbN.out]
            exact hKn.erase hpgs (fun b' hb' => by rw [hoth b' hb'])
          have hCz : Counts A1 nb np F2 := fun b' hb' => by
            rw [hF2e]
            by_cases e : b' = b
            · subst e
              simp only [if_true]
              exact ⟨hnx1, by omega, by omega⟩
            · simp only [e, if_false]
              rw [hoth b' e]
              exact hCt b' hb'
          clear hE hA1 hpgs hoth hnx1
          go_wp2_with fail
          refine HE.out.mono ?_
          rintro e w5 ⟨lab5, rfl, h5, st5⟩
          simp only at h5 ⊢
          have hR5 : KpR w w5 M A1 lab5 bx mp (mp + 1) nb np (20 * k + 3) k (delK K kb 0) F := by rw [delK_zero]; exact hRe.op h5 st5 hfine dA.1 dA.2.1 dA.2.2.1 dA.2.2.2 (hbP.mono (by omega))
          have HK2 : Hid _ := hK2e
          have HF2 : Hid _ := hF2e
          clear hK2e hF2e HE hRe hfine hbP st5 h5
          go_wp2_with fail
          go_loopw [17] (fun i wr => ∃ (p : Nat), p ≤ np ∧ i = num p ∧ KpR w wr M A1 lab5 bx mp (mp + 1) nb np (20 * k + 3) k (delK K kb p) F) (fun i _ => np - (intOf i).toNat)
          case atStart => exact ⟨0, Nat.zero_le _, rfl, hR5⟩
          case round =>
            clear hR5
            obtain ⟨p, hpn, rfl, hR2⟩ := hrel
            have z2 : wr.cell? ⟨bx, 2, none⟩ = some (num np) := (At.of_row (o := 2) hR2.obx rfl).1
            have em : (b : Int) * (np : Int) = (kb : Int) := HKb.out
            by_cases hpl : p < np
            · have m1 : (p : Int) < (np : Int) := by omega
              have hI : I64 ((kb + p : Nat) : Int) := by unfold I64; omega
              obtain ⟨w6, hrun, hkn6, hg6⟩ := hR2.kn.del hI 0
              have hrun' : (Builtin.delete_ #[41, 3] 0 #[.map (some mp), .int .i64 ((kb : Int) + (p : Int))]).run Try.prog wr = .ok (.tuple #[]) w6 := by
                rw [show ((kb : Int) + (p : Int)) = ((kb + p : Nat) : Int) by omega]
                exact hrun
              have hR6 := hR2.known hkn6 hg6
              rw [delK_next] at hR6
              have HR6 : Hid _ := hR6
              clear hR6 hkn6 hg6 hrun hI
              go_wp2_with fail
              exact ⟨⟨p + 1, by omega, congrArg (Value.int .i64) (by omega), HR6.out⟩, by show np - ((p : Int) + 1).toNat < np - (p : Int).toNat; omega⟩
            · have m1 : ¬ (p : Int) < (np : Int) := by omega
              have hpe : p = np := by omega
              rw [hpe, ← HK2.out] at hR2
              clear hpe
              obtain ⟨nxb6, nxz6⟩ := hR2.nx b hbn
              have hR7 := hR2.setF hbn 0
              rw [← HF2.out] at hR7
              have HR7 : Hid _ := hR7
              clear hR7 hR2 em
              have hRz : KpR w (wr.setCell ⟨mp + 1, b, none⟩ (num 0)) M A1 lab5 bx mp (mp + 1) nb np (20 * k + 5) (k + 1) K2 F2 := HR7.out.loose (by omega) (by omega)
              have hKz : Knows A1 nb np K2 := hKz
              have hCz : Counts A1 nb np F2 := hCz
              clear HR7 HK2 HF2 hpl hpn
              go_wp2_with fail
              go_loopw [19] (fun i wr => ∃ (p : Nat) (A2 : St) (lab2 : Lab), p ≤ np ∧ i = num p ∧ KpR w wr M A2 lab2 bx mp (mp + 1) nb np (20 * k + 5 + 3 * p) (k + 1) K2 F2 ∧ Knows A2 nb np K2 ∧ Counts A2 nb np F2) (fun i _ => np - (intOf i).toNat)
              case atStart => exact ⟨0, _, _, Nat.zero_le _, rfl, hRz, hKz, hCz⟩
              case round =>
                clear hRz hKz hCz
                obtain ⟨p, A2, lab2, hpn, rfl, hR2, hK2, hC2⟩ := hrel
                have z2 : wr.cell? ⟨bx, 2, none⟩ = some (num np) := (At.of_row (o := 2) hR2.obx rfl).1
                by_cases hpl : p < np
                · have m1 : (p : Int) < (np : Int) := by omega
                  have hE := Read_done0 hR2.arr hR2.bd (by omega) 0 b p hR2.fine.on (by rw [hR2.d]; decide) (by rw [hR2.b]; exact hbn) (by rw [hR2.p]; exact hpl) (hR2.fine.flips 0 b)
                  rw [hR2.fine.read hR2.bd (by omega), hR2.y] at hE
                  have HE : Hid (Calls Try.prog 18 #[ptr M.a 0, num 0, num b, num p] wr (ReadPost wr M lab2 (A2.tick 0, some (pageS 4 ((A2.blk 0 b).pages p)), 0))) := hE
                  obtain ⟨kp, hkpe⟩ : ∃ kp, kp = kb + p := ⟨_, rfl⟩
                  have hkey : K2 (kp : Int) = (A2.blk 0 b).pages p := by rw [hkpe, HKbN.out]; exact hK2 b p hbn hpl
                  have hpl4 : (pageS 4 ((A2.blk 0 b).pages p)).length = 4 := by
                    have := page_len hR2.arr (d := 0) (b := b) (p := p) (by rw [hR2.d]; decide) (by rw [hR2.b]; exact hbn) (by rw [hR2.p]; exact hpl)
                    rwa [hR2.y] at this
                  have hcn := (hC2 b hbn).1
                  have hbN := hR2.bd.tick 0
                  clear hE
                  go_wp2_with fail
                  refine HE.out.mono ?_
                  rintro e w7 ⟨lab7, v7, rfl, h7, st7, hv7⟩
                  simp only at h7 hv7 ⊢
                  obtain ⟨bs7, g7, e7, rfl, hg7, hl7, hr7, hle7⟩ := hv7.resolve_left (fun e => by cases e.1)
                  have e7' := Option.some.inj e7
                  have hlen7 : bs7.length = 4 := by rw [← e7']; exact hpl4
                  have hR7 : KpR w w7 M (A2.tick 0) lab7 bx mp (mp + 1) nb np (20 * k + 5 + 3 * (p + 1)) (k + 1) K2 F2 := hR2.op h7 st7 (hR2.fine.tick 0) hR2.d hR2.b hR2.p hR2.y (hbN.mono (by omega))
                  have hK7 : Knows (A2.tick 0) nb np K2 := hK2
                  have hC7 : Counts (A2.tick 0) nb np F2 := hC2
                  have hne1 : g7 ≠ bx := by have := lt_of_heap hR2.obx; omega
                  have hne2 : g7 ≠ mp := by have := hR2.mpLt; omega
                  have hne3 : g7 ≠ mp + 1 := by have := hR2.gnLt; omega
                  have hgw : w.heap.size ≤ g7 := Nat.le_trans hR2.st.size hg7
                  have hI : I64 (kp : Int) := by unfold I64; omega
                  have hlk := hR7.kn.look hI
                  have z2 : w7.cell? ⟨bx, 2, none⟩ = some (num np) := (At.of_row (o := 2) hR7.obx rfl).1
                  have hcv : ∀ n, (convert 35 9 (.slice (some ⟨g7, 0, none⟩) bs7.length bs7.length)).run Try.prog (w7.drewN n) = .ok (.string (strB bs7)) (w7.drewN n)   := fun n => conv_ok (w := w7.drewN n) (Src.of_heap (Src.of_row hr7 hle7) rfl) bs7.length
                  rw [hlen7] at hcv
                  rw [hlen7]
                  have hx0 : w7.cell? ⟨g7, 0, none⟩ = some (.int .u8 (nth bs7 0 : Nat)) := by rw [cell_row hr7, valsB_at (by omega)]
                  have hz0 : w7.frozen? ⟨g7, 0, none⟩ = false := frozen_row hr7
                  have hnxt := (hR7.nx b hbn).1
                  have HNx : Hid (∀ n, Calls Try.prog 19 #[ptr M.a 0, num 0, num b] (w7.drewN n) fun e w' => e = .returned (num (F2 b)) ∧ w' = w7.drewN n) := fun n => by
                    have := next_ok (h7.drewN n) 0 b (by show 0 < A2.D; rw [hR2.d]; decide) (by show b < A2.B; rw [hR2.b]; exact hbn)
                    rw [show ((A2.tick 0).blk 0 b).next = F2 b from hcn] at this
                    exact this
                  have em : (b : Int) * (np : Int) = (kb : Int) := HKb.out
                  have em2 : (kb : Int) + (p : Int) = (kp : Int) := by omega
                  clear hkpe
                  have hb1 : (F2 b != F2 b) = false := by simp
                  have HSet : Hid (∀ n v, KpR w ((w7.drewN n).setCell ⟨g7, 0, none⟩ v) M (A2.tick 0) lab7 bx mp (mp + 1) nb np (20 * k + 5 + 3 * (p + 1)) (k + 1) K2 F2) := fun n v => (hR7.more (grownBy_drewN (World.grownBy.refl _ _) n)).set hl7 hne1 hne2 hne3 hgw
                  cases hkp : K2 (kp : Int) with
                  | none =>
                    have hpp : bs7 = List.replicate 4 255 := by rw [← e7', ← hkey, hkp]; rfl
                    have hwv : wantV K2 (kp : Int) = .string ⟨#[]⟩ := by unfold wantV; rw [hkp]
                    rw [hwv, hkp] at hlk
                    rw [hpp, str_ff] at hcv
                    clear hwv hkp hpp hkey e7 e7' hle7 hr7 hv7 HE hbN hR2 hC2 hK2 st7 hR7
                    go_wp2_with fail
                    go_quiet ((go_at_call 19; exact Calls.quiet_of_same (HNx.out _)))
                    go_wp2_with fail
                    exact ⟨⟨p + 1, _, _, by omega, congrArg (Value.int .i64) (by omega), HSet.out _ _, hK7, hC7⟩, by show np - ((p : Int) + 1).toNat < np - (p : Int).toNat; omega⟩
                  | some bk =>
                    have hpp : bs7 = bk := by rw [← e7', ← hkey, hkp]; rfl
                    have hwv : wantV K2 (kp : Int) = .string (strB bk) := by unfold wantV; rw [hkp]
                    rw [hwv, hkp] at hlk
                    rw [hpp] at hcv
                    clear hwv hkp hpp hkey e7 e7' hle7 hr7 hv7 HE hbN hR2 hC2 hK2 st7 hR7
                    go_wp2_with fail
                    go_quiet ((go_at_call 19; exact Calls.quiet_of_same (HNx.out _)))
                    go_wp2_with fail
                    exact ⟨⟨p + 1, _, _, by omega, congrArg (Value.int .i64) (by omega), HSet.out _ _, hK7, hC7⟩, by show np - ((p : Int) + 1).toNat < np - (p : Int).toNat; omega⟩
                · have m1 : ¬ (p : Int) < (np : Int) := by omega
                  go_wp2_with fail
                  exact ⟨⟨k + 1, _, _, _, _, by omega, congrArg (Value.int .i64) (by omega), hR2.loose (by omega) (by omega), hK2, hC2⟩, by show 60 - ((k : Int) + 1).toNat < 60 - (k : Int).toNat; omega⟩
        · have hk4 : ((absS kx : Int) % 4 == 0) = false := by simp; omega
          have hnp4 : (F b == (np : Int)) = true := by simp; exact hFb
          clear h4 hpr hFb
          go_quiet ((go_at_call 14; exact Calls.quiet_of_same (HK.out _)))
          go_wp2_with fail
          obtain ⟨we, hwe⟩ : ∃ we, we = wd.drewN nq := ⟨_, rfl⟩
          have hRe : KpR w we M A lab' bx mp (mp + 1) nb np (20 * k) k K F := by rw [hwe]; exact hRd.more (grownBy_drewN (World.grownBy.refl _ _) _)
          rw [← hwe]
          clear hwe c0d c4d i4d s2 nxb hRd HK
          have hE := Erase_done hRe.arr hRe.bd (by omega) 0 b hRe.fine.on (by rw [hRe.d]; decide) (by rw [hRe.b]; exact hbn)
          have hbP := hRe.bd.erase 0 b
          rw [hRe.fine.erase hRe.bd (by omega)] at hE
          rw [hRe.fine.erase hRe.bd (by omega)] at hbP
          have hfine := hRe.fine.eras 0 b
          obtain ⟨A1, hA1⟩ : ∃ A1, A1 = (((A.tick 2).upB 0 b Blk.incE).upB 0 b (Blk.clr A.P)).upB 0 b (Blk.setN 0) := ⟨_, rfl⟩
          rw [← hA1] at hE hbP hfine
          have dA : A1.D = 1 ∧ A1.B = nb ∧ A1.P = np ∧ A1.Y = 4 := by rw [hA1]; exact ⟨hRe.d, hRe.b, hRe.p, hRe.y⟩
          have hpgs : ∀ p, p < np → (A1.blk 0 b).pages p = none := fun p hp => by
            rw [hA1]
            simp [St.upB, St.setBlk, Blk.setN, Blk.clr, hRe.p, hp]
          have hoth : ∀ b', b' ≠ b → A1.blk 0 b' = A.blk 0 b' := fun b' hb' => by
            rw [hA1]
            simp [St.upB, St.setBlk, hb']
            rfl
          have hnx1 : (A1.blk 0 b).next = 0 := by
            rw [hA1]
            simp [St.upB, St.setBlk, Blk.setN]
          have HE : Hid (Calls Try.prog 15 #[ptr M.a 0, num 0, num b] we (OpPost we M lab' (A1, 0))) := hE
          obtain ⟨K2, hK2e⟩ : ∃ K2, K2 = delK K kb np := ⟨_, rfl⟩
          obtain ⟨F2, hF2e⟩ : ∃ F2 : Nat → Int, F2 = fun i => if i = b then 0 else F i := ⟨_, rfl⟩
          have hKz : Knows A1 nb np K2 := by
            rw [hK2e, HKbN.out]
            exact hKn.erase hpgs (fun b' hb' => by rw [hoth b' hb'])
          have hCz : Counts A1 nb np F2 := fun b' hb' => by
            rw [hF2e]
            by_cases e : b' = b
            · subst e
              simp only [if_true]
              exact ⟨hnx1, by omega, by omega⟩
            · simp only [e, if_false]
              rw [hoth b' e]
              exact hCt b' hb'
          clear hE hA1 hpgs hoth hnx1
          go_wp2_with fail
          refine HE.out.mono ?_
          rintro e w5 ⟨lab5, rfl, h5, st5⟩
          simp only at h5 ⊢
          have hR5 : KpR w w5 M A1 lab5 bx mp (mp + 1) nb np (20 * k + 3) k (delK K kb 0) F := by rw [delK_zero]; exact hRe.op h5 st5 hfine dA.1 dA.2.1 dA.2.2.1 dA.2.2.2 (hbP.mono (by omega))
          have HK2 : Hid _ := hK2e
          have HF2 : Hid _ := hF2e
          clear hK2e hF2e HE hRe hfine hbP st5 h5
          go_wp2_with fail
          go_loopw [17] (fun i wr => ∃ (p : Nat), p ≤ np ∧ i = num p ∧ KpR w wr M A1 lab5 bx mp (mp + 1) nb np (20 * k + 3) k (delK K kb p) F) (fun i _ => np - (intOf i).toNat)
          case atStart => exact ⟨0, Nat.zero_le _, rfl, hR5⟩
          case round =>
            clear hR5
            obtain ⟨p, hpn, rfl, hR2⟩ := hrel
            have z2 : wr.cell? ⟨bx, 2, none⟩ = some (num np) := (At.of_row (o := 2) hR2.obx rfl).1
            have em : (b : Int) * (np : Int) = (kb : Int) := HKb.out
            by_cases hpl : p < np
            · have m1 : (p : Int) < (np : Int) := by omega
              have hI : I64 ((kb + p : Nat) : Int) := by unfold I64; omega
              obtain ⟨w6, hrun, hkn6, hg6⟩ := hR2.kn.del hI 0
              have hrun' : (Builtin.delete_ #[41, 3] 0 #[.map (some mp), .int .i64 ((kb : Int) + (p : Int))]).run Try.prog wr = .ok (.tuple #[]) w6 := by
                rw [show ((kb : Int) + (p : Int)) = ((kb + p : Nat) : Int) by omega]
                exact hrun
              have hR6 := hR2.known hkn6 hg6
              rw [delK_next] at hR6
              have HR6 : Hid _ := hR6
              clear hR6 hkn6 hg6 hrun hI
              go_wp2_with fail
              exact ⟨⟨p + 1, by omega, congrArg (Value.int .i64) (by omega), HR6.out⟩, by show np - ((p : Int) + 1).toNat < np - (p : Int).toNat; omega⟩
            · have m1 : ¬ (p : Int) < (np : Int) := by omega
              have hpe : p = np := by omega
              rw [hpe, ← HK2.out] at hR2
              clear hpe
              obtain ⟨nxb6, nxz6⟩ := hR2.nx b hbn
              have hR7 := hR2.setF hbn 0
              rw [← HF2.out] at hR7
              have HR7 : Hid _ := hR7
              clear hR7 hR2 em
              have hRz : KpR w (wr.setCell ⟨mp + 1, b, none⟩ (num 0)) M A1 lab5 bx mp (mp + 1) nb np (20 * k + 5) (k + 1) K2 F2 := HR7.out.loose (by omega) (by omega)
              have hKz : Knows A1 nb np K2 := hKz
              have hCz : Counts A1 nb np F2 := hCz
              clear HR7 HK2 HF2 hpl hpn
              go_wp2_with fail
              go_loopw [19] (fun i wr => ∃ (p : Nat) (A2 : St) (lab2 : Lab), p ≤ np ∧ i = num p ∧ KpR w wr M A2 lab2 bx mp (mp + 1) nb np (20 * k + 5 + 3 * p) (k + 1) K2 F2 ∧ Knows A2 nb np K2 ∧ Counts A2 nb np F2) (fun i _ => np - (intOf i).toNat)
              case atStart => exact ⟨0, _, _, Nat.zero_le _, rfl, hRz, hKz, hCz⟩
              case round =>
                clear hRz hKz hCz
                obtain ⟨p, A2, lab2, hpn, rfl, hR2, hK2, hC2⟩ := hrel
                have z2 : wr.cell? ⟨bx, 2, none⟩ = some (num np) := (At.of_row (o := 2) hR2.obx rfl).1
                by_cases hpl : p < np
                · have m1 : (p : Int) < (np : Int) := by omega
                  have hE := Read_done0 hR2.arr hR2.bd (by omega) 0 b p hR2.fine.on (by rw [hR2.d]; decide) (by rw [hR2.b]; exact hbn) (by rw [hR2.p]; exact hpl) (hR2.fine.flips 0 b)
                  rw [hR2.fine.read hR2.bd (by omega), hR2.y] at hE
                  have HE : Hid (Calls Try.prog 18 #[ptr M.a 0, num 0, num b, num p] wr (ReadPost wr M lab2 (A2.tick 0, some (pageS 4 ((A2.blk 0 b).pages p)), 0))) := hE
                  obtain ⟨kp, hkpe⟩ : ∃ kp, kp = kb + p := ⟨_, rfl⟩
                  have hkey : K2 (kp : Int) = (A2.blk 0 b).pages p := by rw [hkpe, HKbN.out]; exact hK2 b p hbn hpl
                  have hpl4 : (pageS 4 ((A2.blk 0 b).pages p)).length = 4 := by
                    have := page_len hR2.arr (d := 0) (b := b) (p := p) (by rw [hR2.d]; decide) (by rw [hR2.b]; exact hbn) (by rw [hR2.p]; exact hpl)
                    rwa [hR2.y] at this
                  have hcn := (hC2 b hbn).1
                  have hbN := hR2.bd.tick 0
                  clear hE
                  go_wp2_with fail
                  refine HE.out.mono ?_
                  rintro e w7 ⟨lab7, v7, rfl, h7, st7, hv7⟩
                  simp only at h7 hv7 ⊢
                  obtain ⟨bs7, g7, e7, rfl, hg7, hl7, hr7, hle7⟩ := hv7.resolve_left (fun e => by cases e.1)
                  have e7' := Option.some.inj e7
                  have hlen7 : bs7.length = 4 := by rw [← e7']; exact hpl4
                  have hR7 : KpR w w7 M (A2.tick 0) lab7 bx mp (mp + 1) nb np (20 * k + 5 + 3 * (p + 1)) (k + 1) K2 F2 := hR2.op h7 st7 (hR2.fine.tick 0) hR2.d hR2.b hR2.p hR2.y (hbN.mono (by omega))
                  have hK7 : Knows (A2.tick 0) nb np K2 := hK2
                  have hC7 : Counts (A2.tick 0) nb np F2 := hC2
                  have hne1 : g7 ≠ bx := by have := lt_of_heap hR2.obx; omega
                  have hne2 : g7 ≠ mp := by have := hR2.mpLt; omega
                  have hne3 : g7 ≠ mp + 1 := by have := hR2.gnLt; omega
                  have hgw : w.heap.size ≤ g7 := Nat.le_trans hR2.st.size hg7
                  have hI : I64 (kp : Int) := by unfold I64; omega
                  have hlk := hR7.kn.look hI
                  have z2 : w7.cell? ⟨bx, 2, none⟩ = some (num np) := (At.of_row (o := 2) hR7.obx rfl).1
                  have hcv : ∀ n, (convert 35 9 (.slice (some ⟨g7, 0, none⟩) bs7.length bs7.length)).run Try.prog (w7.drewN n) = .ok (.string (strB bs7)) (w7.drewN n)   := fun n => conv_ok (w := w7.drewN n) (Src.of_heap (Src.of_row hr7 hle7) rfl) bs7.length
                  rw [hlen7] at hcv
                  rw [hlen7]
                  have hx0 : w7.cell? ⟨g7, 0, none⟩ = some (.int .u8 (nth bs7 0 : Nat)) := by rw [cell_row hr7, valsB_at (by omega)]
                  have hz0 : w7.frozen? ⟨g7, 0, none⟩ = false := frozen_row hr7
                  have hnxt := (hR7.nx b hbn).1
                  have HNx : Hid (∀ n, Calls Try.prog 19 #[ptr M.a 0, num 0, num b] (w7.drewN n) fun e w' => e = .returned (num (F2 b)) ∧ w' = w7.drewN n) := fun n => by
                    have := next_ok (h7.drewN n) 0 b (by show 0 < A2.D; rw [hR2.d]; decide) (by show b < A2.B; rw [hR2.b]; exact hbn)
                    rw [show ((A2.tick 0).blk 0 b).next = F2 b from hcn] at this
                    exact this
                  have em : (b : Int) * (np : Int) = (kb : Int) := HKb.out
                  have em2 : (kb : Int) + (p : Int) = (kp : Int) := by omega
                  clear hkpe
                  have hb1 : (F2 b != F2 b) = false := by simp
                  have HSet : Hid (∀ n v, KpR w ((w7.drewN n).setCell ⟨g7, 0, none⟩ v) M (A2.tick 0) lab7 bx mp (mp + 1) nb np (20 * k + 5 + 3 * (p + 1)) (k + 1) K2 F2) := fun n v => (hR7.more (grownBy_drewN (World.grownBy.refl _ _) n)).set hl7 hne1 hne2 hne3 hgw
                  cases hkp : K2 (kp : Int) with
                  | none =>
                    have hpp : bs7 = List.replicate 4 255 := by rw [← e7', ← hkey, hkp]; rfl
                    have hwv : wantV K2 (kp : Int) = .string ⟨#[]⟩ := by unfold wantV; rw [hkp]
                    rw [hwv, hkp] at hlk
                    rw [hpp, str_ff] at hcv
                    clear hwv hkp hpp hkey e7 e7' hle7 hr7 hv7 HE hbN hR2 hC2 hK2 st7 hR7
                    go_wp2_with fail
                    go_quiet ((go_at_call 19; exact Calls.quiet_of_same (HNx.out _)))
                    go_wp2_with fail
                    exact ⟨⟨p + 1, _, _, by omega, congrArg (Value.int .i64) (by omega), HSet.out _ _, hK7, hC7⟩, by show np - ((p : Int) + 1).toNat < np - (p : Int).toNat; omega⟩
                  | some bk =>
                    have hpp : bs7 = bk := by rw [← e7', ← hkey, hkp]; rfl
                    have hwv : wantV K2 (kp : Int) = .string (strB bk) := by unfold wantV; rw [hkp]
                    rw [hwv, hkp] at hlk
                    rw [hpp] at hcv
                    clear hwv hkp hpp hkey e7 e7' hle7 hr7 hv7 HE hbN hR2 hC2 hK2 st7 hR7
                    go_wp2_with fail
                    go_quiet ((go_at_call 19; exact Calls.quiet_of_same (HNx.out _)))
                    go_wp2_with fail
                    exact ⟨⟨p + 1, _, _, by omega, congrArg (Value.int .i64) (by omega), HSet.out _ _, hK7, hC7⟩, by show np - ((p : Int) + 1).toNat < np - (p : Int).toNat; omega⟩
                · have m1 : ¬ (p : Int) < (np : Int) := by omega
                  go_wp2_with fail
                  exact ⟨⟨k + 1, _, _, _, _, by omega, congrArg (Value.int .i64) (by omega), hR2.loose (by omega) (by omega), hK2, hC2⟩, by show 60 - ((k : Int) + 1).toNat < 60 - (k : Int).toNat; omega⟩
    · by_cases h1 : (k : Int) < (len : Int)
      · have h2 : ¬ (k : Int) < 60 := by omega
        go_wp2
        go_ret
        exact ⟨rfl, hR.st.grownBy⟩
      · go_wp2
        go_ret
        exact ⟨rfl, hR.st.grownBy⟩
end Nd
end Go.Proofs.Ytojamicakkecbaa
