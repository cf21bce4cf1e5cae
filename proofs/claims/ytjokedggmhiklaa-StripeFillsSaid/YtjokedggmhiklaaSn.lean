/- Layer 6 (stripe): the walk of right. -/
import Derived.Test.YtjokedggmhiklaaSm
import Derived.Deep.CutBlock
namespace Go.Proofs.Ytjokedggmhiklaa
open Go.RowKit Go.Maps
namespace Sp
theorem info32 : (Try.prog.info? 32).map (fun i => (i.zero, i.size, i.bytes)) = some (some (.agg #[nilS, nilS]), 2, 48) := by kernel_rfl
theorem info53' : (Try.prog.info? 53).map (fun i => (i.zero, i.size, i.bytes)) = some (some (.agg #[.int .u32 0, num 0, .int .u64 0]), 3, 24) := by kernel_rfl
def RightPost (w : World) (S N n : Nat) (raw : Nat → Leaf) (e : Ending) (w' : World) : Prop :=
  ∃ v, e = .returned v ∧ w.grownBy w' none ∧ LeavesM w' (fun g => w.heap.size ≤ g) v (min n 12) (rightS S N raw)
set_option maxHeartbeats 12800000 in
set_option maxRecDepth 4000 in
theorem right_ok {w : World} {K : Nat → Prop} {v : Value} {n : Nat} {raw : Nat → Leaf} (h : LeavesM w K v n raw) (S N : Nat) (hS : S ≤ 256) (hN1 : 1 ≤ N) (hN : N ≤ 8) (T : Int) :
    Calls Try.prog 19 #[layV S N T, v] w (RightPost w S N n raw) := by
  obtain ⟨ao, cap, rfl, s1, s2, _⟩ := id h
  obtain ⟨i32, hi, hz0, hz1, hz2⟩ := info_parts info32
  obtain ⟨i53, hi', hz0', hz1', hz2'⟩ := info_parts info53'
  obtain ⟨i49, hi'', hz0'', hz1'', hz2''⟩ := info_parts info49
  have n1 : (n : Int) ≤ 9223372036854775807 := by omega
  have S1 : (S : Int) ≤ 256 := by omega
  have N1 : (N : Int) ≤ 8 := by omega
  obtain ⟨W, hW⟩ : ∃ W, W = w.alloc (layL S N T) := ⟨_, rfl⟩
  have hgW : w.grownBy W none := by rw [hW]; exact World.grownBy_alloc w _ none
  have hb1 : W.heap[w.heap.size]? = some (layL S N T) := by rw [hW]; exact heap_alloc_new w _
  have HC : Hid (∀ wr, w.grownBy wr none → W.grownBy wr none → wr.cell? ⟨w.heap.size, 0, none⟩ = some (num (S : Int)) ∧ wr.cell? ⟨w.heap.size, 1, none⟩ = some (num (N : Int))) := fun wr _ hg => by
    have e1 := (hg.block _ (lt_of_heap hb1) (by simp)).trans hb1
    exact ⟨cell_at e1 rfl, cell_at e1 rfl⟩
  have Hw : Hid _ := hW
  have hWs : W.heap.size = w.heap.size + 1 := by rw [hW]; simp
  clear hW hb1
  go_enter Try.func19, Try.ntmps19
  go_wp2_with (rw [← Hw.out])
  go_loopw [5, 6] (fun o i wr => ∃ (k : Nat) (s b : Nat → Value), k ≤ min n 12 ∧ i = num k ∧ W.grownBy wr none ∧ wr.ownsRow W.heap.size 32 2 o k (flat k (twoE s b)) ∧ ∀ a, a < k → LeafM wr (KT wr W.heap.size) (s a) (b a) (rightS S N raw a)) (fun _ i _ => min n 12 - (intOf i).toNat)
  case atStart => exact ⟨0, fun _ => nilS, fun _ => nilS, Nat.zero_le _, rfl, grownBy_refl _ _, World.ownsRow_nil _ _ _ _, fun a ha => by omega⟩
  case round =>
    clear Hw
    obtain ⟨k, s, b, hk, rfl, hg, hown, hall⟩ := hrel
    by_cases hkn : k < n ∧ k < 12
    · obtain ⟨t1, t2⟩ := hkn
      have q1 : (k : Int) < (n : Int) := by omega
      have q2 : (k : Int) < 12 := by omega
      have q2' : decide ((k : Int) < 12) = true := by simpa using q2
      have q1' : decide ((k : Int) < (n : Int)) = true := by simpa using q1
      have HO : Hid _ := hown
      have HA : Hid _ := hall
      have hgr := grownBy_trans hgW hg
      obtain ⟨V, hV⟩ : ∃ V, V = wr.alloc (leafL nilS nilS) := ⟨_, rfl⟩
      have hgV : wr.grownBy V none := by rw [hV]; exact World.grownBy_alloc wr _ none
      have hbx : V.heap[wr.heap.size]? = some (leafL nilS nilS) := by rw [hV]; exact heap_alloc_new wr _
      have hL0 : LeafRel wr V wr.heap.size 0 (rightS S N raw k) nilS nilS (fun _ => nilS) := ⟨hgV, hbx, Nat.le_refl _, World.ownsRow_nil _ _ _ _, World.ownsRow_nil _ _ _ _, fun a ha => by omega⟩
      have Hv : Hid _ := hV
      have hlx : ∀ wx, wr.grownBy wx none → wx.cell? ⟨w.heap.size, 0, none⟩ = some (num (S : Int)) ∧ wx.cell? ⟨w.heap.size, 1, none⟩ = some (num (N : Int)) := fun wx hgx => HC.out wx (grownBy_trans hgr hgx) (grownBy_trans hg hgx)
      have HLx : Hid _ := hlx
      -- the raw leaf
      obtain ⟨g, off, rfl, _, _, _, hat⟩ := (LeavesM.more h hgr).at t1
      obtain ⟨sv, bv, d1, d2, hLf⟩ := hat k t1
      obtain ⟨sa, sc, rfl, u1, u2, _⟩ := id hLf.sl
      obtain ⟨ba, bc, rfl, u3, u4, _⟩ := id hLf.se
      have HLf : Hid _ := hLf
      have HD : Hid (wr.cell? ⟨g, off + k * 2, none⟩ = some (.slice sa (raw k).n sc) ∧ wr.cell? ⟨g, off + k * 2 + 1, none⟩ = some (.slice ba (raw k).m bc)) := ⟨d1, d2⟩
      clear hV hbx hgV hown hall hat hLf d1 d2 hlx
      obtain ⟨wo, rfl⟩ : ∃ wo : World, wo = wr := ⟨_, rfl⟩
      have HDx : Hid (∀ wx, wo.grownBy wx none → wx.cell? ⟨g, off + k * 2, none⟩ = some (.slice sa (raw k).n sc) ∧ wx.cell? ⟨g, off + k * 2 + 1, none⟩ = some (.slice ba (raw k).m bc)) := fun wx hgx => ⟨(Kept.of_grown (K := All) hgx).cell trivial HD.out.1, (Kept.of_grown (K := All) hgx).cell trivial HD.out.2⟩
      go_wp2_with (rw [← Hv.out])
      go_loopw [8] (fun j wr => ∃ (m : Nat) (xs xb : Value) (u : Nat → Value), m ≤ N ∧ j = num m ∧ LeafRel wo wr wo.heap.size m (rightS S N raw k) xs xb u) (fun j _ => N - (intOf j).toNat)
      case atStart => exact ⟨0, _, _, _, Nat.zero_le _, rfl, hL0⟩
      case round =>
        clear hL0 Hv
        obtain ⟨m, xs, xb, u, hm, rfl, hR⟩ := hrel
        obtain ⟨l0, l1⟩ := HLx.out wr hR.grown
        by_cases hmN : m < N
        · have p1 : (m : Int) < (N : Int) := by omega
          have hwk : IntKind.u32.wrap (k : Int) = k := by rw [IntKind.wrap_u32]; omega
          obtain ⟨d1, d2⟩ := HDx.out wr hR.grown
          have hgl := lt_of_cell d1
          have hR' : Hid _ := hR
          clear hR
          go_upto_if 38 with fail
          go_cut [] (fun wx => wr.grownBy wx none ∧ wx.heap[wr.heap.size]? = some (.cells #[q32 (rightSlot k (raw k) m).key, num (rightSlot k (raw k) m).state, q64 (rightSlot k (raw k) m).seq] 53))
          case first =>
            by_cases hmn : m < (raw k).n
            · have p2 : (m : Int) < ((raw k).n : Int) := by omega
              have HE : Hid (rightSlot k (raw k) m = ⟨((raw k).slot m).key, ((absS ((raw k).slot m).state % 4 : Nat) : Int), ((raw k).slot m).seq % 281474976710656⟩) := by simp [Hid, rightSlot, hmn]
              have hsi := HLf.out.si m hmn
              obtain ⟨g1, o1, rfl, _, _, _, hs⟩ := (HLf.out.sl.more hR'.out.grown).at hmn
              obtain ⟨y0, y1, y2⟩ := hs m hmn
              have hgl1 := lt_of_cell y0
              generalize (raw k).slot m = sl at y0 y1 y2 hsi HE
              obtain ⟨ky, st, sq⟩ := sl
              simp only at y0 y1 y2
              have HAb : Hid (∀ w, Calls Try.prog 23 #[num st] w fun e w' => e = .returned (num (absS st)) ∧ w' = w) := fun w => abs_ok st hsi.st w
              have hsI : I64 st := hsi.st
              clear hs hsi
              have ha := absS_le hsI
              obtain ⟨A, hA⟩ : ∃ A : Nat, A = absS st := ⟨_, rfl⟩
              rw [← hA] at HAb HE ha
              have ha' : (A : Int) ≤ 9223372036854775807 := by omega
              have HQ : Hid ((A : Int) % 4 = ((A % 4 : Nat) : Int)) := by rw [Hid]; omega
              have HQ2 : Hid ((sq : Int) % 281474976710656 = ((sq % 281474976710656 : Nat) : Int)) := by rw [Hid]; omega
              have HG1 : Hid (wr.grownBy (wr.alloc (.cells #[q32 ky, num ((A % 4 : Nat) : Int), q64 (sq % 281474976710656)] 53)) none ∧ (wr.alloc (.cells #[q32 ky, num ((A % 4 : Nat) : Int), q64 (sq % 281474976710656)] 53)).heap[wr.heap.size]? = some (.cells #[q32 ky, num ((A % 4 : Nat) : Int), q64 (sq % 281474976710656)] 53)) := ⟨World.grownBy_alloc wr _ none, heap_alloc_new wr _⟩
              clear hA ha
              go_wp2_with fail
              refine (HAb.out _).mono ?_
              rintro e wx ⟨rfl, rfl⟩
              go_wp2
              go_meet
              rw [HE.out, HQ.out, HQ2.out]
              exact HG1.out
            · have p2 : ¬ (m : Int) < ((raw k).n : Int) := by omega
              have HE : Hid (rightSlot k (raw k) m = ⟨k, 1, 0⟩) := by simp [Hid, rightSlot, hmn]
              go_wp2
              go_meet
              rw [HE.out]
              exact ⟨World.grownBy_alloc wr _ none, heap_alloc_new wr _⟩
          case rest =>
            obtain ⟨hg1, hs1⟩ := hcut
            obtain ⟨wb, rfl⟩ : ∃ wb : World, wb = wc := ⟨_, rfl⟩
            clear d1 d2 l0 l1 hgl
            have hR2 := hR'.out.more hg1
            obtain ⟨l0, l1⟩ := HLx.out wb hR2.grown
            have hmk := make_8 wb S (by omega)
            obtain ⟨V2, hV2⟩ : ∃ V2, V2 = wb.alloc (.cells (vals8 (List.replicate S 0)).toArray 5) := ⟨_, rfl⟩
            rw [← hV2] at hmk
            have hgV2 : wb.grownBy V2 none := by rw [hV2]; exact World.grownBy_alloc wb _ none
            have hby : V2.heap[wb.heap.size]? = some (.cells (vals8 (front S 0 (rightSrc (raw k) m))).toArray 5) := by rw [hV2, front_zero]; exact heap_alloc_new wb _
            have hR3 := hR2.more hgV2
            have hs3 : V2.heap[wr.heap.size]? = some (.cells #[q32 (rightSlot k (raw k) m).key, num (rightSlot k (raw k) m).state, q64 (rightSlot k (raw k) m).seq] 53) := (hgV2.block _ (lt_of_heap hs1) (by simp)).trans hs1
            have HSl : Hid _ := hs3
            have HR3 : Hid _ := hR3
            have HLe : Hid (wr.heap.size < wb.heap.size ∧ wo.heap.size ≤ wr.heap.size) := ⟨lt_of_heap hs1, hR'.out.grown.size⟩
            have HR2 : Hid _ := hR2
            have HS1 : Hid _ := hs1
            have HGV : Hid _ := hgV2
            clear hR2 hV2 hs1 hg1 hs3 hR3 hgV2
            have HWx : Hid (∀ wx, V2.grownBy wx (some wb.heap.size) → wo.grownBy wx none) := fun wx hgx => grown_new HR3.out.grown hgx (by have := HLe.out; omega)
            go_upto_block 4 with fail
            go_cut [] (fun wx => V2.grownBy wx (some wb.heap.size) ∧ wx.heap[wb.heap.size]? = some (.cells (vals8 (rightSec S (raw k) m)).toArray 5))
            case first =>
              go_wp2_with fail
              go_loopw [11] (fun j wr => ∃ t : Nat, t ≤ S ∧ j = num t ∧ V2.grownBy wr (some wb.heap.size) ∧ wr.heap[wb.heap.size]? = some (.cells (vals8 (front S t (rightSrc (raw k) m))).toArray 5)) (fun j _ => S - (intOf j).toNat)
              case atStart => exact ⟨0, Nat.zero_le _, rfl, grownBy_refl _ _, hby⟩
              case round =>
                clear hby hmk l0 l1
                obtain ⟨t, ht, rfl, hgt, hrow⟩ := hrel
                have hgo := HWx.out wr hgt
                obtain ⟨l0, l1⟩ := HLx.out wr hgo
                obtain ⟨d1, d2⟩ := HDx.out wr hgo
                by_cases htS : t < S
                · have v1 : (t : Int) < (S : Int) := by omega
                  have v1' : decide ((t : Int) < (S : Int)) = true := by simpa using v1
                  by_cases hmm : m < (raw k).m
                  · have v2 : (m : Int) < ((raw k).m : Int) := by omega
                    have v2' : decide ((m : Int) < ((raw k).m : Int)) = true := by simpa using v2
                    have HSrc : Hid (rightSrc (raw k) m = (raw k).sec m) := by simp [Hid, rightSrc, hmm]
                    obtain ⟨g2, o2, rfl, _, _, _, hs⟩ := (HLf.out.se.more hgo).at hmm
                    obtain ⟨bvv, e1, e2⟩ := hs m hmm
                    obtain ⟨va, vc, rfl, _, _⟩ := e2.len
                    simp only [Nat.mul_one] at e1
                    rw [HSrc.out] at hrow
                    by_cases htl : t < ((raw k).sec m).length
                    · have v3 : (t : Int) < (((raw k).sec m).length : Int) := by omega
                      obtain ⟨g3, o3, rfl, _, _, _, hs3⟩ := e2.2.at htl
                      have e3 := hs3 t htl
                      simp only [Nat.mul_one] at e3
                      have r1 : wr.cell? ⟨wb.heap.size, t, none⟩ = some (q8 (nth (front S t ((raw k).sec m)) t)) := cell_at hrow (by rw [List.getElem?_toArray]; exact vals8_at (by rw [front_len]; exact htS))
                      have r2 := free_at (o := t) hrow
                      have HX : Hid (∀ wx, wx = wr.setCell ⟨wb.heap.size, t, none⟩ (q8 (nth ((raw k).sec m) t)) → V2.grownBy wx (some wb.heap.size) ∧ wx.heap[wb.heap.size]? = some (.cells (vals8 (front S (t + 1) (rightSrc (raw k) m))).toArray 5)) := fun wx hx => by
                        subst hx
                        refine ⟨grownBy_trans hgt ⟨rfl, rfl, rfl, by simp [World.setCell], fun i _ hi => setCell_else (fun e => hi (by rw [e])) _⟩, ?_⟩
                        have := setCell_row (i := t) hrow (q8 (nth ((raw k).sec m) t))
                        rw [HSrc.out]
                        rwa [vals8_set, front_next htS] at this
                      clear hs hs3 e2 hrow hgt hgo
                      generalize nth (front S t ((raw k).sec m)) t = OLD at r1
                      generalize nth ((raw k).sec m) t = BY at e3 HX
                      generalize ((raw k).sec m).length = LL at e1 v3
                      go_wp2
                      go_roundw
                      case rel => exact ⟨t + 1, by omega, by go_num, HX.out _ rfl⟩
                      case measure => simp [intOf]; omega
                    · have v3 : ¬ (t : Int) < (((raw k).sec m).length : Int) := by omega
                      have HX : Hid (front S t ((raw k).sec m) = rightSec S (raw k) m) := by rw [Hid, rightSec, HSrc.out]; exact front_all (.inr (by omega))
                      rw [HX.out] at hrow
                      have HF : Hid _ := hrow
                      have HGt : Hid _ := hgt
                      clear hs e2 hrow hgt hgo
                      generalize ((raw k).sec m).length = LL at e1 v3
                      go_wp2
                      go_meet
                      exact ⟨HGt.out, HF.out⟩
                  · have v2 : ¬ (m : Int) < ((raw k).m : Int) := by omega
                    have v2' : decide ((m : Int) < ((raw k).m : Int)) = false := by simpa using v2
                    have HX : Hid (front S t (rightSrc (raw k) m) = rightSec S (raw k) m) := by
                      have : rightSrc (raw k) m = [] := by simp [rightSrc, hmm]
                      rw [Hid, rightSec, this]; exact front_all (.inr (by simp))
                    rw [HX.out] at hrow
                    have HF : Hid _ := hrow
                    have HGt : Hid _ := hgt
                    clear hrow hgt hgo
                    go_wp2
                    go_meet
                    exact ⟨HGt.out, HF.out⟩
                · have v1 : ¬ (t : Int) < (S : Int) := by omega
                  have v1' : decide ((t : Int) < (S : Int)) = false := by simpa using v1
                  have HX : Hid (front S t (rightSrc (raw k) m) = rightSec S (raw k) m) := by rw [Hid, rightSec]; exact front_all (.inl (by omega))
                  rw [HX.out] at hrow
                  have HF : Hid _ := hrow
                  have HGt : Hid _ := hgt
                  clear hrow hgt hgo
                  go_wp2
                  go_meet
                  exact ⟨HGt.out, HF.out⟩
            case rest =>
              obtain ⟨hgt, hrow⟩ := hcut
              clear hby hmk l0 l1
              have hgc : wb.grownBy wc none := grown_new HGV.out hgt (Nat.le_refl _)
              have hRc := HR2.out.more hgc
              have hsc := (hgc.block _ (lt_of_heap HS1.out) (by simp)).trans HS1.out
              have hbyte : BytesM wc (K5 wc wo.heap.size) (sl0 wb.heap.size S) (rightSec S (raw k) m) := by
                refine ⟨fun i => nth_front_le (fun j => ?_) i, _, S, by rw [rightSec, front_len], by rw [rightSec, front_len]; exact Nat.le_refl _, by omega, .inr ⟨wb.heap.size, 0, rfl, ⟨by have := HLe.out; omega, _, hrow⟩, fun j hj => cell_at hrow ?_⟩⟩
                · unfold rightSrc
                  split
                  · rename_i hmm
                    obtain ⟨ba', bc', _, _⟩ := id HLf.out.se
                    obtain ⟨_, _, _, _, _, _, hs⟩ := HLf.out.se.at hmm
                    obtain ⟨_, _, e2⟩ := hs m hmm
                    exact e2.1 j
                  · simp [nth]
                · rw [Nat.zero_add, Nat.mul_one, List.getElem?_toArray]
                  exact vals8_at hj
              have s0 := cell_at (o := 0) hsc rfl
              have s1 := cell_at (o := 1) hsc rfl
              have s2 := cell_at (o := 2) hsc rfl
              have b0 : wc.cell? ⟨wo.heap.size, 0, none⟩ = some xs := cell_at hRc.box rfl
              obtain ⟨V3, hV3⟩ : ∃ V3, V3 = wc.alloc (.cells #[q32 (rightSlot k (raw k) m).key, num (rightSlot k (raw k) m).state, q64 (rightSlot k (raw k) m).seq] 53) := ⟨_, rfl⟩
              have hgV3 : wc.grownBy V3 none := by rw [hV3]; exact World.grownBy_alloc wc _ none
              have hRV := hRc.more hgV3
              have HNews : Hid (∀ j z, (slotsE (rightS S N raw k).slot m)[j]? = some z → V3.cell? ((⟨wc.heap.size, 0, none⟩ : Addr).add j) = some z) := by rw [hV3]; exact cell_three wc _ _ _ _
              have HRV : Hid _ := hRV
              have HOs : Hid _ := hRV.os
              have HBy : Hid _ := hbyte.k5more hgV3
              have HB3 : Hid (V3.heap[wb.heap.size]? = some (.cells (vals8 (rightSec S (raw k) m)).toArray 5)) := (hgV3.block _ (lt_of_heap hrow) (by simp)).trans hrow
              have HSz : Hid (wo.heap.size ≤ V3.heap.size) := hRV.grown.size
              have Hv3 : Hid _ := hV3
              have m1 : m + 1 ≤ 9 := by omega
              clear hrow hgt hgc hRc hsc hbyte hV3 hgV3 hRV
              go_upto_region 20 with (first | (rw [← Hv3.out]) | (at_builtin; refine wpList_append_own _ rfl (.tmp 103) (.tmp 105) 29 rfl wo.heap.size 53 i53 (.agg #[.int .u32 0, num 0, .int .u64 0]) 3 24 Try.underlying29 hi' hz0' hz1' hz2' rfl (by decide) xs m (flat m (slotsE (rightS S N raw k).slot)) rfl HOs.out ⟨wc.heap.size, 0, none⟩ 1 1 (slotsE (rightS S N raw k).slot m) rfl rfl HNews.out (by intro z hz; simp [slotsE] at hz; rcases hz with rfl | rfl | rfl <;> rfl) (by unfold maxLen; omega) (by omega) HSz.out ?_; intro v1 w1 ho1 hg1 _; obtain ⟨ga, ca, rfl, C1, F1, HB1⟩ := HRV.out.slot' hg1 ho1))
              obtain ⟨w2, hw2⟩ : ∃ w2, w2 = w1.setCell ⟨wo.heap.size, 0, none⟩ (.slice (some ⟨ga, 0, none⟩) (m + 1) ca) := ⟨_, rfl⟩
              have hB1 := HB1.out
              rw [← hw2] at hB1 ⊢
              obtain ⟨B1, B2, B3, B4, B5, B6⟩ := hB1
              have hby2 : BytesM w2 (K5 w2 wo.heap.size) (sl0 wb.heap.size S) (rightSec S (raw k) m) := K5_bytes HBy.out fun g hk => by
                obtain ⟨_, L, a2⟩ := hk
                refine B6 g (fun e => ?_) (own_not_type HOs.out a2 (by decide)) (lt_of_heap a2)
                rw [e, HRV.out.box] at a2
                simp only [Option.some.injEq, Obj.cells.injEq] at a2
                exact absurd a2.2.1 (by decide)
              have x1 : w2.cell? ⟨wo.heap.size, 1, none⟩ = some xb := cell_at B2 rfl
              obtain ⟨V4, hV4⟩ : ∃ V4, V4 = w2.alloc (.cells #[sl0 wb.heap.size S] 49) := ⟨_, rfl⟩
              have hgV4 : w2.grownBy V4 none := by rw [hV4]; exact World.grownBy_alloc w2 _ none
              have HN2 : Hid (∀ j z, [sl0 wb.heap.size S][j]? = some z → V4.cell? ((⟨w2.heap.size, 0, none⟩ : Addr).add j) = some z) := by rw [hV4]; exact cell_one' w2 _ _
              have HOb : Hid _ := own_more B4 hgV4
              have HE4 : Hid (∀ (v' : Value) (w1 : World), V4.grownBy w1 xb.ownBlock → w1.ownsRow wo.heap.size 49 1 v' (m + 1) (flat m (oneE u) ++ [sl0 wb.heap.size S]) → ∃ ga' ca', v' = .slice (some ⟨ga', 0, none⟩) (m + 1) ca' ∧ w1.cell? ⟨wo.heap.size, 1, none⟩ = some xb ∧ w1.frozen? ⟨wo.heap.size, 1, none⟩ = false ∧ Hid (LeafRel wo (w1.setCell ⟨wo.heap.size, 1, none⟩ v') wo.heap.size (m + 1) (rightS S N raw k) (.slice (some ⟨ga, 0, none⟩) (m + 1) ca) v' (fun a => if a = m then sl0 wb.heap.size S else u a))) := fun v' w1 hg ho =>
                LeafRel.sec' (grownBy_trans B1 hgV4) ((hgV4.block _ (lt_of_heap B2) (by simp)).trans B2) (Nat.le_refl _) (own_more B3 hgV4) HOb.out (fun a ha => (B5 a ha).k5more hgV4) (hby2.k5more hgV4) hg ho
              have HSz4 : Hid (wo.heap.size ≤ V4.heap.size) := (grownBy_trans B1 hgV4).size
              have Hv4 : Hid _ := hV4
              clear HB1 hw2 B1 B2 B3 B4 B5 B6 hby2 hV4 hgV4 C1 F1 ho1 hg1 s0 s1 s2 b0 HNews HRV HOs HBy HB3 HSz Hv3
              go_upto_region 8 with (first | (rw [← Hv4.out]) | (at_builtin; refine wpList_append_own _ rfl (.tmp 109) (.tmp 111) 30 rfl wo.heap.size 49 i49 nilS 1 24 Try.underlying30 hi'' hz0'' hz1'' hz2'' rfl (by decide) xb m (flat m (oneE u)) rfl HOb.out ⟨w2.heap.size, 0, none⟩ 1 1 [sl0 wb.heap.size S] rfl rfl HN2.out (by intro z hz; simp at hz; subst hz; rfl) (by unfold maxLen; omega) (by omega) HSz4.out ?_; intro v5 w5 ho5 hg5 _; obtain ⟨ga5, ca5, rfl, C5, F5, HB5⟩ := HE4.out _ _ hg5 ho5))
              go_wp2
              go_roundw
              case rel => exact ⟨m + 1, _, _, _, by omega, by go_num, HB5.out⟩
              case measure => simp [intOf]; omega
        · obtain rfl : m = N := by omega
          have p1 : ¬ (m : Int) < (m : Int) := by omega
          obtain ⟨xa, xc, rfl, _, _⟩ := own_len hR.os
          obtain ⟨ya, yc, rfl, _, _⟩ := own_len hR.ob
          have b0 : wr.cell? ⟨wo.heap.size, 0, none⟩ = some (.slice xa m xc) := cell_at hR.box rfl
          have b1 : wr.cell? ⟨wo.heap.size, 1, none⟩ = some (.slice ya m yc) := cell_at hR.box rfl
          obtain ⟨V6, hV6⟩ : ∃ V6, V6 = wr.alloc (leafL (.slice xa m xc) (.slice ya m yc)) := ⟨_, rfl⟩
          have hgV6 : wr.grownBy V6 none := by rw [hV6]; exact World.grownBy_alloc wr _ none
          have HNe6 : Hid (∀ j z, [Value.slice xa m xc, Value.slice ya m yc][j]? = some z → V6.cell? ((⟨wr.heap.size, 0, none⟩ : Addr).add j) = some z) := by rw [hV6]; exact cell_two' wr _ _ _
          have hg06 := grownBy_trans hR.grown hgV6
          have HO6 : Hid _ := own_more HO.out hg06
          have hsi : ∀ i, i < m → SlotI ((rightS S m raw k).slot i) := fun i _ => (rightSlot_i (by omega) HLf.out.si i).1
          have hlm := hR.done (B := W.heap.size) rfl rfl hsi hg.size
          have HLm : Hid _ := hlm.growN hgV6
          have HSz6 : Hid (W.heap.size ≤ V6.heap.size) := Nat.le_trans hg.size hg06.size
          have HAll : Hid (∀ (v' : Value) (w1 : World), V6.grownBy w1 u5.ownBlock → w1.ownsRow W.heap.size 32 2 v' (k + 1) (flat k (twoE s b) ++ [Value.slice xa m xc, Value.slice ya m yc]) → ∃ (s' b' : Nat → Value), W.grownBy w1 none ∧ w1.ownsRow W.heap.size 32 2 v' (k + 1) (flat (k + 1) (twoE s' b')) ∧ ∀ a, a < k + 1 → LeafM w1 (KT w1 W.heap.size) (s' a) (b' a) (rightS S m raw a)) := fun v' w1 hg1 ho1 => by
            refine ⟨fun a => if a = k then .slice xa m xc else s a, fun a => if a = k then .slice ya m yc else b a, own_grown HO6.out (grownBy_trans hg hg06) (Nat.le_refl _) hg1, ?_, fun a ha => ?_⟩
            · rw [flat_succ, flat_congr k (E' := twoE s b) fun a ha => by simp [twoE, show a ≠ k by omega]]
              simpa [twoE] using ho1
            · by_cases e : a = k
              · subst e
                simp only [if_pos]
                exact HLm.out.grow HO6.out hg1
              · simp only [if_neg e]
                exact ((HA.out a (by omega)).growN hg06).grow HO6.out hg1
          have Hv6 : Hid _ := hV6
          have k1 : k + 1 ≤ 13 := by omega
          clear hV6 hgV6 hg06 hR hlm hsi HLf HD HDx HC hgr
          go_upto_region 4 with (first | (rw [← Hv6.out]) | (at_builtin; refine wpList_append_own _ rfl (.tmp 114) (.tmp 116) 28 rfl W.heap.size 32 i32 (.agg #[nilS, nilS]) 2 48 Try.underlying28 hi hz0 hz1 hz2 rfl (by decide) u5 k (flat k (twoE s b)) rfl HO6.out ⟨wr.heap.size, 0, none⟩ 1 1 [Value.slice xa m xc, Value.slice ya m yc] rfl rfl HNe6.out (by intro z hz; simp at hz; rcases hz with rfl | rfl <;> rfl) (by unfold maxLen; omega) (by omega) HSz6.out ?_; intro v7 w7 ho7 hg7 _))
          obtain ⟨s', b', r1, r2, r3⟩ := HAll.out v7 w7 hg7 ho7
          have HR1 : Hid _ := r1
          have HR2 : Hid _ := r2
          have HR3 : Hid _ := r3
          clear ho7 hg7 HAll r1 r2 r3 HO6 HLm HSz6 HNe6
          go_wp2
          go_roundw
          case rel => exact ⟨k + 1, s', b', by omega, by go_num, HR1.out, HR2.out, HR3.out⟩
          case measure => simp [intOf]; omega
    · have hkm : k = min n 12 := by omega
      have HFin : Hid (LeavesM wr (fun g => w.heap.size ≤ g) u5 (min n 12) (rightS S N raw)) := by
        rw [← hkm]
        refine leaves_of_own (s := s) (b := b) hown (fun g cur h1 _ => by omega) fun a ha => (hall a ha).sub fun g hk' => by have := hk'.1; omega
      have HG : Hid _ := grownBy_trans hgW hg
      clear hown hall
      by_cases t1 : k < n
      · have q1 : (k : Int) < (n : Int) := by omega
        have q1' : decide ((k : Int) < (n : Int)) = true := by simpa using q1
        have q2 : ¬ (k : Int) < 12 := by omega
        have q2' : decide ((k : Int) < 12) = false := by simpa using q2
        clear hkm
        go_wp2
        go_ret
        exact ⟨_, rfl, HG.out, HFin.out⟩
      · have q1 : ¬ (k : Int) < (n : Int) := by omega
        have q1' : decide ((k : Int) < (n : Int)) = false := by simpa using q1
        clear hkm
        go_wp2
        go_ret
        exact ⟨_, rfl, HG.out, HFin.out⟩
end Sp
end Go.Proofs.Ytjokedggmhiklaa
