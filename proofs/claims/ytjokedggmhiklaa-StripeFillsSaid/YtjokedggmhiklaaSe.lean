/- Layer 6 (stripe): the walk of rowsAt. -/
import Derived.Test.YtjokedggmhiklaaSd
namespace Go.Proofs.Ytjokedggmhiklaa
open Go.RowKit Go.Maps
namespace Sp
set_option maxHeartbeats 6400000 in
set_option maxRecDepth 4000 in
theorem rowsAt_ok {w : World} {K : Nat → Prop} {v : Value} {n : Nat} {xs : Nat → Leaf} (h : LeavesM w K v n xs) (hn : n ≤ 2932031007402) (i : Nat) (hi : ∀ a, a < n → i < (xs a).n ∧ i < (xs a).m ∧ SlotMay ((xs a).slot i)) :
    Calls Try.prog 26 #[v, num i] w fun e w' => ∃ nv sv, e = .returned (.tuple #[nv, sv]) ∧ w.grownBy w' none ∧ NumRowsM w' All nv n (fun a => numsOf ((xs a).slot i)) ∧ SecsM w' (fun g => K g ∨ w.heap.size ≤ g) sv n (fun a => (xs a).sec i) := by
  obtain ⟨ao, cap, rfl, s1, s2, _⟩ := id h
  have hm1 := fun w => make_numrows w n hn
  have hm2 := fun w => make_secrows w n hn
  have n1 : (n : Int) ≤ 2932031007402 := by omega
  go_enter Try.func26, Try.ntmps26
  go_upto_region 1 with fail
  go_cut [6, 7] (fun a b wx => ∃ gn gs, a = .slice (some ⟨gn, 0, none⟩) n n ∧ b = .slice (some ⟨gs, 0, none⟩) n n ∧ RowsRel w wx K gn gs n 0 i xs)
  case first =>
    go_region
    all_goals
      go_wp2_with fail
      go_meet
      first | exact ⟨_, _, rfl, rfl, rows_start1 w K n i xs⟩ | exact ⟨_, _, rfl, rfl, rows_start2 w K n i xs⟩
  case rest =>
    obtain ⟨gn, gs, rfl, rfl, hR⟩ := hcut
    clear hm1 hm2
    go_wp2_with fail
    go_loopw [18] (fun j wr => ∃ k : Nat, k ≤ n ∧ j = num k ∧ RowsRel w wr K gn gs n k i xs) (fun j _ => n - (intOf j).toNat)
    case atStart => exact ⟨0, Nat.zero_le _, rfl, hR⟩
    case round =>
      clear hR
      obtain ⟨k, hk, rfl, hR⟩ := hrel
      by_cases hkn : k < n
      · have q1 : (k : Int) < (n : Int) := by omega
        obtain ⟨g, off, rfl, _, _, _, hat⟩ := (LeavesM.kept (.of_grown hR.grown) h.lo).at hkn
        obtain ⟨sv, bv, d1, d2, hL⟩ := hat k hkn
        obtain ⟨l1, l2, hm⟩ := hi k hkn
        obtain ⟨sa, sc, rfl, t1, t2, _⟩ := id hL.sl
        obtain ⟨ba, bc, rfl, t3, t4, _⟩ := id hL.se
        obtain ⟨g1, o1, rfl, hK1, _, _, hs⟩ := hL.sl.at l1
        have hsl := hs i l1
        obtain ⟨g2, o2, rfl, hK2, _, _, hc⟩ := hL.se.at l2
        obtain ⟨u, u1, u2⟩ := hc i l2
        obtain ⟨ua, uc, rfl, _, _⟩ := u2.len
        simp only [Nat.mul_one] at u1
        obtain ⟨ul, hul⟩ : ∃ ul, ul = ((xs k).sec i).length := ⟨_, rfl⟩
        rw [← hul] at u1 u2
        have hsi := hL.si i l1
        obtain ⟨W, hW⟩ : ∃ W, W = wr.alloc (leafL (.slice (some ⟨g1, o1, none⟩) (xs k).n sc) (.slice (some ⟨g2, o2, none⟩) (xs k).m bc)) := ⟨_, rfl⟩
        have hgW : wr.grownBy W none := by rw [hW]; exact World.grownBy_alloc wr _ none
        have hbx : W.heap[wr.heap.size]? = some (leafL (.slice (some ⟨g1, o1, none⟩) (xs k).n sc) (.slice (some ⟨g2, o2, none⟩) (xs k).m bc)) := by rw [hW]; exact heap_alloc_new wr _
        have hKW := Kept.of_grown (K := All) hgW
        have HS0 : Hid (RdS W.drew wr.heap.size (.slice (some ⟨g1, o1, none⟩) (xs k).n sc) (.slice (some ⟨g2, o2, none⟩) (xs k).m bc) g1 (o1 + i * 3) ((xs k).slot i) g2 (o2 + i) (.slice ua ul uc)) :=
          ⟨cell_at hbx rfl, cell_at hbx rfl, hKW.cell trivial hsl.key, hKW.cell trivial hsl.st, hKW.cell trivial hsl.seq, hKW.cell trivial u1⟩
        have HNum : Hid (∀ w5 : World, W.drew.grownBy w5 none → Calls Try.prog 33 #[.agg #[q32 ((xs k).slot i).key, num ((xs k).slot i).state, q64 ((xs k).slot i).seq]] w5 fun e w' => e = .returned (.slice (some ⟨w5.heap.size + 1, 0, none⟩) 3 3) ∧ w5.grownBy w' none ∧ (∃ v, w'.cell? ⟨gn, k, none⟩ = some v) ∧ w'.frozen? ⟨gn, k, none⟩ = false ∧ (∃ v, w'.cell? ⟨gs, k, none⟩ = some v) ∧ w'.frozen? ⟨gs, k, none⟩ = false ∧
            RowsRel w ((w'.setCell ⟨gn, k, none⟩ (.slice (some ⟨w5.heap.size + 1, 0, none⟩) 3 3)).setCell ⟨gs, k, none⟩ (.slice ua ul uc)) K gn gs n (k + 1) i xs) := fun w5 hg5 => by
          refine (numbers_ok hsi hm w5).mono ?_
          rintro e w6 ⟨rfl, hg6, hb6⟩
          have hgd : wr.grownBy w6 none := grownBy_trans (grownBy_trans (grownBy_drew hgW) hg5) hg6
          have on6 := (hR.on.of_heap (hgd.block gn hR.on.lt (by simp))).at hkn
          have os6 := (hR.os.of_heap (hgd.block gs hR.os.lt (by simp))).at hkn
          exact ⟨rfl, hg6, on6.1, on6.2, os6.1, os6.2, hR.next hkn hgd hsi hm (by have := hgW.size; have := hg5.size; have e : W.drew.heap.size = W.heap.size := rfl; omega) hb6 (u2.kept (.of_grown hgd))⟩
        have hne := hR.ne
        have hne' := hR.ne.symm
        have i1 : (i : Int) < ((xs k).n : Int) := by omega
        have i2 : (i : Int) < ((xs k).m : Int) := by omega
        have Hw : Hid _ := hW
        have N1 : Hid (wr.heap.size ≠ gn ∧ g1 ≠ gn ∧ g2 ≠ gn) := ⟨by have := hR.on.lt; omega, by have := hK1.2; have := hR.gen; omega, by have := hK2.2; have := hR.gen; omega⟩
        have N2 : Hid (wr.heap.size ≠ gs ∧ g1 ≠ gs ∧ g2 ≠ gs) := ⟨by have := hR.os.lt; omega, by have := hK1.2; have := hR.ges; omega, by have := hK2.2; have := hR.ges; omega⟩
        clear hs hc hul u2 hL hat hR hW hsl hgW hbx hKW hsi hm
        go_wp2_with (rw [← Hw.out])
        generalize (xs k).slot i = s at HS0 HNum
        go_region_held3 (fun w' => w'.cell? ⟨wr.heap.size, 0, none⟩ = some (.slice (some ⟨g1, o1, none⟩) (xs k).n sc) ∧ w'.cell? ⟨wr.heap.size, 1, none⟩ = some (.slice (some ⟨g2, o2, none⟩) (xs k).m bc) ∧ w'.cell? ⟨g1, o1 + i * 3, none⟩ = some (q32 s.key) ∧ w'.cell? ⟨g1, o1 + i * 3 + 1, none⟩ = some (num s.state) ∧ w'.cell? ⟨g1, o1 + i * 3 + 2, none⟩ = some (q64 s.seq) ∧ w'.cell? ⟨g2, o2 + i, none⟩ = some (.slice ua ul uc)) (first | assumption | exact HS0.out | exact rd_grown ‹_› ‹_› | exact rd_set ‹_› N1.out | exact rd_set (rd_set ‹_› N1.out) N2.out | exact rd_set (rd_grown HS0.out ‹_›) N1.out | exact rd_set (rd_set (rd_grown HS0.out ‹_›) N1.out) N2.out)
          (first | (go_at_call 33; refine (HNum.out _ (by first | assumption | exact grownBy_refl _ _)).mono ?_; rintro e w6 ⟨rfl, hg6, ⟨v1, y1⟩, y2, ⟨v2, y3⟩, y4, hR6⟩))
        all_goals
          have HR6 : Hid _ := hR6
          clear hR6 HNum HS0 y1 y2 y3 y4 hg6 N1 N2
          go_wp2
          go_roundw
          case rel => exact ⟨k + 1, by omega, by go_num, HR6.out⟩
          case measure => simp [intOf]; omega
      · obtain rfl : k = n := by omega
        have q1 : ¬ (k : Int) < (k : Int) := by omega
        obtain ⟨r1, r2⟩ := hR.done hn
        have HR1 : Hid _ := r1
        have HR2 : Hid _ := r2
        have HG : Hid _ := hR.grown
        clear hR r1 r2
        go_wp2
        go_ret2
        exact ⟨_, _, rfl, HG.out, HR1.out, HR2.out⟩
end Sp
end Go.Proofs.Ytjokedggmhiklaa
