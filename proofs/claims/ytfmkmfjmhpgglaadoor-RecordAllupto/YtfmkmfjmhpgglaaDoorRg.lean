/- Layer 8 (record): the document's Parse. -/
import Derived.Test.YtfmkmfjmhpgglaaDoorRf
namespace Go.Proofs.YtfmkmfjmhpgglaaDoor
open Go.RowKit
namespace Rc
open Cr
set_option maxHeartbeats 1600000 in
theorem number_ok {w : World} (g off len cap : Nat) (l : List Nat) (hx : RdB w (some ⟨g, off, none⟩) l) (h8 : l.length = 8) (hn : 8 ≤ len) :
    Calls Tryd.prog 23 #[.slice (some ⟨g, off, none⟩) len cap] w fun e w' => e = .returned (q64 (nm l)) ∧ w' = w := by
  obtain ⟨gd, od, e', hcd⟩ := hx.2.resolve_left (fun e => by rw [e] at h8; simp at h8)
  simp at e'
  obtain ⟨rfl, rfl⟩ := e'
  go_enter Tryd.func23, Tryd.ntmps23
  go_wp2_with fail
  go_loopw [3, 4] (fun r i wr => wr = w ∧ ∃ k : Nat, k ≤ 8 ∧ i = num k ∧ r = q64 (nm (l.take k))) (fun _ i _ => 8 - (intOf i).toNat)
  case atStart => exact ⟨rfl, 0, Nat.zero_le _, rfl, rfl⟩
  case round =>
    obtain ⟨rfl, k, hk, rfl, rfl⟩ := hrel
    by_cases hlt : k < 8
    · have b1 : (k : Int) < 8 := by omega
      have b2 : (k : Int) < (len : Int) := by omega
      have o := or_step8 hx.le hlt (show k < l.length by omega)
      have ck := hcd k (by omega)
      have hbk := hx.1 k
      have sh : IntKind.u64.wrap ((nth l k : Int) * 2 ^ (8 * k)) = ((nth l k <<< (8 * k) : Nat) : Int) := by rw [IntKind.wrap_u64]; exact shl_u64 hbk hlt
      generalize nth l k = X at o ck hbk sh
      obtain ⟨N', hN⟩ : ∃ N', N' = nm (l.take (k + 1)) := ⟨_, rfl⟩
      rw [← hN] at o
      have HN := hide hN
      clear hN
      generalize nm (l.take k) = N at o ⊢
      generalize X <<< (8 * k) = Z at o sh
      have HS := hide sh
      have HO := hide o
      clear hcd h8 sh o
      go_wp2
      go_roundw
      case rel => exact ⟨trivial, k + 1, by omega, by go_num, by rw [HS.out, HO.out, HN.out]⟩
      case measure => simp [intOf]; omega
    · have hke : k = 8 := by omega
      subst hke
      have HN : Hid (nm (l.take 8) = nm l) := by rw [Hid, ← h8, List.take_length]
      clear h8 hcd
      go_wp2
      go_ret
      exact ⟨by rw [HN.out]; rfl, rfl⟩
theorem rd_cap {w : World} {base : Nat} {v : Value} {bs : List Nat} {n : Nat} (h : w.ownsRow base 5 1 v n (valsB bs)) (hle : ∀ x ∈ bs, x ≤ 255) : ∃ ao cap, v = .slice ao bs.length cap ∧ RdB w ao bs ∧ bs.length ≤ cap := by
  obtain ⟨ao, cap, rfl, hr⟩ := rd_own h hle
  refine ⟨ao, cap, rfl, hr, ?_⟩
  rcases h.2 with ⟨e, h0⟩ | ⟨g, c, cur, e, _, _, hnc, _⟩
  · have e2 : bs.length = 0 := by injection e
    omega
  · have e2 : bs.length = n := by have := h.1; rw [valsB_len] at this; omega
    have e3 : cap = c := by injection e
    omega
set_option maxHeartbeats 3200000 in
theorem kOpen_good {w : World} (g off cap : Nat) (d t : List Nat) (hd : RdB w (some ⟨g, off, none⟩) d) (ht : RdB w (some ⟨g, off + d.length, none⟩) t) (h4 : t.length = 4) (hc : d.length + 4 ≤ cap) (hl : d.length + 4 ≤ 140737488355328) (hok : nm t = crc d) :
    Calls Tryd.prog 22 #[.slice (some ⟨g, off, none⟩) (d.length + 4) cap] w fun e w' => ∃ ao' cap', e = .returned (.tuple #[.slice ao' d.length cap', num 0]) ∧ RdB w' ao' d ∧ d.length ≤ cap' ∧ w.grownBy w' none := by
  have hks := kSum_ok (w := w) (some ⟨g, off, none⟩) cap d hd (by omega)
  have hq := le4_ne h4 ht.1 (crc d) (crc_lt hd.le)
  obtain ⟨g', o', e', hct⟩ := ht.2.resolve_left (fun e => by rw [e] at h4; simp at h4)
  simp at e'
  obtain ⟨rfl, rfl⟩ := e'
  have c0 := hct 0 (by omega)
  have c1 := hct 1 (by omega)
  have c2 := hct 2 (by omega)
  have c3 := hct 3 (by omega)
  rw [Nat.add_zero] at c0
  rw [Nat.add_assoc] at c1 c2 c3
  obtain ⟨w0, w1, w2, w3⟩ := hq.1 hok
  generalize nth t 0 = T0 at c0 w0
  generalize nth t 1 = T1 at c1 w1
  generalize nth t 2 = T2 at c2 w2
  generalize nth t 3 = T3 at c3 w3
  have q0 : ((T0 : Int) != (crc d : Int) % 256) = false := by simp only [bne_eq_false_iff_eq]; omega
  have q1 : ((T1 : Int) != (crc d : Int) / 256 % 256) = false := by simp only [bne_eq_false_iff_eq]; omega
  have q2 : ((T2 : Int) != (crc d : Int) / 65536 % 256) = false := by simp only [bne_eq_false_iff_eq]; omega
  have q3 : ((T3 : Int) != (crc d : Int) / 16777216 % 256) = false := by simp only [bne_eq_false_iff_eq]; omega
  have HK : Hid (Calls Tryd.prog 19 #[.slice (some ⟨g, off, none⟩) d.length cap] w _) := hks
  have hle := hd.le
  clear hct hq hks ht w0 w1 w2 w3 hok
  go_enter Tryd.func22, Tryd.ntmps22
  go_wp2_with fail
  refine HK.out.mono ?_
  rintro e w ⟨rfl, rfl⟩
  go_wp2_with (at_builtin; refine wpList_append_bytes rfl _ _ rfl rfl (some ⟨g, off, none⟩) d cap rfl hd (by omega) (fun e => by cases e) ?_; intro v1 w1 hown1 hg1)
  obtain ⟨ao', cap', rfl, hrd, hcp⟩ := rd_cap hown1 hle
  exact bodyPost_ret (v := .tuple #[.slice ao' d.length cap', num 0]) (by simp [results, Tryd.f22, go_sem]) rfl ⟨ao', cap', rfl, hrd, hcp, hg1⟩
/-- What the document's Parse answers: the same. -/
theorem kParse_short {w : World} (ao : Option Addr) (cap : Nat) (b : List Nat) (h : b.length < 37) :
    Calls Tryd.prog 12 #[.slice ao b.length cap] w (ParsePost w b) := by
  have h1 : (b.length : Int) < 37 := by omega
  have he : parE b = 80 := by simp [parE, h]
  have hr : parR b = noR := by simp [parR, he]
  unfold ParsePost
  rw [hr, he]
  go_enter Tryd.func12, Tryd.ntmps12
  go_wp2
  exact bodyPost_ret (v := .tuple #[recV noR, num 80]) (by simp [results, Tryd.f12, go_sem, noR]) rfl ⟨rfl, World.grownBy_alloc w _ none⟩
set_option maxHeartbeats 3200000 in
theorem kParse_ok {w : World} (g off cap : Nat) (b : List Nat) (hx : RdB w (some ⟨g, off, none⟩) b) (hl : 37 ≤ b.length) (hc : b.length ≤ cap) :
    Calls Tryd.prog 12 #[.slice (some ⟨g, off, none⟩) b.length cap] w (ParsePost w b) := by
  have h1 : ¬ (b.length : Int) < 37 := by omega
  have hc37 : (37 : Int) ≤ (cap : Int) := by omega
  have n37 : ¬ b.length < 37 := by omega
  obtain ⟨l1, l2⟩ := take_drop37 hl
  obtain ⟨W, hW⟩ : ∃ W, W = w.alloc recZ := ⟨_, rfl⟩
  have hgW : w.grownBy W none := by rw [hW]; exact World.grownBy_alloc w _ none
  have hbx : W.heap[w.heap.size]? = some (recL noR) := by rw [hW]; exact heap_alloc_new w recZ
  have hd := RdB.part (hx.more hgW) (by omega) 0 33 (by omega)
  have ht := RdB.part (hx.more hgW) (by omega) 33 4 (by omega)
  rw [List.drop_zero, Nat.add_zero] at hd
  have hop := kOpen_ok g off cap (b.take 33) ((b.drop 33).take 4) hd (by rw [l1]; exact ht) l2 (by omega) (by omega)
  rw [l1] at hop
  by_cases hok : nm ((b.drop 33).take 4) = crc (b.take 33)
  · have HOp : Hid (Calls Tryd.prog 22 #[.slice (some ⟨g, off, none⟩) 37 cap] W fun e w' => ∃ ao2 cap2, e = .returned (.tuple #[.slice ao2 33 cap2, num 0]) ∧ RdB w' ao2 (b.take 33) ∧ 33 ≤ cap2 ∧ W.grownBy w' none) := by
      have := kOpen_good g off cap (b.take 33) ((b.drop 33).take 4) hd (by rw [l1]; exact ht) l2 (by omega) (by omega) hok
      rwa [l1] at this
    have HV : Hid (∀ e w', e = .returned (.tuple #[recV (parR b), num (parE b)]) → w.grownBy w' none → ParsePost w b e w') := fun e w' a b => ⟨a, b⟩
    have Hw := hide hW
    have HB := hide hbx
    have HgW := hide hgW
    have HL := hide l1
    have HC := hide hc
    have HLb := hide hl
    have HFo : Hid (Tryd.prog.follows .mixedOrders = true) := follows_mixed
    have h0 : nth (b.take 33) 0 ≤ 255 := by have := hx.1 0; unfold nth at this ⊢; rw [List.getD_eq_getElem?_getD] at this ⊢; rw [List.getElem?_take_of_lt (by omega)]; exact this
    by_cases hm : MayR (recOf (b.take 33))
    · have he : parE b = 0 := by simp [parE, n37, hok, hm]
      have hr : parR b = recOf (b.take 33) := by simp [parR, he]
      rw [he, hr] at HV
      have HR : Hid (recOf (b.take 33) = ⟨(nth (b.take 33) 0 : Nat), n8 (b.take 33) 0, n8 (b.take 33) 1, n8 (b.take 33) 2, n8 (b.take 33) 3⟩) := rfl
      have hm1 : 1 ≤ nth (b.take 33) 0 ∧ nth (b.take 33) 0 ≤ 4 := by have := hm.1; have := hm.2; simp only [recOf] at *; omega
      obtain ⟨m1, m4⟩ := hm1
      clear hop hd ht hx hbx hW l1 l2 hok he hr hm hgW hc hl
      go_enter Tryd.func12, Tryd.ntmps12
      go_wp2_with (rw [← Hw.out])
      refine HOp.out.mono ?_
      rintro e w2 ⟨ao2, cap2, rfl, hrd2, hcp2, hgr2⟩
      obtain ⟨g2, o2, rfl, hcd⟩ := hrd2.2.resolve_left (fun e => by have := HL.out; rw [e] at this; simp at this)
      have hb2 := obj_more HB.out hgr2
      have hgw2 := grownBy_trans HgW.out hgr2
      have c0 := hcd 0 (by rw [HL.out]; omega)
      rw [Nat.add_zero] at c0
      have hn : ∀ (wq : World), wq.heap = w2.heap → ∀ (j o len c : Nat), j < 4 → 8 ≤ len → o = 1 + 8 * j → Calls Tryd.prog 23 #[.slice (some ⟨g2, o2 + o, none⟩) len c] wq fun e w' => e = .returned (q64 (n8 (b.take 33) j)) ∧ w' = wq := fun wq eq j o len c hj hlen ho => by
        subst ho
        refine number_ok (w := wq) g2 (o2 + (1 + 8 * j)) len c (((b.take 33).drop (1 + 8 * j)).take 8) ?_ (by simp; have := HLb.out; omega) hlen
        have := RdB.part hrd2 (by rw [HL.out]; omega) (1 + 8 * j) 8 (by rw [HL.out]; omega)
        exact ⟨this.1, this.2.imp id fun ⟨x, y, e, hh⟩ => ⟨x, y, e, fun i hi => by cases e; rw [cell_of_block (w := w2) (w' := wq) (by rw [eq])]; exact hh i hi⟩⟩
      have HN := hide hn
      have j1 : ¬ cap2 = 1 := by omega
      have j2 : ¬ cap2 = 9 := by omega
      have j3 : ¬ cap2 = 17 := by omega
      have j4 : ¬ cap2 = 25 := by omega
      have j5 : (33 : Int) ≤ (cap2 : Int) := by omega
      have HB2 := hide hb2
      have HG2 := hide hgw2
      have k1 : (1 : Int) ≤ (nth (b.take 33) 0 : Int) := by omega
      have k4 : (nth (b.take 33) 0 : Int) ≤ 4 := by omega
      have hu : IntKind.i64.wrap ((nth (b.take 33) 0 : Nat) : Int) = ((nth (b.take 33) 0 : Nat) : Int) := by rw [IntKind.wrap_i64]; omega
      generalize nth (b.take 33) 0 = X0 at *
      have cd : w2.drew.cell? ⟨g2, o2, none⟩ = some (q8 X0) := c0
      clear hrd2 hcd hgr2 hb2 hgw2 hn HOp HB HgW Hw h0
      go_wp2_with fail
      go_still_tail 17, HFo.out
      still_call (HN.out w2.drew rfl 0 1 32 (cap2 - 1) (by decide) (by decide) rfl)
      repeat still_step
      still_call (HN.out w2.drew rfl 1 9 24 (cap2 - 9) (by decide) (by decide) rfl)
      repeat still_step
      still_call (HN.out w2.drew rfl 2 17 16 (cap2 - 17) (by decide) (by decide) rfl)
      repeat still_step
      still_call (HN.out w2.drew rfl 3 25 8 (cap2 - 25) (by decide) (by decide) rfl)
      repeat still_step
      refine wpStill_nil ?_
      change wpList _ _ _ _ _ (w2.drew)
      clear HN cd c0 hu j1 j2 j3 j4 j5
      generalize n8 (b.take 33) 0 = X1 at *
      generalize n8 (b.take 33) 1 = X2 at *
      generalize n8 (b.take 33) 2 = X3 at *
      generalize n8 (b.take 33) 3 = X4 at *
      go_wp2_with (refine wpList_store_rec rfl (.tmp 2) (.tmp 47) rfl w.heap.size noR ⟨(X0 : Nat), X1, X2, X3, X4⟩ rfl rfl HB2.out ?_; intro w5 h5 hg5 _)
      have hg6 := hg5 w (grownBy_drew HG2.out) (Nat.le_refl _)
      obtain ⟨y0, y1, y2, y3, y4⟩ := cells5 h5
      exact bodyPost_ret (v := .tuple #[recV ⟨(X0 : Nat), X1, X2, X3, X4⟩, num 0]) (by simp [results, Tryd.f12, go_sem, y0, y1, y2, y3, y4]) rfl (HV.out _ _ (by rw [HR.out]) hg6)
    · have he : parE b = 81 := by simp [parE, n37, hok, hm]
      have hr : parR b = noR := by simp [parR, he]
      rw [he, hr] at HV
      have hm1 : nth (b.take 33) 0 < 1 ∨ 4 < nth (b.take 33) 0 := by
        have hmm : ¬ (1 ≤ ((nth (b.take 33) 0 : Nat) : Int) ∧ ((nth (b.take 33) 0 : Nat) : Int) ≤ 4) := hm
        omega
      clear hop hd ht hx hbx hW l1 l2 hok he hr hm hgW hc hl
      rcases hm1 with hm1 | hm1
      · skip
        go_enter Tryd.func12, Tryd.ntmps12
        go_wp2_with (rw [← Hw.out])
        refine HOp.out.mono ?_
        rintro e w2 ⟨ao2, cap2, rfl, hrd2, hcp2, hgr2⟩
        obtain ⟨g2, o2, rfl, hcd⟩ := hrd2.2.resolve_left (fun e => by have := HL.out; rw [e] at this; simp at this)
        have hb2 := obj_more HB.out hgr2
        have hgw2 := grownBy_trans HgW.out hgr2
        have c0 := hcd 0 (by rw [HL.out]; omega)
        rw [Nat.add_zero] at c0
        have HB2 := hide hb2
        have HG2 := hide hgw2
        have k1 : (nth (b.take 33) 0 : Int) < 1 := by omega
        have k4 : True := by trivial
        generalize nth (b.take 33) 0 = X0 at *
        clear hrd2 hcd hgr2 hb2 hgw2 HOp HB HgW Hw h0
        go_wp2_with (refine wpList_store_rec rfl (.tmp 2) (.tmp 30) rfl w.heap.size noR noR rfl rfl HB2.out ?_; intro w5 h5 hg5 _)
        have hg6 := hg5 w HG2.out (Nat.le_refl _)
        obtain ⟨y0, y1, y2, y3, y4⟩ := cells5 h5
        exact bodyPost_ret (v := .tuple #[recV noR, num 81]) (by simp [results, Tryd.f12, go_sem, y0, y1, y2, y3, y4]) rfl (HV.out _ _ rfl hg6)
      · skip
        go_enter Tryd.func12, Tryd.ntmps12
        go_wp2_with (rw [← Hw.out])
        refine HOp.out.mono ?_
        rintro e w2 ⟨ao2, cap2, rfl, hrd2, hcp2, hgr2⟩
        obtain ⟨g2, o2, rfl, hcd⟩ := hrd2.2.resolve_left (fun e => by have := HL.out; rw [e] at this; simp at this)
        have hb2 := obj_more HB.out hgr2
        have hgw2 := grownBy_trans HgW.out hgr2
        have c0 := hcd 0 (by rw [HL.out]; omega)
        rw [Nat.add_zero] at c0
        have HB2 := hide hb2
        have HG2 := hide hgw2
        have k1 : ¬ (nth (b.take 33) 0 : Int) < 1 := by omega
        have k4 : (4 : Int) < (nth (b.take 33) 0 : Int) := by omega
        generalize nth (b.take 33) 0 = X0 at *
        clear hrd2 hcd hgr2 hb2 hgw2 HOp HB HgW Hw h0
        go_wp2_with (refine wpList_store_rec rfl (.tmp 2) (.tmp 30) rfl w.heap.size noR noR rfl rfl HB2.out ?_; intro w5 h5 hg5 _)
        have hg6 := hg5 w HG2.out (Nat.le_refl _)
        obtain ⟨y0, y1, y2, y3, y4⟩ := cells5 h5
        exact bodyPost_ret (v := .tuple #[recV noR, num 81]) (by simp [results, Tryd.f12, go_sem, y0, y1, y2, y3, y4]) rfl (HV.out _ _ rfl hg6)
  · have HOp : Hid (Calls Tryd.prog 22 #[.slice (some ⟨g, off, none⟩) 37 cap] W fun e w' => e = .returned (.tuple #[.slice none 0 0, num 30]) ∧ W.grownBy w' none) := by
      refine hop.mono fun e w' hp => ?_
      rw [KOpenPost, if_neg (by simpa using hok)] at hp
      exact hp
    have HV : Hid (∀ e w', e = .returned (.tuple #[recV (parR b), num (parE b)]) → w.grownBy w' none → ParsePost w b e w') := fun e w' a b => ⟨a, b⟩
    have Hw := hide hW
    have HB := hide hbx
    have HgW := hide hgW
    have he : parE b = 30 := by simp [parE, n37, hok]
    have hr : parR b = noR := by simp [parR, he]
    rw [he, hr] at HV
    clear hop hd ht hx hbx hW l1 l2 hok he hr hgW
    go_enter Tryd.func12, Tryd.ntmps12
    go_wp2_with (rw [← Hw.out])
    refine HOp.out.mono ?_
    rintro e w2 ⟨rfl, hgr2⟩
    have hb2 := obj_more HB.out hgr2
    have hgw2 := grownBy_trans HgW.out hgr2
    have HB4 := hide hb2
    have HG4 := hide hgw2
    clear hgr2 hb2 hgw2 HOp HB HgW Hw
    go_wp2_with (refine wpList_store_rec rfl (.tmp 2) (.tmp 18) rfl w.heap.size noR noR rfl rfl HB4.out ?_; intro w5 h5 hg5 _)
    have hg6 := hg5 w HG4.out (Nat.le_refl _)
    obtain ⟨y0, y1, y2, y3, y4⟩ := cells5 h5
    exact bodyPost_ret (v := .tuple #[recV noR, num 30]) (by simp [results, Tryd.f12, go_sem, y0, y1, y2, y3, y4]) rfl (HV.out _ _ rfl hg6)
end Rc
end Go.Proofs.YtfmkmfjmhpgglaaDoor
