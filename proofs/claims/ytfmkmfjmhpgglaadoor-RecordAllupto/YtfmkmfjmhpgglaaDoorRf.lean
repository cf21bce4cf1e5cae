/- Layer 8 (record): Parse. -/
import Derived.Test.YtfmkmfjmhpgglaaDoorRe
namespace Go.Proofs.YtfmkmfjmhpgglaaDoor
open Go.RowKit
namespace Rc
open Cr
abbrev recZ : Obj := .cells #[.int .i64 0, .int .u64 0, .int .u64 0, .int .u64 0, .int .u64 0] 24
/-- What is read of bytes: the error's number, and the record. -/
def parE (b : List Nat) : Int := if b.length < 37 then 80 else if nm ((b.drop 33).take 4) = crc (b.take 33) then (if MayR (recOf (b.take 33)) then 0 else 81) else 30
def parR (b : List Nat) : Rec := if parE b = 0 then recOf (b.take 33) else noR
def ParsePost (w : World) (b : List Nat) (e : Ending) (w' : World) : Prop := e = .returned (.tuple #[recV (parR b), num (parE b)]) ∧ w.grownBy w' none
set_option maxHeartbeats 1600000 in
theorem Parse_short {w : World} (ao : Option Addr) (cap : Nat) (b : List Nat) (h : b.length < 37) :
    Calls Tryd.prog 11 #[.slice ao b.length cap] w (ParsePost w b) := by
  have h1 : (b.length : Int) < 37 := by omega
  have he : parE b = 80 := by simp [parE, h]
  have hr : parR b = noR := by simp [parR, he]
  unfold ParsePost
  rw [hr, he]
  go_enter Tryd.func11, Tryd.ntmps11
  go_wp2
  exact bodyPost_ret (v := .tuple #[recV noR, num 80]) (by simp [results, Tryd.f11, go_sem, noR]) rfl ⟨rfl, World.grownBy_alloc w _ none⟩
theorem take_drop37 {b : List Nat} (h : 37 ≤ b.length) : (b.take 33).length = 33 ∧ ((b.drop 33).take 4).length = 4 := by simp; omega
set_option maxHeartbeats 3200000 in
theorem Parse_ok {w : World} (hG : Glob w) (g off cap : Nat) (b : List Nat) (hx : RdB w (some ⟨g, off, none⟩) b) (hl : 37 ≤ b.length) (hc : b.length ≤ cap) :
    Calls Tryd.prog 11 #[.slice (some ⟨g, off, none⟩) b.length cap] w (ParsePost w b) := by
  have h1 : ¬ (b.length : Int) < 37 := by omega
  have hc37 : (37 : Int) ≤ (cap : Int) := by omega
  have n37 : ¬ b.length < 37 := by omega
  obtain ⟨l1, l2⟩ := take_drop37 hl
  obtain ⟨W, hW⟩ : ∃ W, W = w.alloc recZ := ⟨_, rfl⟩
  have hgW : w.grownBy W none := by rw [hW]; exact World.grownBy_alloc w _ none
  have hbx : W.heap[w.heap.size]? = some (recL noR) := by rw [hW]; exact heap_alloc_new w recZ
  have hd := RdB.part (hx.more hgW) (by omega) 0 33 (by omega)
  have ht := RdB.part (hx.more hgW) (by omega) 33 4 (by omega)
  rw [List.drop_zero, Nat.add_zero] at hd
  have hop := open_ok (hG.more hgW) g off cap (b.take 33) ((b.drop 33).take 4) hd (by rw [l1]; exact ht) l2 (by omega) (by omega)
  rw [l1] at hop
  by_cases hok : nm ((b.drop 33).take 4) = crc (b.take 33)
  · have HOp : Hid (Calls Tryd.prog 20 #[.slice (some ⟨g, off, none⟩) 37 cap] W fun e w' => ∃ g2, e = .returned (.tuple #[.slice (some ⟨g2, 0, none⟩) 33 33, num 0]) ∧ W.heap.size ≤ g2 ∧ W.grownBy w' none ∧ OwnB w' g2 (b.take 33) []) := by
      refine hop.mono fun e w' hp => ?_
      rw [OpenPost, if_pos (by simpa using hok), l1] at hp
      exact hp
    have HV : Hid (∀ e w', e = .returned (.tuple #[recV (parR b), num (parE b)]) → w.grownBy w' none → ParsePost w b e w') := fun e w' a b => ⟨a, b⟩
    have Hw := hide hW
    have HB := hide hbx
    have HgW := hide hgW
    have HL := hide l1
    by_cases hm : MayR (recOf (b.take 33))
    · have he : parE b = 0 := by simp [parE, n37, hok, hm]
      have hr : parR b = recOf (b.take 33) := by simp [parR, he]
      rw [he, hr] at HV
      have HM : Hid (∀ W : World, Calls Tryd.prog 16 #[recV (recOf (b.take 33))] W fun e w' => e = .returned (.bool true) ∧ W.grownBy w' none) := fun W => by
        have := mayBe_ok (w := W) (recOf (b.take 33))
        rwa [decide_eq_true hm] at this
      obtain ⟨R, hR⟩ : ∃ R, recOf (b.take 33) = R := ⟨_, rfl⟩
      rw [hR] at HM HV
      have HR := hide hR
      clear hR
      clear hop hd ht hx hbx hW l1 l2 hok he hr hm hgW hG
      go_enter Tryd.func11, Tryd.ntmps11
      go_wp2_with (rw [← Hw.out])
      refine HOp.out.mono ?_
      rintro e w2 ⟨g2, rfl, hg2, hgr2, hO2⟩
      have hb2 := obj_more HB.out hgr2
      have hgw2 := grownBy_trans HgW.out hgr2
      have hrc := recordOf_ok (w := w2) g2 0 33 (b.take 33) hO2.rdB HL.out (Nat.le_refl _)
      rw [HR.out] at hrc
      have HRc := hide hrc
      have HB2 := hide hb2
      have HG2 := hide hgw2
      clear hO2 hgr2 hg2 hb2 hgw2 hrc HOp HB HgW HL Hw HR
      go_wp2_with fail
      refine HRc.out.mono ?_
      rintro e w3 ⟨rfl, hg3⟩
      have hb3 := obj_more HB2.out hg3
      have hgw3 := grownBy_trans HG2.out hg3
      have hgA := World.grownBy_alloc w3 (recL R) none
      have hbA := heap_alloc_new w3 (recL R)
      have hbA2 := obj_more hb3 hgA
      have hgA3 := grownBy_trans hgw3 hgA
      have HB3 := hide hbA2
      have HB3' := hide hbA
      have HG3 := hide hgA3
      clear hb3 hg3 hgA hbA hgw3 hgA3 hbA2 HB2 HG2 HRc
      go_wp2_with fail
      refine (HM.out _).mono ?_
      rintro e w4 ⟨rfl, hg4⟩
      have hb4 := obj_more HB3.out hg4
      obtain ⟨x0, x1, x2, x3, x4⟩ := cells5 (obj_more HB3'.out hg4)
      have hgw4 := grownBy_trans HG3.out hg4
      have HB4 := hide hb4
      have HG4 := hide hgw4
      clear hb4 hgw4 hg4 HB3 HB3' HG3 HM
      go_wp2_with (refine wpList_store_rec rfl (.tmp 2) (.tmp 27) rfl w.heap.size noR R rfl rfl HB4.out ?_; intro w5 h5 hg5 _)
      have hg6 := hg5 w HG4.out (Nat.le_refl _)
      obtain ⟨y0, y1, y2, y3, y4⟩ := cells5 h5
      exact bodyPost_ret (v := .tuple #[recV R, num 0]) (by simp [results, Tryd.f11, go_sem, y0, y1, y2, y3, y4]) rfl (HV.out _ _ rfl hg6)
    · have he : parE b = 81 := by simp [parE, n37, hok, hm]
      have hr : parR b = noR := by simp [parR, he]
      rw [he, hr] at HV
      have HM : Hid (∀ W : World, Calls Tryd.prog 16 #[recV (recOf (b.take 33))] W fun e w' => e = .returned (.bool false) ∧ W.grownBy w' none) := fun W => by
        have := mayBe_ok (w := W) (recOf (b.take 33))
        rwa [decide_eq_false hm] at this
      obtain ⟨R, hR⟩ : ∃ R, recOf (b.take 33) = R := ⟨_, rfl⟩
      rw [hR] at HM
      have HR := hide hR
      clear hR
      clear hop hd ht hx hbx hW l1 l2 hok he hr hm hgW hG
      go_enter Tryd.func11, Tryd.ntmps11
      go_wp2_with (rw [← Hw.out])
      refine HOp.out.mono ?_
      rintro e w2 ⟨g2, rfl, hg2, hgr2, hO2⟩
      have hb2 := obj_more HB.out hgr2
      have hgw2 := grownBy_trans HgW.out hgr2
      have hrc := recordOf_ok (w := w2) g2 0 33 (b.take 33) hO2.rdB HL.out (Nat.le_refl _)
      rw [HR.out] at hrc
      have HRc := hide hrc
      have HB2 := hide hb2
      have HG2 := hide hgw2
      clear hO2 hgr2 hg2 hb2 hgw2 hrc HOp HB HgW HL Hw HR
      go_wp2_with fail
      refine HRc.out.mono ?_
      rintro e w3 ⟨rfl, hg3⟩
      have hb3 := obj_more HB2.out hg3
      have hgw3 := grownBy_trans HG2.out hg3
      have hgA := World.grownBy_alloc w3 (recL R) none
      have hbA := heap_alloc_new w3 (recL R)
      have hbA2 := obj_more hb3 hgA
      have hgA3 := grownBy_trans hgw3 hgA
      have HB3 := hide hbA2
      have HB3' := hide hbA
      have HG3 := hide hgA3
      clear hb3 hg3 hgA hbA hgw3 hgA3 hbA2 HB2 HG2 HRc
      go_wp2_with fail
      refine (HM.out _).mono ?_
      rintro e w4 ⟨rfl, hg4⟩
      have hb4 := obj_more HB3.out hg4
      have hgw4 := grownBy_trans HG3.out hg4
      have HB4 := hide hb4
      have HG4 := hide hgw4
      clear hb4 hgw4 hg4 HB3 HB3' HG3 HM
      go_wp2_with (refine wpList_store_rec rfl (.tmp 2) (.tmp 26) rfl w.heap.size noR noR rfl rfl HB4.out ?_; intro w5 h5 hg5 _)
      have hg6 := hg5 w HG4.out (Nat.le_refl _)
      obtain ⟨y0, y1, y2, y3, y4⟩ := cells5 h5
      exact bodyPost_ret (v := .tuple #[recV noR, num 81]) (by simp [results, Tryd.f11, go_sem, y0, y1, y2, y3, y4]) rfl (HV.out _ _ rfl hg6)
  · have HOp : Hid (Calls Tryd.prog 20 #[.slice (some ⟨g, off, none⟩) 37 cap] W fun e w' => e = .returned (.tuple #[.slice none 0 0, num 30]) ∧ W.grownBy w' none) := by
      refine hop.mono fun e w' hp => ?_
      rw [OpenPost, if_neg (by simpa using hok)] at hp
      exact hp
    have HV : Hid (∀ e w', e = .returned (.tuple #[recV (parR b), num (parE b)]) → w.grownBy w' none → ParsePost w b e w') := fun e w' a b => ⟨a, b⟩
    have Hw := hide hW
    have HB := hide hbx
    have HgW := hide hgW
    have he : parE b = 30 := by simp [parE, n37, hok]
    have hr : parR b = noR := by simp [parR, he]
    rw [he, hr] at HV
    clear hop hd ht hx hbx hW l1 l2 hok he hr hgW hG
    go_enter Tryd.func11, Tryd.ntmps11
    go_wp2_with (rw [← Hw.out])
    refine HOp.out.mono ?_
    rintro e w2 ⟨rfl, hgr2⟩
    have hb2 := obj_more HB.out hgr2
    have hgw2 := grownBy_trans HgW.out hgr2
    have HB4 := hide hb2
    have HG4 := hide hgw2
    clear hgr2 hb2 hgw2 HOp HB HgW Hw
    go_wp2_with (refine wpList_store_rec rfl (.tmp 2) (.tmp 19) rfl w.heap.size noR noR rfl rfl HB4.out ?_; intro w5 h5 hg5 _)
    have hg6 := hg5 w HG4.out (Nat.le_refl _)
    obtain ⟨y0, y1, y2, y3, y4⟩ := cells5 h5
    exact bodyPost_ret (v := .tuple #[recV noR, num 30]) (by simp [results, Tryd.f11, go_sem, y0, y1, y2, y3, y4]) rfl (HV.out _ _ rfl hg6)
end Rc
end Go.Proofs.YtfmkmfjmhpgglaaDoor
