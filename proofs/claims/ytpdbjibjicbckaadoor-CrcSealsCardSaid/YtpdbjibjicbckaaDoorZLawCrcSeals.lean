/- The walk of CrcSeals. -/
import Derived.Test.YtpdbjibjicbckaaDoorZXf
import Derived.Test.YtpdbjibjicbckaaDoorZXg
import Derived.Deep.RegionHeld
namespace Go.Proofs.YtpdbjibjicbckaaDoor
open Go.RowKit
namespace Cr
/-- What is opened of bytes. -/
def opn (bs : List Nat) : Option (List Nat) := if 4 ≤ bs.length ∧ nm (bs.drop (bs.length - 4)) = crc (bs.take (bs.length - 4)) then some (bs.take (bs.length - 4)) else none
def errN (r : Option (List Nat)) : Int := if r.isSome then 0 else 30
def OutPost (w : World) (r : Option (List Nat)) (e : Ending) (w' : World) : Prop :=
  ∃ ao' cap', e = .returned (.tuple #[.slice ao' (r.getD []).length cap', num (errN r)]) ∧ RdB w' ao' (r.getD []) ∧ w.grownBy w' none
theorem rd_nil (w : World) (ao : Option Addr) : RdB w ao [] := ⟨fun i => by rw [nth_over _ (by simp)]; omega, .inl rfl⟩
theorem out_no {w w' : World} {e : Ending} {bs : List Nat} (h : opn bs = none) (he : e = .returned (.tuple #[.slice none 0 0, num 30])) (hg : w.grownBy w' none) : OutPost w (opn bs) e w' := by
  rw [h]
  exact ⟨none, 0, by simpa [errN] using he, rd_nil _ _, hg⟩
theorem parts_of {w : World} {ao : Option Addr} {bs : List Nat} (hx : RdB w ao bs) (h4 : 4 ≤ bs.length) : ∃ g off, ao = some ⟨g, off, none⟩ ∧ RdB w (some ⟨g, off, none⟩) (bs.take (bs.length - 4)) ∧ RdB w (some ⟨g, off + (bs.take (bs.length - 4)).length, none⟩) (bs.drop (bs.length - 4)) ∧ (bs.drop (bs.length - 4)).length = 4 ∧ (bs.take (bs.length - 4)).length + 4 = bs.length := by
  obtain ⟨g, off, rfl, hc⟩ := hx.2.resolve_left (fun e => by rw [e] at h4; simp at h4)
  have hl : (bs.take (bs.length - 4)).length = bs.length - 4 := by simp
  have h1 := hx.part (by omega) 0 (bs.length - 4) (by omega)
  have h2 := hx.part (by omega) (bs.length - 4) 4 (by omega)
  rw [List.drop_zero, Nat.add_zero] at h1
  rw [List.take_of_length_le (by simp; omega)] at h2
  exact ⟨g, off, rfl, h1, by rw [hl]; exact h2, by simp; omega, by omega⟩
theorem open_any {w : World} (hG : Glob w) (ao : Option Addr) (cap : Nat) (bs : List Nat) (hx : RdB w ao bs) (hc : bs.length ≤ cap) (hl : bs.length ≤ 140737488355328) :
    Calls Tryd.prog 15 #[.slice ao bs.length cap] w fun e w' => OutPost w (opn bs) e w' := by
  by_cases h4 : 4 ≤ bs.length
  · obtain ⟨g, off, rfl, hd, ht, hl4, hdl⟩ := parts_of hx h4
    have h := open_ok hG g off cap _ _ hd ht hl4 (by omega) (by omega)
    rw [hdl] at h
    refine h.mono fun e w' hp => ?_
    unfold OpenPost at hp
    by_cases hk : nm (bs.drop (bs.length - 4)) = crc (bs.take (bs.length - 4))
    · rw [if_pos (by simpa using hk)] at hp
      obtain ⟨g', rfl, _, hg, hO⟩ := hp
      have ho : opn bs = some (bs.take (bs.length - 4)) := by rw [opn, if_pos ⟨h4, hk⟩]
      rw [ho]
      exact ⟨_, _, rfl, hO.rdB, hg⟩
    · rw [if_neg (by simpa using hk)] at hp
      exact out_no (by rw [opn, if_neg (fun h => hk h.2)]) hp.1 hp.2
  · exact (open_short ao cap bs (by omega)).mono fun e w' hp => out_no (by rw [opn, if_neg (fun h => h4 h.1)]) hp.1 hp.2
theorem kOpen_any {w : World} (ao : Option Addr) (cap : Nat) (bs : List Nat) (hx : RdB w ao bs) (hc : bs.length ≤ cap) (hl : bs.length ≤ 140737488355328) :
    Calls Tryd.prog 16 #[.slice ao bs.length cap] w fun e w' => OutPost w (opn bs) e w' := by
  by_cases h4 : 4 ≤ bs.length
  · obtain ⟨g, off, rfl, hd, ht, hl4, hdl⟩ := parts_of hx h4
    have h := kOpen_ok g off cap _ _ hd ht hl4 (by omega) (by omega)
    rw [hdl] at h
    refine h.mono fun e w' hp => ?_
    unfold KOpenPost at hp
    by_cases hk : nm (bs.drop (bs.length - 4)) = crc (bs.take (bs.length - 4))
    · rw [if_pos (by simpa using hk)] at hp
      obtain ⟨a', c', rfl, hr, hg⟩ := hp
      have ho : opn bs = some (bs.take (bs.length - 4)) := by rw [opn, if_pos ⟨h4, hk⟩]
      rw [ho]
      exact ⟨_, _, rfl, hr, hg⟩
    · rw [if_neg (by simpa using hk)] at hp
      exact out_no (by rw [opn, if_neg (fun h => hk h.2)]) hp.1 hp.2
  · exact (kOpen_short ao cap bs (by omega)).mono fun e w' hp => out_no (by rw [opn, if_neg (fun h => h4 h.1)]) hp.1 hp.2
theorem RdB.conv {w : World} {ao : Option Addr} {bs : List Nat} (h : RdB w ao bs) (cap : Nat) : Hid (∀ w', w.grownBy w' none → (convert 22 9 (.slice ao bs.length cap)).run Tryd.prog w' = .ok (.string (strB bs)) w') := fun _ hg => conv_ok (h.more hg) cap
set_option maxHeartbeats 3200000 in
theorem law_CrcSeals {w : World} (ao : Option Addr) (len cap : Nat) (bs : List Nat) (hx : ArgB w ao len bs) (hl : len ≤ 140737488351232 ∧ len ≤ cap ∧ (ao = none → cap = 0)) (ar : Option Addr) (lenr capr : Nat) (rs : List Nat) (hr : ArgB w ar lenr rs) (hlr : lenr ≤ 140737488351232 ∧ lenr ≤ capr ∧ (ar = none → capr = 0)) (hG : Glob w) (_h0 : 0 < w.heap.size) :
    Calls Tryd.prog 4 #[.slice ao len cap, .slice ar lenr capr] w fun e w' => e = .returned (.bool true) ∧ w.grownBy w' none := by
  obtain ⟨rfl, hx⟩ := hx
  obtain ⟨rfl, hr⟩ := hr
  go_enter Tryd.func4, Tryd.ntmps4
  go_wp2_with fail
  refine (awake_ok hG).mono ?_
  rintro e w1 ⟨rfl, hg1⟩
  go_wp2_with fail
  refine (seal_ok (hG.more hg1) ao cap bs (hx.more hg1) (by omega)).mono ?_
  rintro e w2 ⟨g, rfl, hgg, hg2, hO⟩
  have hgw2 := grownBy_trans hg1 hg2
  go_wp2_with fail
  refine (open_any (hG.more hgw2) ar capr rs (hr.more hgw2) (by omega) (by omega)).mono ?_
  rintro e w3 ⟨xa, xc, rfl, hX, hg3⟩
  have hgw3 := grownBy_trans hgw2 hg3
  go_wp2_with fail
  refine (kOpen_any ar capr rs (hr.more hgw3) (by omega) (by omega)).mono ?_
  rintro e w4 ⟨ya, yc, rfl, hY, hg4⟩
  have hgw4 := grownBy_trans hgw3 hg4
  have CX := (hX.more hg4).conv xc
  have CY := hY.conv yc
  have CS := ((hO.more hg3).more hg4).rdB.conv (bs.length + 4)
  have hlen : (bs ++ le4 (crc bs)).length = bs.length + 4 := by simp [le4]
  rw [hlen] at CS
  have hks := fun (w' : World) (hg : w4.grownBy w' none) => kSeal_ok (w := w') ao cap bs ((hx.more hgw4).more hg) hl.2.2 (by omega)
  generalize errN (opn rs) = E at ⊢
  generalize (opn rs).getD [] = D at CX CY ⊢
  have HK : Hid (∀ w', w4.grownBy w' none → Calls Tryd.prog 17 #[.slice ao bs.length cap] w' fun e w5 => ∃ ka kc, e = .returned (.slice ka (bs.length + 4) kc) ∧ Hid ((convert 22 9 (.slice ka (bs.length + 4) kc)).run Tryd.prog w5 = .ok (.string (strB (bs ++ le4 (crc bs)))) w5) ∧ w'.grownBy w5 none) := by
    intro w' hg
    refine (hks w' hg).mono ?_
    rintro e w' ⟨ka, kc, rfl, hK, hg⟩
    have h1 := conv_ok hK kc
    rw [hlen] at h1 ⊢
    exact ⟨ka, kc, rfl, h1, hg⟩
  clear hlen hks
  have hkd : w4.grownBy w4.drew none := grownBy_drew (World.grownBy.refl _ _)
  clear hX hY hO hg3 hg2 hg1 hgw2 hgw3
  generalize strB (bs ++ le4 (crc bs)) = S1 at CS HK
  generalize strB D = S2 at CX CY
  have HM : Hid (∀ w', w4.grownBy w' none → w4.grownBy w' none ∧ (convert 22 9 (.slice (some ⟨g, 0, none⟩) (bs.length + 4) (bs.length + 4))).run Tryd.prog w' = .ok (.string S1) w' ∧ (convert 22 9 (.slice xa D.length xc)).run Tryd.prog w' = .ok (.string S2) w' ∧ (convert 22 9 (.slice ya D.length yc)).run Tryd.prog w' = .ok (.string S2) w') := fun w' hg => ⟨hg, CS.out w' hg, CX.out w' hg, CY.out w' hg⟩
  have HS0 : Hid _ := HM.out _ hkd
  clear hkd CX CY CS
  go_wp2_with fail
  go_region_held (fun w' => w4.grownBy w' none ∧ (convert 22 9 (.slice (some ⟨g, 0, none⟩) (bs.length + 4) (bs.length + 4))).run Tryd.prog w' = .ok (.string S1) w' ∧ (convert 22 9 (.slice xa D.length xc)).run Tryd.prog w' = .ok (.string S2) w' ∧ (convert 22 9 (.slice ya D.length yc)).run Tryd.prog w' = .ok (.string S2) w') (first | assumption | exact HS0.out | exact HM.out _ (grownBy_trans (‹w4.grownBy _ none ∧ _›).1 ‹_›))
    (first | (go_at_call 17; refine (HK.out _ (‹w4.grownBy _ none ∧ _›).1).mono ?_; rintro e w5 ⟨ka, kc, rfl, hK, hg5⟩; have ck5 := hK.out; clear hK))
  all_goals
    have hfin := grownBy_trans hgw4 (‹w4.grownBy w5 none ∧ _›).1
    go_wp2
    go_ret
    exact ⟨rfl, hfin⟩
end Cr
end Go.Proofs.YtpdbjibjicbckaaDoor
