/- The parity of data: parityOf, Encode. -/
import Derived.Test.YtiojdoehlooibaaDoorZCo
import Derived.BigRegion
namespace Go.Proofs.YtiojdoehlooibaaDoor
open Go.RowKit
namespace Gf
theorem xor_u8 {a b : Nat} (ha : a ≤ 255) (hb : b ≤ 255) : bits .xor .u8 (a : Int) (b : Int) = ((a ^^^ b : Nat) : Int) := by
  have hx : a ^^^ b < 2 ^ 8 := Nat.xor_lt_two_pow (n := 8) (by omega) (by omega)
  have h1 : (BitVec.ofInt 8 (a : Int)).toNat = a := by
    rw [BitVec.ofInt_natCast, BitVec.toNat_ofNat]; exact Nat.mod_eq_of_lt (by omega)
  have h2 : (BitVec.ofInt 8 (b : Int)).toNat = b := by
    rw [BitVec.ofInt_natCast, BitVec.toNat_ofNat]; exact Nat.mod_eq_of_lt (by omega)
  show IntKind.u8.wrap ((BitVec.ofInt 8 (a : Int) ^^^ BitVec.ofInt 8 (b : Int)).toNat : Int) = _
  rw [BitVec.toNat_xor, h1, h2, IntKind.wrap_u8]
  omega
/-- The parity's bytes of data. -/
abbrev parB (m t : Nat) (bs : List Nat) : List Nat := bytesS (par m t (bitsS bs))
theorem bytesS_len (l : List Nat) : (bytesS l).length = (l.length + 7) / 8 := packGo_len l _
theorem bytesS_le (l : List Nat) (k : Nat) : nth (bytesS l) k ≤ 255 := packGo_le l _ k
theorem parB_len (m t : Nat) (bs : List Nat) : (parB m t bs).length = pS m t := by rw [parB, bytesS_len, par_len]
set_option maxHeartbeats 3200000 in
set_option maxRecDepth 4000 in
theorem parityOf_ok {w : World} {c b m bytes t : Nat} (h : Cod w c b m bytes t) (ad : Option Addr) (cd : Nat) (bs : List Nat) (hd : RdB w ad bs) (hl : bs.length ≤ 100000) :
    Calls Tryd.prog 31 #[ptr c, .slice ad bs.length cd] w fun e w' => ∃ g, e = .returned (.slice (some ⟨g, 0, none⟩) (pS m t) (pS m t)) ∧ w.heap.size ≤ g ∧ w.grownBy w' none ∧ w'.heap[g]? = some (.cells (valsB (parB m t bs)).toArray 5) := by
  have hb0 : (w.alloc (boxO 0 0)).heap[w.heap.size]? = some (boxO 0 0) := heap_alloc_new w _
  have hg0 : w.grownBy (w.alloc (boxO 0 0)) none := World.grownBy_alloc _ _ none
  go_enter Tryd.func31, Tryd.ntmps31
  go_wp2_with fail
  go_loopw [12] (fun i wr => ∃ k : Nat, k ≤ bs.length ∧ i = num k ∧ w.grownBy wr none ∧ ∃ h l, RegIs (gB m t) (onB (bitsS bs)) (8 * k) h l ∧ wr.heap[w.heap.size]? = some (boxO h l)) (fun i _ => bs.length - (intOf i).toNat)
  case atStart => exact ⟨0, Nat.zero_le _, rfl, hg0, 0, 0, RegIs.start _ _, hb0⟩
  case round =>
    clear hb0 hg0
    obtain ⟨k, hk, rfl, hg, rh, rl, hR, hb⟩ := hrel
    by_cases hlt : k < bs.length
    · have b1 : (k : Int) < (bs.length : Int) := by omega
      have hbk := hd.1 k
      obtain ⟨gd, od, rfl, hcd⟩ := hd.2.resolve_left (fun e => by rw [e] at hlt; simp at hlt)
      have ck : wr.cell? ⟨gd, od + k, none⟩ = some (.int .u8 (nth bs k : Nat)) := by
        rw [World.cell?_of_block (w := w) (a := ⟨gd, od + k, none⟩) (hg.block gd (lt_of_cell (hcd k hlt)) (by simp))]
        exact hcd k hlt
      obtain ⟨c0, c1, z0, z1⟩ := box_facts hb
      have hp := push_ok hR.hi hR.lo wr
      have htop := top_le hR.hi
      obtain ⟨th, tl, hE, hq1, hq2⟩ := h.tab (rh >>> 56 ^^^ nth bs k) (by
        have := Nat.xor_lt_two_pow (x := rh >>> 56) (y := nth bs k) (n := 8) (by omega) (by omega)
        omega)
      have hRn := hR.byte hE
      have hxq := xor_u8 htop hbk
      have hqlt : rh >>> 56 ^^^ nth bs k < 256 := by
        have := Nat.xor_lt_two_pow (x := rh >>> 56) (y := nth bs k) (n := 8) (by omega) (by omega)
        omega
      obtain ⟨Q, hQ⟩ : ∃ Q, Q = rh >>> 56 ^^^ nth bs k := ⟨_, rfl⟩
      obtain ⟨O, hO⟩ : ∃ O, O = rh >>> 56 := ⟨_, rfl⟩
      rw [← hQ] at hE hq1 hq2 hxq hqlt
      rw [← hO] at hxq hp htop
      have hplus := plus_ok (w64_pH rh hR.lo) (w64_pL rl) hE.1 hE.2.1
      have HP : Hid (Calls Tryd.prog 57 #[rem rh rl] wr _) := hp
      have HPl : Hid _ := hplus
      clear hp hplus hQ hO hcd hR hE
      go_wp2_with fail
      refine HP.out.mono ?_
      rintro e w5 ⟨rfl, hg5⟩
      have hgw := grownBy_trans hg hg5
      have hb5 : w5.heap[w.heap.size]? = some (boxO rh rl) := by rw [hg5.block _ (lt_of_heap hb) (by simp)]; exact hb
      clear HP hg hg5 hb c0 c1 z0 z1
      obtain ⟨PH, hPH⟩ : ∃ PH, PH = pH rh rl := ⟨_, rfl⟩
      obtain ⟨PL, hPL⟩ : ∃ PL, PL = pL rl := ⟨_, rfl⟩
      rw [← hPH, ← hPL] at hRn HPl
      rw [← hPH, ← hPL]
      clear hPH hPL
      obtain ⟨w6, hw6⟩ : ∃ w6, w6 = w5.alloc (boxO PH PL) := ⟨_, rfl⟩
      have hb6 : w6.heap[w.heap.size]? = some (boxO rh rl) := by rw [hw6, Below.heap_alloc _ _ _ (lt_of_heap hb5)]; exact hb5
      have hm6 : w6.heap[w5.heap.size]? = some (boxO PH PL) := by rw [hw6]; exact heap_alloc_new w5 _
      have hg6 : w.grownBy w6 none := by rw [hw6]; exact grownBy_trans hgw (World.grownBy_alloc _ _ none)
      have q1 : w6.cell? ⟨c, 4 + Q * 2, none⟩ = some (.int .u64 (th : Nat)) := by
        rw [World.cell?_of_block (w := w) (a := ⟨c, 4 + Q * 2, none⟩) (hg6.block c h.lt (by simp))]; exact hq1
      have q2 : w6.cell? ⟨c, 4 + Q * 2 + 1, none⟩ = some (.int .u64 (tl : Nat)) := by
        rw [World.cell?_of_block (w := w) (a := ⟨c, 4 + Q * 2 + 1, none⟩) (hg6.block c h.lt (by simp))]; exact hq2
      obtain ⟨d0, d1, -, -⟩ := box_facts hm6
      have b3 : (Q : Int) < 256 := by omega
      clear hgw hb5 hq1 hq2 hm6
      go_wp2_with fail
      rw [← hw6]
      clear hw6
      go_region_with (go_at_call 58; refine (HPl.out _).mono ?_; rintro e w7 ⟨rfl, hg7⟩; (have hb7 : w7.heap[w.heap.size]? = some (boxO rh rl) := (hg7.block _ (lt_of_heap hb6) (by simp)).trans hb6); (have hgw7 : w.grownBy w7 none := grownBy_trans hg6 ⟨hg7.os, hg7.tape, hg7.output, hg7.size, hg7.block⟩); obtain ⟨c0, c1, z0, z1⟩ := box_facts hb7)
      all_goals
        have hb8 := box_set hb7 (PH ^^^ th) (PL ^^^ tl)
        have hg8 := grownBy_setCell (grownBy_setCell hgw7 (.inl (Nat.le_refl _)) (.int .u64 (PH ^^^ th : Nat)) (i := 0)) (.inl (Nat.le_refl _)) (.int .u64 (PL ^^^ tl : Nat)) (i := 1)
        clear hb7 hgw7 c0 c1 z0 z1
        go_wp2
        go_roundw
        case rel => exact ⟨k + 1, by omega, by go_num, hg8, _, _, hRn, hb8⟩
        case measure => simp [intOf]; omega
    · obtain rfl : k = bs.length := by omega
      obtain ⟨c0, c1, z0, z1⟩ := box_facts hb
      have hO := hR.out h.em
      have hpl := parB_len m t bs
      have hP := bytes_ok (parB m t bs) (bytesS_le _) hO (by rw [hpl]; unfold pS; have := h.r_104; omega)
      rw [hpl] at hP
      have hPar := cParity_ok (h.more (grownBy_drew hg))
      obtain ⟨PS, hPS⟩ : ∃ PS, PS = pS m t := ⟨_, rfl⟩
      rw [← hPS] at hP hPar
      have HPS : Hid (PS = pS m t) := hPS
      have HP : Hid _ := hP
      have HPar : Hid (Calls Tryd.prog 15 #[ptr c] wr.drew _) := hPar
      clear hP hPar hPS hO hR hpl
      go_wp2_with fail
      go_region_with (first | (go_at_call 15; refine HPar.out.mono ?_; rintro e w7 ⟨rfl, rfl⟩) | (go_at_call 59; refine (HP.out _).mono ?_; rintro e w8 ⟨gq, rfl, hq1, hq2, hq3⟩))
      all_goals
        go_wp2
        go_ret
        have hsz := hg.size
        exact ⟨gq, ret_slice2 HPS.out HPS.out, by have : wr.heap.size ≤ gq := hq1; omega, grownBy_trans hg ⟨hq2.os, hq2.tape, hq2.output, hq2.size, hq2.block⟩, hq3⟩
set_option maxHeartbeats 400000 in
theorem cEncode_ok {w : World} {c b m bytes t : Nat} (h : Cod w c b m bytes t) (ad : Option Addr) (cd : Nat) (bs : List Nat) (hd : RdB w ad bs) (hl : bs.length = bytes) :
    Calls Tryd.prog 18 #[ptr c, .slice ad bs.length cd] w fun e w' => ∃ g, e = .returned (.tuple #[.slice (some ⟨g, 0, none⟩) (pS m t) (pS m t), num 0]) ∧ w.heap.size ≤ g ∧ w.grownBy w' none ∧ w'.heap[g]? = some (.cells (valsB (parB m t bs)).toArray 5) := by
  have c1 := h.c1
  have hb2 := h.b2
  have HP : Hid (Calls Tryd.prog 31 #[ptr c, .slice ad bs.length cd] w _) := parityOf_ok h ad cd bs hd (by omega)
  rw [← hl] at c1
  clear hl hb2
  go_enter Tryd.func18, Tryd.ntmps18
  go_wp2_with fail
  refine (cnone_ok h).mono ?_
  rintro e w1 ⟨rfl, rfl⟩
  go_wp2_with fail
  refine HP.out.mono ?_
  rintro e w1 ⟨g, rfl, h1, h2, h3⟩
  go_wp2_with fail
  go_ret2
  exact ⟨g, rfl, h1, h2, h3⟩
set_option maxHeartbeats 400000 in
theorem cEncode_no {w : World} {c b m bytes t : Nat} (h : Cod w c b m bytes t) (ad : Option Addr) (len cd : Nat) (hl : len ≠ bytes) :
    Calls Tryd.prog 18 #[ptr c, .slice ad len cd] w fun e w' => e = .returned (.tuple #[.slice none 0 0, num 1]) ∧ w' = w := by
  have c1 := h.c1
  have hne : ((len : Int) != (bytes : Int)) = true := by simp; omega
  clear hl
  go_enter Tryd.func18, Tryd.ntmps18
  go_wp2_with fail
  refine (cnone_ok h).mono ?_
  rintro e w1 ⟨rfl, rfl⟩
  go_wp2_with fail
  go_ret2
  exact ⟨rfl, rfl⟩
set_option maxHeartbeats 400000 in
theorem cEncode_nil (v : Value) (w : World) :
    Calls Tryd.prog 18 #[.pointer none, v] w fun e w' => e = .returned (.tuple #[.slice none 0 0, num 1]) ∧ w' = w := by
  go_enter Tryd.func18, Tryd.ntmps18
  go_wp2_with fail
  refine (cnone_nil w).mono ?_
  rintro e w1 ⟨rfl, rfl⟩
  go_wp2_with fail
  go_ret2
  exact ⟨rfl, rfl⟩
end Gf
end Go.Proofs.YtiojdoehlooibaaDoor
