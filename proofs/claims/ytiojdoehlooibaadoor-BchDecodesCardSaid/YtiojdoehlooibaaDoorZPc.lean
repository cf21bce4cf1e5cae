/- The register's functions: plus, push, times. -/
import Derived.Test.YtiojdoehlooibaaDoorZPb
import Derived.BigRegion
import Derived.Test.YtiojdoehlooibaaDoorZSc
import Derived.Test.YtiojdoehlooibaaDoorZPa
import Derived.Test.YtiojdoehlooibaaDoorZPd
namespace Go.Proofs.YtiojdoehlooibaaDoor
open Go.RowKit
namespace Gf
abbrev rem (h l : Nat) : Value := .agg #[.int .u64 (h : Nat), .int .u64 (l : Nat)]
theorem xor_u64 {a b : Nat} (ha : W64 a) (hb : W64 b) : bits .xor .u64 (a : Int) (b : Int) = ((a ^^^ b : Nat) : Int) := by
  have hx : a ^^^ b < 2 ^ 64 := Nat.xor_lt_two_pow (n := 64) ha hb
  have h1 : (BitVec.ofInt 64 (a : Int)).toNat = a := by
    rw [BitVec.ofInt_natCast, BitVec.toNat_ofNat]; exact Nat.mod_eq_of_lt ha
  have h2 : (BitVec.ofInt 64 (b : Int)).toNat = b := by
    rw [BitVec.ofInt_natCast, BitVec.toNat_ofNat]; exact Nat.mod_eq_of_lt hb
  show IntKind.u64.wrap ((BitVec.ofInt 64 (a : Int) ^^^ BitVec.ofInt 64 (b : Int)).toNat : Int) = _
  rw [BitVec.toNat_xor, h1, h2, IntKind.wrap_u64]
  omega
theorem or_u64 {a b : Nat} (ha : W64 a) (hb : W64 b) : bits .or .u64 (a : Int) (b : Int) = ((a ||| b : Nat) : Int) :=
  (bits_nat .u64 64 (by decide) (fun n h1 h2 => by
    have h3 : n < 18446744073709551616 := by simpa using h2
    rw [IntKind.wrap_u64]; omega) a b ha hb).2
theorem shl_u64 (a k : Nat) (c : Int) (hc : c = ((2 ^ k : Nat) : Int)) : IntKind.u64.wrap ((a : Int) * c) = ((a <<< k % 2 ^ 64 : Nat) : Int) := by
  rw [IntKind.wrap_u64, Nat.shiftLeft_eq, hc]
  simp
theorem shr_u64 (a k : Nat) (c : Int) (hc : c = ((2 ^ k : Nat) : Int)) : (a : Int) / c = ((a >>> k : Nat) : Int) := by
  rw [Nat.shiftRight_eq_div_pow, hc]
  simp
theorem pH_val {h l : Nat} (hl : W64 l) : bits .or .u64 (IntKind.u64.wrap ((h : Int) * 256)) ((l : Int) / 72057594037927936) = ((pH h l : Nat) : Int) := by
  rw [shl_u64 h 8 256 (by decide), shr_u64 l 56 _ (by decide), or_u64 (w64_mod _) (w64_shr hl _)]; rfl
theorem pL_val (l : Nat) : IntKind.u64.wrap ((l : Int) * 256) = ((pL l : Nat) : Int) := shl_u64 l 8 256 (by decide)
theorem tH_val {h l : Nat} (hl : W64 l) : bits .or .u64 (IntKind.u64.wrap ((h : Int) * 2)) ((l : Int) / 9223372036854775808) = ((tH h l : Nat) : Int) := by
  rw [shl_u64 h 1 2 (by decide), shr_u64 l 63 _ (by decide), or_u64 (w64_mod _) (w64_shr hl _)]; rfl
theorem tL_val (l : Nat) : IntKind.u64.wrap ((l : Int) * 2) = ((tL l : Nat) : Int) := shl_u64 l 1 2 (by decide)
theorem out_val {h : Nat} (hh : W64 h) : (h : Int) / 72057594037927936 % 256 = ((h >>> 56 : Nat) : Int) := by
  have := top_le hh
  rw [shr_u64 h 56 _ (by decide)]; omega
theorem heap_alloc_at {w : World} {n : Nat} (o : Obj) (h : n = w.heap.size) : (w.alloc o).heap[n]? = some o := by rw [h]; exact heap_alloc_new w o
set_option maxHeartbeats 400000 in
theorem plus_ok {h l h' l' : Nat} (k1 : W64 h) (k2 : W64 l) (k3 : W64 h') (k4 : W64 l') (w : World) :
    Calls Tryd.prog 58 #[rem h l, rem h' l'] w fun e w' => e = .returned (rem (h ^^^ h') (l ^^^ l')) ∧ w.grownBy w' none := by
  have HA : Hid _ := xor_u64 k1 k3
  have HB : Hid _ := xor_u64 k2 k4
  clear k1 k2 k3 k4
  go_enter Tryd.func58, Tryd.ntmps58
  go_wp2
  refine bodyPost_ret (v := rem (h ^^^ h') (l ^^^ l')) (by simp [results, Tryd.f58, go_sem]; exact ⟨HA.out, HB.out⟩) rfl ⟨rfl, ?_⟩
  exact grownBy_trans (grownBy_trans (World.grownBy_alloc _ _ none) (World.grownBy_alloc _ _ none)) (World.grownBy_alloc _ _ none)
set_option maxHeartbeats 1600000 in
theorem push_ok {h l : Nat} (k1 : W64 h) (k2 : W64 l) (w : World) :
    Calls Tryd.prog 57 #[rem h l] w fun e w' => e = .returned (.tuple #[.int .u8 (h >>> 56 : Nat), rem (pH h l) (pL l)]) ∧ w.grownBy w' none := by
  have HA : Hid _ := pH_val (h := h) k2
  have HB : Hid _ := pL_val l
  have HO : Hid _ := out_val k1
  clear k1 k2
  go_enter Tryd.func57, Tryd.ntmps57
  go_wp2_with fail
  go_region
  all_goals
    go_wp2
    refine bodyPost_ret (v := .tuple #[.int .u8 (h >>> 56 : Nat), rem (pH h l) (pL l)]) (by simp [results, Tryd.f57, go_sem]; exact ⟨HO.out, HA.out, HB.out⟩) rfl ⟨rfl, ?_⟩
    exact grownBy_drew (grownBy_trans (World.grownBy_alloc _ _ none) (World.grownBy_alloc _ _ none))
set_option maxHeartbeats 800000 in
theorem times_ok' {h l bh bl : Nat} (k2 : W64 l) (k3 : W64 bh) (k4 : W64 bl) (w : World) :
    Calls Tryd.prog 52 #[rem h l, rem bh bl] w fun e w' => e = .returned (rem (if h >>> 63 = 0 then tH h l else tH h l ^^^ bh) (if h >>> 63 = 0 then tL l else tL l ^^^ bl)) ∧ w.grownBy w' none := by
  have HA : Hid _ := tH_val (h := h) k2
  have HB : Hid _ := tL_val l
  have HT : Hid _ := shr_u64 h 63 9223372036854775808 (by decide)
  have hp := plus_ok (w64_tH h k2) (w64_tL l) k3 k4
  clear k2 k3 k4
  by_cases e : h >>> 63 = 0
  · have H1 : Hid ((((h : Int) / 9223372036854775808) == 0) = true) := by rw [Hid, HT.out, e]; rfl
    rw [if_pos e, if_pos e]
    clear e hp
    have h1 := H1.out
    go_enter Tryd.func52, Tryd.ntmps52
    go_wp2
    refine bodyPost_ret (v := rem (tH h l) (tL l)) (by simp [results, Tryd.f52, go_sem]; exact ⟨HA.out, HB.out⟩) rfl ⟨rfl, ?_⟩
    exact grownBy_trans (grownBy_trans (grownBy_trans (World.grownBy_alloc _ _ none) (World.grownBy_alloc _ _ none)) (World.grownBy_alloc _ _ none)) (World.grownBy_alloc _ _ none)
  · have H1 : Hid ((((h : Int) / 9223372036854775808) == 0) = false) := by rw [Hid, HT.out]; exact beq_eq_false_iff_ne.2 (by omega)
    rw [if_neg e, if_neg e]
    clear e
    have h1 := H1.out
    have HP : Hid _ := hp
    clear hp
    obtain ⟨W4, hW4⟩ : ∃ W4, W4 = (((w.alloc (.cells #[.int .u64 (h : Nat), .int .u64 (l : Nat)] 60)).alloc (.cells #[.int .u64 (bh : Nat), .int .u64 (bl : Nat)] 60)).alloc (.cells #[.int .u64 0, .int .u64 0] 60)).alloc (.cells #[.int .u64 (tH h l : Nat), .int .u64 (tL l : Nat)] 60) := ⟨_, rfl⟩
    have hg4 : w.grownBy W4 none := by
      rw [hW4]
      exact grownBy_trans (grownBy_trans (grownBy_trans (World.grownBy_alloc _ _ none) (World.grownBy_alloc _ _ none)) (World.grownBy_alloc _ _ none)) (World.grownBy_alloc _ _ none)
    have hb4 : W4.heap[w.heap.size + 1 + 1]? = some (.cells #[.int .u64 0, .int .u64 0] 60) := by
      rw [hW4, Below.heap_alloc _ _ _ (by simp)]
      exact heap_alloc_at _ (by simp)
    go_enter Tryd.func52, Tryd.ntmps52
    go_wp2_with fail
    rw [HA.out, HB.out, ← hW4]
    refine (HP.out W4).mono ?_
    rintro e w5 ⟨rfl, hg5⟩
    have hb5 : w5.heap[w.heap.size + 1 + 1]? = some (.cells #[.int .u64 0, .int .u64 0] 60) := by
      rw [hg5.block _ (lt_of_heap hb4) (by simp)]; exact hb4
    have hgw := grownBy_trans hg4 hg5
    have c0 : w5.cell? ⟨w.heap.size + 1 + 1, 0, none⟩ = some (.int .u64 0) := by simp [World.cell?, hb5]
    have c1 : w5.cell? ⟨w.heap.size + 1 + 1, 1, none⟩ = some (.int .u64 0) := by simp [World.cell?, hb5]
    have z0 : w5.frozen? ⟨w.heap.size + 1 + 1, 0, none⟩ = false := by simp [World.frozen?, hb5]
    have z1 : w5.frozen? ⟨w.heap.size + 1 + 1, 1, none⟩ = false := by simp [World.frozen?, hb5]
    clear hb5 hb4 hg4 hW4 HP
    go_wp2
    refine bodyPost_ret (v := rem (tH h l ^^^ bh) (tL l ^^^ bl)) (by simp [results, Tryd.f52, go_sem, c0, c1]) rfl ⟨rfl, ?_⟩
    exact grownBy_setCell (grownBy_setCell hgw (.inl (by omega)) _) (.inl (by omega)) _
end Gf
end Go.Proofs.YtiojdoehlooibaaDoor

/- The register's functions: bytes, lower. -/
namespace Go.Proofs.YtiojdoehlooibaaDoor
open Go.RowKit
namespace Gf
/-- The first k of a row, noughts behind. -/
def fst (P : List Nat) (k : Nat) : List Nat := P.take k ++ List.replicate (P.length - k) 0
theorem fst_len (P : List Nat) {k : Nat} (h : k ≤ P.length) : (fst P k).length = P.length := by simp [fst]; omega
theorem fst_zero (P : List Nat) : fst P 0 = List.replicate P.length 0 := by simp [fst]
theorem fst_all (P : List Nat) : fst P P.length = P := by simp [fst]
theorem fst_set (P : List Nat) {k : Nat} (h : k < P.length) : (fst P k).set k (nth P k) = fst P (k + 1) := by
  unfold fst
  rw [List.set_append_right _ _ (by simp; omega), take_snoc' h, List.append_assoc]
  congr 1
  rw [List.length_take, Nat.min_eq_left (by omega), Nat.sub_self, show P.length - k = P.length - (k + 1) + 1 by omega, List.replicate_succ]
  rfl
/-- A box of two. -/
abbrev boxO (h l : Nat) : Obj := .cells #[.int .u64 (h : Nat), .int .u64 (l : Nat)] 60
theorem box_facts {w : World} {g h l : Nat} (hb : w.heap[g]? = some (boxO h l)) : w.cell? ⟨g, 0, none⟩ = some (.int .u64 (h : Nat)) ∧ w.cell? ⟨g, 1, none⟩ = some (.int .u64 (l : Nat)) ∧ w.frozen? ⟨g, 0, none⟩ = false ∧ w.frozen? ⟨g, 1, none⟩ = false := by
  simp [World.cell?, World.frozen?, hb]
theorem box_set {w : World} {g h l : Nat} (hb : w.heap[g]? = some (boxO h l)) (h' l' : Nat) : ((w.setCell ⟨g, 0, none⟩ (.int .u64 (h' : Nat))).setCell ⟨g, 1, none⟩ (.int .u64 (l' : Nat))).heap[g]? = some (boxO h' l') := by
  have h1 := setCell_row (L := [.int .u64 (h : Nat), .int .u64 (l : Nat)]) (i := 0) hb (.int .u64 (h' : Nat))
  have h2 := setCell_row (L := [.int .u64 (h' : Nat), .int .u64 (l : Nat)]) (i := 1) h1 (.int .u64 (l' : Nat))
  exact h2
set_option maxHeartbeats 800000 in
set_option maxRecDepth 4000 in
theorem bytes_ok {h l : Nat} (P : List Nat) (hP : ∀ k, nth P k ≤ 255) (hO : Out P 0 h l) (hl : P.length ≤ 100000) (w : World) :
    Calls Tryd.prog 59 #[rem h l, num P.length] w fun e w' => ∃ g, e = .returned (.slice (some ⟨g, 0, none⟩) P.length P.length) ∧ w.heap.size ≤ g ∧ w.grownBy w' none ∧ w'.heap[g]? = some (.cells (valsB P).toArray 5) := by
  obtain ⟨i0, hi, hz0, hz1, hz2⟩ := info_parts Tryd.info5
  have hg2 : w.grownBy ((w.alloc (boxO h l)).alloc (.cells (List.replicate P.length (.int .u8 0)).toArray 5)) none := grownBy_trans (World.grownBy_alloc _ _ none) (World.grownBy_alloc _ _ none)
  have hb2 : ((w.alloc (boxO h l)).alloc (.cells (List.replicate P.length (.int .u8 0)).toArray 5)).heap[w.heap.size]? = some (boxO h l) := by rw [Below.heap_alloc _ _ _ (by simp)]; exact heap_alloc_new w _
  have hr2 : ((w.alloc (boxO h l)).alloc (.cells (List.replicate P.length (.int .u8 0)).toArray 5)).heap[w.heap.size + 1]? = some (.cells (valsB (fst P 0)).toArray 5) := by rw [fst_zero, ← valsB_zeros]; exact heap_alloc_at _ (by simp)
  go_enter Tryd.func59, Tryd.ntmps59
  go_wp2_with (first | (at_make; go_must (refine wpList_make_byte _ rfl _ _ 35 rfl 5 i0 Tryd.underlying35 hi hz0 hz1 hz2 .i64 .i64 _ _ P.length rfl rfl (by omega) (by omega) (by omega) ?_)))
  go_loopw [11] (fun i wr => ∃ k : Nat, k ≤ P.length ∧ i = num k ∧ w.grownBy wr none ∧ ∃ h l, Out P k h l ∧ wr.heap[w.heap.size]? = some (boxO h l) ∧ wr.heap[w.heap.size + 1]? = some (.cells (valsB (fst P k)).toArray 5)) (fun i _ => P.length - (intOf i).toNat)
  case atStart => exact ⟨0, Nat.zero_le _, rfl, hg2, h, l, hO, hb2, hr2⟩
  case round =>
    clear hO hg2 hb2 hr2
    obtain ⟨k, hk, rfl, hg, h, l, hO, hb, hr⟩ := hrel
    by_cases hlt : k < P.length
    · have b1 : (k : Int) < (P.length : Int) := by omega
      obtain ⟨c0, c1, z0, z1⟩ := box_facts hb
      have HB : Hid _ := hO.byte hP
      have hO2 := hO.step
      have hp := push_ok hO.hi hO.lo wr
      rw [HB.out] at hp
      have HP : Hid (Calls Tryd.prog 57 #[rem h l] wr _) := hp
      clear hp hO
      go_wp2_with fail
      refine HP.out.mono ?_
      rintro e w5 ⟨rfl, hg5⟩
      have hb5 : w5.heap[w.heap.size]? = some (boxO h l) := by rw [hg5.block _ (lt_of_heap hb) (by simp)]; exact hb
      have hr5 : w5.heap[w.heap.size + 1]? = some (.cells (valsB (fst P k)).toArray 5) := by rw [hg5.block _ (lt_of_heap hr) (by simp)]; exact hr
      have hgw := grownBy_trans hg hg5
      have hfl := fst_len P (k := k) (by omega)
      have cr : w5.cell? ⟨w.heap.size + 1, k, none⟩ = some (.int .u8 (nth (fst P k) k : Nat)) := by rw [cell_row hr5, valsB_at (by omega)]
      have zr : w5.frozen? ⟨w.heap.size + 1, k, none⟩ = false := frozen_row hr5
      obtain ⟨w6, hw6⟩ : ∃ w6, w6 = w5.setCell ⟨w.heap.size + 1, k, none⟩ (.int .u8 (nth P k : Nat)) := ⟨_, rfl⟩
      have hr6 : w6.heap[w.heap.size + 1]? = some (.cells (valsB (fst P (k + 1))).toArray 5) := by
        rw [hw6, ← fst_set P hlt, ← valsB_set]
        exact setCell_row hr5 _
      have hb6 : w6.heap[w.heap.size]? = some (boxO h l) := by rw [hw6, setCell_else (by omega)]; exact hb5
      have hg6 : w.grownBy w6 none := by rw [hw6]; exact grownBy_setCell hgw (.inl (by omega)) _
      clear c0 c1 z0 z1
      obtain ⟨c0, c1, z0, z1⟩ := box_facts hb6
      obtain ⟨d0, d1, y0, y1⟩ := box_facts hb5
      have hb7 := box_set hb6 (pH h l) (pL l)
      have hr7 : ((w6.setCell ⟨w.heap.size, 0, none⟩ (.int .u64 (pH h l : Nat))).setCell ⟨w.heap.size, 1, none⟩ (.int .u64 (pL l : Nat))).heap[w.heap.size + 1]? = some (.cells (valsB (fst P (k + 1))).toArray 5) := by
        rw [setCell_else (by omega), setCell_else (by omega)]; exact hr6
      have hg7 := grownBy_setCell (grownBy_setCell hg6 (.inl (Nat.le_refl _)) (.int .u64 (pH h l : Nat)) (i := 0)) (.inl (Nat.le_refl _)) (.int .u64 (pL l : Nat)) (i := 1)
      clear HP hb hr hb5 hr5 hg hg5 hgw hb6 hr6 hg6
      subst hw6
      go_wp2_with fail
      go_roundw
      case rel => exact ⟨k + 1, by omega, by go_num, hg7, _, _, hO2, hb7, hr7⟩
      case measure => simp [intOf]; omega
    · obtain rfl : k = P.length := by omega
      rw [fst_all] at hr
      clear hb hO
      go_wp2_with fail
      go_ret
      exact ⟨w.heap.size + 1, rfl, by omega, hg, hr⟩
end Gf
end Go.Proofs.YtiojdoehlooibaaDoor

/- The register's functions: lower. -/
namespace Go.Proofs.YtiojdoehlooibaaDoor
open Go.RowKit
namespace Gf
theorem oH_val {h a : Nat} (hh : W64 h) (ha : a ≤ 1) : bits .or .u64 ((h : Int) / 2) ((a : Int) * 9223372036854775808) = ((oH h a : Nat) : Int) := by
  rw [show (a : Int) * 9223372036854775808 = IntKind.u64.wrap ((a : Int) * 9223372036854775808) by rw [IntKind.wrap_u64]; omega, shr_u64 h 1 2 (by decide), shl_u64 a 63 _ (by decide), or_u64 (w64_shr hh _) (w64_mod _)]; rfl
theorem oL_val {h l : Nat} (hl : W64 l) : bits .or .u64 ((l : Int) / 2) (IntKind.u64.wrap ((h : Int) * 9223372036854775808)) = ((oL h l : Nat) : Int) := by
  rw [shr_u64 l 1 2 (by decide), shl_u64 h 63 _ (by decide), or_u64 (w64_shr hl _) (w64_mod _)]; rfl
set_option maxHeartbeats 800000 in
set_option maxRecDepth 4000 in
theorem lower_ok {w : World} (ao : Option Addr) (cap : Nat) (g : List Nat) (hg : RdN w ao g) (hB : Bits g) (h2 : 2 ≤ g.length) (hl : g.length ≤ 128) (hcap : g.length ≤ cap) :
    Calls Tryd.prog 51 #[.slice ao g.length cap] w fun e w' => ∃ h l, e = .returned (rem h l) ∧ Low g (g.length - 1) h l ∧ w.grownBy w' none := by
  obtain ⟨gg, og, rfl, hc⟩ := hg.resolve_left (fun e => by rw [e] at h2; simp at h2)
  have hgl := lt_of_cell (hc 0 (by omega))
  have hg2 : w.grownBy ((w.alloc (boxO 0 0)).alloc (boxO 0 0)) none := grownBy_trans (World.grownBy_alloc _ _ none) (World.grownBy_alloc _ _ none)
  have hb2 : ((w.alloc (boxO 0 0)).alloc (boxO 0 0)).heap[w.heap.size]? = some (boxO 0 0) := by rw [Below.heap_alloc _ _ _ (by simp)]; exact heap_alloc_new w _
  have hr2 : ((w.alloc (boxO 0 0)).alloc (boxO 0 0)).heap[w.heap.size + 1]? = some (boxO 0 0) := heap_alloc_at _ (by simp)
  go_enter Tryd.func51, Tryd.ntmps51
  go_wp2_with fail
  go_loopw [12] (fun i wr => ∃ k : Nat, k ≤ g.length - 1 ∧ i = num k ∧ w.grownBy wr none ∧ wr.heap[w.heap.size]? = some (boxO 0 0) ∧ ∃ h l, Low g k h l ∧ wr.heap[w.heap.size + 1]? = some (boxO h l)) (fun i _ => g.length - 1 - (intOf i).toNat)
  case atStart => exact ⟨0, Nat.zero_le _, rfl, hg2, hb2, 0, 0, Low.start g, hr2⟩
  case round =>
    clear hg2 hb2 hr2
    obtain ⟨k, hk, rfl, hgr, hb, h, l, hO, hr⟩ := hrel
    by_cases hlt : k < g.length - 1
    · have b1 : (k : Int) < (g.length : Int) - 1 := by omega
      have ck : wr.cell? ⟨gg, og + k, none⟩ = some (num (nth g k : Nat)) := by
        rw [World.cell?_of_block (w := w) (a := ⟨gg, og + k, none⟩) (hgr.block gg hgl (by simp))]; exact hc k (by omega)
      have hbk := hB k
      have HH : Hid _ := oH_val hO.hi hbk
      have HL : Hid _ := oL_val (h := h) hO.lo
      have hO2 := hO.step hB (by omega)
      obtain ⟨c0, c1, z0, z1⟩ := box_facts hr
      have hr7 := box_set hr (oH h (nth g k)) (oL h l)
      have hb7 : ((wr.setCell ⟨w.heap.size + 1, 0, none⟩ (.int .u64 (oH h (nth g k) : Nat))).setCell ⟨w.heap.size + 1, 1, none⟩ (.int .u64 (oL h l : Nat))).heap[w.heap.size]? = some (boxO 0 0) := by
        rw [setCell_else (by omega), setCell_else (by omega)]; exact hb
      have hg7 := grownBy_setCell (grownBy_setCell hgr (.inl (by omega : w.heap.size ≤ w.heap.size + 1)) (.int .u64 (oH h (nth g k) : Nat)) (i := 0)) (.inl (by omega : w.heap.size ≤ w.heap.size + 1)) (.int .u64 (oL h l : Nat)) (i := 1)
      clear hb hr hgr hO hc
      have hw1 : IntKind.u64.wrap (nth g k : Int) = (nth g k : Int) := by rw [IntKind.wrap_u64]; omega
      go_wp2_with fail
      go_roundw
      case rel => exact ⟨k + 1, by omega, by go_num, by rw [HH.out, HL.out]; exact hg7, by rw [HH.out, HL.out]; exact hb7, _, _, hO2, by rw [HH.out, HL.out]; exact hr7⟩
      case measure => simp [intOf]; omega
    · obtain rfl : k = g.length - 1 := by omega
      obtain ⟨c0, c1, z0, z1⟩ := box_facts hr
      obtain ⟨d0, d1, y0, y1⟩ := box_facts hb
      have b1 : ¬ ((g.length - 1 : Nat) : Int) < (g.length : Int) - 1 := by omega
      go_wp2_with fail
      refine bodyPost_ret (v := rem h l) (by simp [results, Tryd.f51, go_sem, d0, d1]) rfl ⟨h, l, rfl, hO, ?_⟩
      exact grownBy_setCell (grownBy_setCell hgr (.inl (by omega)) _) (.inl (by omega)) _
end Gf
end Go.Proofs.YtiojdoehlooibaaDoor

/- The register's functions: restsBy. -/
namespace Go.Proofs.YtiojdoehlooibaaDoor
open Go.RowKit
namespace Gf
/-- The table's first n entries are right. -/
def Table (b : Reg) (T : List Value) (n : Nat) : Prop := T.length = 512 ∧ (∀ v ∈ T, v.oneCell' = true) ∧ ∀ q, q < n → ∃ th tl, Ent8 b q th tl ∧ T[2 * q]? = some (.int .u64 (th : Nat)) ∧ T[2 * q + 1]? = some (.int .u64 (tl : Nat))
theorem zone61 : ∀ v ∈ Tryd.zeroCells61.toList, v.oneCell' = true := List.all_eq_true.1 (by kernel_rfl)
theorem zlen61 : Tryd.zeroCells61.toList.length = 512 := by kernel_rfl
theorem Table.start (b : Reg) : Table b Tryd.zeroCells61.toList 0 := ⟨zlen61, zone61, fun q hq => by omega⟩
theorem Table.store {b : Reg} {T : List Value} {k th tl : Nat} (h : Table b T k) (hk : k < 256) (e : Ent8 b k th tl) : Table b ((T.set (2 * k) (.int .u64 (th : Nat))).set (2 * k + 1) (.int .u64 (tl : Nat))) (k + 1) := by
  refine ⟨by simp [h.1], fun v hv => ?_, fun q hq => ?_⟩
  · rcases List.mem_or_eq_of_mem_set hv with hv | rfl
    · rcases List.mem_or_eq_of_mem_set hv with hv | rfl
      · exact h.2.1 v hv
      · rfl
    · rfl
  · have hl := h.1
    by_cases eq : q = k
    · subst eq
      refine ⟨th, tl, e, ?_, ?_⟩
      · rw [List.getElem?_set_ne (by omega), List.getElem?_set_self (by omega)]
      · rw [List.getElem?_set_self (by simp; omega)]
    · obtain ⟨a, b', h1, h2, h3⟩ := h.2.2 q (by omega)
      refine ⟨a, b', h1, ?_, ?_⟩
      · rw [List.getElem?_set_ne (by omega), List.getElem?_set_ne (by omega)]; exact h2
      · rw [List.getElem?_set_ne (by omega), List.getElem?_set_ne (by omega)]; exact h3
set_option maxHeartbeats 1600000 in
set_option maxRecDepth 4000 in
theorem restsBy_ok {w : World} (ao : Option Addr) (cap : Nat) (g : List Nat) (hg : RdN w ao g) (hB : Bits g) (h2 : 2 ≤ g.length) (hl : g.length ≤ 128) (hcap : g.length ≤ cap) :
    Calls Tryd.prog 27 #[.slice ao g.length cap] w fun e w' => ∃ bh bl T, Low g (g.length - 1) bh bl ∧ e = .returned (.agg (List.toArray T)) ∧ Table (rb bh bl) T 256 ∧ w.grownBy w' none := by
  have hg2 : w.grownBy ((w.alloc (.cells Tryd.zeroCells61 61)).alloc (.cells Tryd.zeroCells61 61)) none := grownBy_trans (World.grownBy_alloc _ _ none) (World.grownBy_alloc _ _ none)
  have hr0 : ((w.alloc (.cells Tryd.zeroCells61 61)).alloc (.cells Tryd.zeroCells61 61)).heap[w.heap.size]? = some (.cells Tryd.zeroCells61.toList.toArray 61) := by
    rw [Below.heap_alloc _ _ _ (by simp)]; exact heap_alloc_new w _
  have hr1 : ((w.alloc (.cells Tryd.zeroCells61 61)).alloc (.cells Tryd.zeroCells61 61)).heap[w.heap.size + 1]? = some (.cells Tryd.zeroCells61.toList.toArray 61) := heap_alloc_at _ (by simp)
  have hlo := lower_ok ao cap g (hg.more hg2) hB h2 hl hcap
  have HLo : Hid (Calls Tryd.prog 51 #[.slice ao g.length cap] ((w.alloc (.cells Tryd.zeroCells61 61)).alloc (.cells Tryd.zeroCells61 61)) _) := hlo
  clear hlo
  go_enter Tryd.func27, Tryd.ntmps27
  go_wp2_with fail
  refine HLo.out.mono ?_
  rintro e w3 ⟨bh, bl, rfl, hLow, hg3⟩
  have hk1 : w3.heap[w.heap.size]? = some (.cells Tryd.zeroCells61.toList.toArray 61) := by rw [hg3.block _ (lt_of_heap hr0) (by simp)]; exact hr0
  have hk2 : w3.heap[w.heap.size + 1]? = some (.cells Tryd.zeroCells61.toList.toArray 61) := by rw [hg3.block _ (lt_of_heap hr1) (by simp)]; exact hr1
  have hgw3 : w.grownBy w3 none := grownBy_trans hg2 hg3
  have hs3 := lt_of_heap hk2
  clear hr0 hr1 HLo hg2 hg3 hg
  have hA1 : (w3.alloc (boxO bh bl)).heap[w.heap.size]? = some (.cells Tryd.zeroCells61.toList.toArray 61) := by rw [Below.heap_alloc _ _ _ (by omega)]; exact hk1
  have hA2 : (w3.alloc (boxO bh bl)).heap[w.heap.size + 1]? = some (.cells Tryd.zeroCells61.toList.toArray 61) := by rw [Below.heap_alloc _ _ _ (by omega)]; exact hk2
  have hA3 : (w3.alloc (boxO bh bl)).heap[w3.heap.size]? = some (boxO bh bl) := heap_alloc_new w3 _
  have hA4 : w.grownBy (w3.alloc (boxO bh bl)) none := grownBy_trans hgw3 (World.grownBy_alloc _ _ none)
  clear hk1 hk2 hgw3
  obtain ⟨Z, hZ⟩ : ∃ Z, Z = Tryd.zeroCells61.toList := ⟨_, rfl⟩
  have hT0 : Table (rb bh bl) Z 0 := by rw [hZ]; exact Table.start _
  have hZl : Z.length = 512 := hT0.1
  rw [← hZ] at hA1 hA2
  clear hZ
  go_wp2_with fail
  go_loopw [9] (fun i wr => ∃ k : Nat, k ≤ 256 ∧ i = num k ∧ w.grownBy wr none ∧ wr.heap[w.heap.size]? = some (.cells Z.toArray 61) ∧ wr.heap[w3.heap.size]? = some (boxO bh bl) ∧ ∃ T, Table (rb bh bl) T k ∧ wr.heap[w.heap.size + 1]? = some (.cells T.toArray 61)) (fun i _ => 256 - (intOf i).toNat)
  case atStart => exact ⟨0, by omega, rfl, hA4, hA1, hA3, Z, hT0, hA2⟩
  case round =>
    clear hA1 hA2 hA3 hA4
    obtain ⟨k, hk, rfl, hgr, hz, hbx, T, hT, hr⟩ := hrel
    have hTl : T.length = 512 := hT.1
    by_cases hlt : k < 256
    · have b1 : (k : Int) < 256 := by omega
      obtain ⟨Q0, hQ0⟩ : ∃ Q0, Q0 = k <<< 56 := ⟨_, rfl⟩
      have HS : Hid ((k : Int) * (72057594037927936 : Int) = ((Q0 : Nat) : Int)) := by rw [Hid, hQ0, Nat.shiftLeft_eq]; simp
      have hTm := Tm.start (rb bh bl) (q := k) (by omega)
      rw [← hQ0] at hTm
      clear hQ0
      have hs := lt_of_heap hbx
      have hs1 := lt_of_heap hr
      have hB1 : (wr.alloc (boxO Q0 0)).heap[w.heap.size]? = some (.cells Z.toArray 61) := by rw [Below.heap_alloc _ _ _ (by omega)]; exact hz
      have hB2 : (wr.alloc (boxO Q0 0)).heap[w3.heap.size]? = some (boxO bh bl) := by rw [Below.heap_alloc _ _ _ (by omega)]; exact hbx
      have hB3 : (wr.alloc (boxO Q0 0)).heap[w.heap.size + 1]? = some (.cells T.toArray 61) := by rw [Below.heap_alloc _ _ _ (by omega)]; exact hr
      have hB4 : (wr.alloc (boxO Q0 0)).heap[wr.heap.size]? = some (boxO Q0 0) := heap_alloc_new wr _
      have hB5 : w.grownBy (wr.alloc (boxO Q0 0)) none := grownBy_trans hgr (World.grownBy_alloc _ _ none)
      have hsz := hgr.size
      obtain ⟨X, hX⟩ : ∃ X, X = wr.heap.size := ⟨_, rfl⟩
      have HX : Hid (wr.heap.size = X) := hX.symm
      rw [← hX] at hs hs1 hB4 hsz
      clear hX hz hbx hr
      go_wp2_with fail
      rw [HS.out, HX.out]
      obtain ⟨W1, hW1⟩ : ∃ W1, W1 = wr.alloc (boxO Q0 0) := ⟨_, rfl⟩
      rw [← hW1] at hB1 hB2 hB3 hB4 hB5
      have HW1 : Hid (wr.alloc (.cells #[.int .u64 ((Q0 : Nat) : Int), .int .u64 0] 60) = W1) := hW1.symm
      rw [HW1.out]
      clear hgr hW1 HW1 HX HS
      go_loopw [16] (fun i ws => ∃ n : Nat, n ≤ 8 ∧ i = num n ∧ w.grownBy ws none ∧ ws.heap[w.heap.size]? = some (.cells Z.toArray 61) ∧ ws.heap[w3.heap.size]? = some (boxO bh bl) ∧ ws.heap[w.heap.size + 1]? = some (.cells T.toArray 61) ∧ ∃ h l, Tm (rb bh bl) k n h l ∧ ws.heap[X]? = some (boxO h l)) (fun i _ => 8 - (intOf i).toNat)
      case atStart => exact ⟨0, by omega, rfl, hB5, hB1, hB2, hB3, _, _, hTm, hB4⟩
      case round =>
        clear hB1 hB2 hB3 hB4 hB5 hTm
        obtain ⟨n, hn, rfl, hgr, hz, hbx, hr, h, l, hTm, hx⟩ := hrel
        by_cases hn8 : n < 8
        · have b2 : (n : Int) < 8 := by omega
          obtain ⟨c0, c1, z0, z1⟩ := box_facts hx
          obtain ⟨d0, d1, y0, y1⟩ := box_facts hbx
          have hTn := hTm.step (fun j => rfl) hLow.hi hLow.lo
          have htm := times_ok' (h := h) hTm.lo hLow.hi hLow.lo
          obtain ⟨H', hH'⟩ : ∃ H', H' = (if h >>> 63 = 0 then tH h l else tH h l ^^^ bh) := ⟨_, rfl⟩
          obtain ⟨L', hL'⟩ : ∃ L', L' = (if h >>> 63 = 0 then tL l else tL l ^^^ bl) := ⟨_, rfl⟩
          rw [← hH', ← hL'] at hTn
          rw [← hH', ← hL'] at htm
          have HTm : Hid (Calls Tryd.prog 52 #[rem h l, rem bh bl] wr _) := htm wr
          clear hH' hL' htm
          go_wp2_with fail
          refine HTm.out.mono ?_
          rintro e w5 ⟨rfl, hg5⟩
          have hgw := grownBy_trans hgr hg5
          have hz5 : w5.heap[w.heap.size]? = some (.cells Z.toArray 61) := by rw [hg5.block _ (lt_of_heap hz) (by simp)]; exact hz
          have hbx5 : w5.heap[w3.heap.size]? = some (boxO bh bl) := by rw [hg5.block _ (lt_of_heap hbx) (by simp)]; exact hbx
          have hr5 : w5.heap[w.heap.size + 1]? = some (.cells T.toArray 61) := by rw [hg5.block _ (lt_of_heap hr) (by simp)]; exact hr
          have hx5 : w5.heap[X]? = some (boxO h l) := by rw [hg5.block _ (lt_of_heap hx) (by simp)]; exact hx
          clear HTm hz hbx hr hx hg5 hgr c0 c1 z0 z1 d0 d1 y0 y1 hTm
          obtain ⟨c0, c1, z0, z1⟩ := box_facts hx5
          have hx6 := box_set hx5 H' L'
          have hg6 := grownBy_setCell (grownBy_setCell hgw (.inl hsz) (.int .u64 (H' : Nat)) (i := 0)) (.inl hsz) (.int .u64 (L' : Nat)) (i := 1)
          have hoth : ∀ {q : Nat} {o : Obj}, q ≠ X → w5.heap[q]? = some o → ((w5.setCell ⟨X, 0, none⟩ (.int .u64 (H' : Nat))).setCell ⟨X, 1, none⟩ (.int .u64 (L' : Nat))).heap[q]? = some o := fun hq e => by
            rw [setCell_else hq, setCell_else hq]; exact e
          have hz6 := hoth (by omega) hz5
          have hbx6 := hoth (by omega) hbx5
          have hr6 := hoth (by omega) hr5
          clear hoth hz5 hbx5 hr5 hx5 hgw
          go_wp2_with fail
          go_roundw
          case rel => exact ⟨n + 1, by omega, by go_num, hg6, hz6, hbx6, hr6, _, _, hTn, hx6⟩
          case measure => simp [intOf]; omega
        · obtain rfl : n = 8 := by omega
          obtain ⟨c0, c1, z0, z1⟩ := box_facts hx
          have t0 : ∃ v, wr.cell? ⟨w.heap.size + 1, k * 2, none⟩ = some v := ⟨T[k * 2]'(by omega), by rw [cell_row hr]; simp [show k * 2 < T.length by omega]⟩
          have t1 : ∃ v, wr.cell? ⟨w.heap.size + 1, k * 2 + 1, none⟩ = some v := ⟨T[k * 2 + 1]'(by omega), by rw [cell_row hr]; simp [show k * 2 + 1 < T.length by omega]⟩
          obtain ⟨v0, t0⟩ := t0
          obtain ⟨v1, t1⟩ := t1
          have f0 : wr.frozen? ⟨w.heap.size + 1, k * 2, none⟩ = false := frozen_row hr
          have f1 : wr.frozen? ⟨w.heap.size + 1, k * 2 + 1, none⟩ = false := frozen_row hr
          have hTN := hT.store hlt hTm.ent
          rw [Nat.mul_comm 2 k] at hTN
          have hr6 : ((wr.setCell ⟨w.heap.size + 1, k * 2, none⟩ (.int .u64 (h : Nat))).setCell ⟨w.heap.size + 1, k * 2 + 1, none⟩ (.int .u64 (l : Nat))).heap[w.heap.size + 1]? = some (.cells ((T.set (k * 2) (.int .u64 (h : Nat))).set (k * 2 + 1) (.int .u64 (l : Nat))).toArray 61) := setCell_row (setCell_row hr _) _
          have hg6 := grownBy_setCell (grownBy_setCell hgr (.inl (by omega : w.heap.size ≤ w.heap.size + 1)) (.int .u64 (h : Nat)) (i := k * 2)) (.inl (by omega : w.heap.size ≤ w.heap.size + 1)) (.int .u64 (l : Nat)) (i := k * 2 + 1)
          have hoth : ∀ {q : Nat} {o : Obj}, q ≠ w.heap.size + 1 → wr.heap[q]? = some o → ((wr.setCell ⟨w.heap.size + 1, k * 2, none⟩ (.int .u64 (h : Nat))).setCell ⟨w.heap.size + 1, k * 2 + 1, none⟩ (.int .u64 (l : Nat))).heap[q]? = some o := fun hq e => by
            rw [setCell_else hq, setCell_else hq]; exact e
          have hz6 := hoth (by omega) hz
          have hbx6 := hoth (by omega) hbx
          clear hoth hz hbx hr hx hgr hTm
          go_wp2_with fail
          go_roundw
          case rel => exact ⟨k + 1, by omega, by go_num, hg6, hz6, hbx6, _, hTN, hr6⟩
          case measure => simp [intOf]; omega
    · obtain rfl : k = 256 := by omega
      clear hbx
      have hsT : (Tryd.prog.info? 61).map (·.size) = some T.toArray.size := by
        rw [show T.toArray.size = 512 by simpa using hTl]; kernel_rfl
      have hun : Tryd.prog.underlying 61 = some (.array 256 60) := by kernel_rfl
      have hr9 := setRow_heap wr w.heap.size Z.toArray T.toArray 61 (0, 0) hz
      have hg9 : w.grownBy (wr.setRow w.heap.size T.toArray) none := ⟨hgr.os, hgr.tape, hgr.output, by have := hgr.size; simp [World.setRow]; exact this, fun k hk _ => by rw [setRow_other _ _ _ _ (by omega)]; exact hgr.block k hk (by simp)⟩
      have hsc := run_storeCells_from (P := Tryd.prog) w.heap.size 61 T 0 Z.toArray wr hz (by simp; omega) hT.2.1
      rw [List.take_zero, List.nil_append] at hsc
      have HS9 : Hid _ := hsT
      have HU : Hid _ := hun
      clear hsT hun
      go_wp2_with fail
      refine wp_load_row 61 _ rfl (w.heap.size + 1) rfl 61 T.toArray (0, 0) _ hr HU.out rfl HS9.out ?_
      go_wp2_with fail
      refine bodyPost_ret (v := .agg T.toArray) (results_cell_row rfl _ _ w.heap.size 61 T.toArray (0, 0) _ rfl hr9 HU.out rfl HS9.out) rfl ⟨bh, bl, T, hLow, rfl, hT, hg9⟩
end Gf
end Go.Proofs.YtiojdoehlooibaaDoor
