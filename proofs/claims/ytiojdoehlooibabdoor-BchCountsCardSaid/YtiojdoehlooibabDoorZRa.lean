/- The register's functions: plus, push, times. -/
import Derived.Test.YtiojdoehlooibabDoorZPb
import Derived.BigRegion
namespace Go.Proofs.YtiojdoehlooibabDoor
open Go.RowKit
namespace Gf
abbrev rem (h l : Nat) : Value := .agg #[.int .u64 (h : Nat), .int .u64 (l : Nat)]
theorem xor_u64 {a b : Nat} (ha : W64 a) (hb : W64 b) : bits .xor .u64 (a : Int) (b : Int) = ((a ^^^ b : Nat) : Int) := by
  have hx : a ^^^ b < 2 ^ 64 := Nat.xor_lt_two_pow (n := 64) ha hb
  have h1 : (BitVec.ofInt 64 (a : Int)).toNat = a := by
    rw [BitVec.ofInt_natCast, BitVec.toNat_ofNat]; exact Nat.mod_eq_of_lt ha
  have h2 : (BitVec.ofInt 64 (b : Int)).toNat = b := by
    rw [BitVec.ofInt_natCast, BitVec.toNat_ofNat]; exact Nat.mod_eq_of_lt hb
  show IntKind.u64.wrap ((BitVec.ofInt 64 (a : Int) ^^^ BitVec.ofInt 64 (b : Int)).toNat : Int) = _
  rw [BitVec.toNat_xor, h1, h2, IntKind.wrap_u64]
  omega
theorem or_u64 {a b : Nat} (ha : W64 a) (hb : W64 b) : bits .or .u64 (a : Int) (b : Int) = ((a ||| b : Nat) : Int) :=
  (bits_nat .u64 64 (by decide) (fun n h1 h2 => by
    have h3 : n < 18446744073709551616 := by simpa using h2
    rw [IntKind.wrap_u64]; omega) a b ha hb).2
theorem shl_u64 (a k : Nat) (c : Int) (hc : c = ((2 ^ k : Nat) : Int)) : IntKind.u64.wrap ((a : Int) * c) = ((a <<< k % 2 ^ 64 : Nat) : Int) := by
  rw [IntKind.wrap_u64, Nat.shiftLeft_eq, hc]
  simp
theorem shr_u64 (a k : Nat) (c : Int) (hc : c = ((2 ^ k : Nat) : Int)) : (a : Int) / c = ((a >>> k : Nat) : Int) := by
  rw [Nat.shiftRight_eq_div_pow, hc]
  simp
theorem pH_val {h l : Nat} (hl : W64 l) : bits .or .u64 (IntKind.u64.wrap ((h : Int) * 256)) ((l : Int) / 72057594037927936) = ((pH h l : Nat) : Int) := by
  rw [shl_u64 h 8 256 (by decide), shr_u64 l 56 _ (by decide), or_u64 (w64_mod _) (w64_shr hl _)]; rfl
theorem pL_val (l : Nat) : IntKind.u64.wrap ((l : Int) * 256) = ((pL l : Nat) : Int) := shl_u64 l 8 256 (by decide)
theorem tH_val {h l : Nat} (hl : W64 l) : bits .or .u64 (IntKind.u64.wrap ((h : Int) * 2)) ((l : Int) / 9223372036854775808) = ((tH h l : Nat) : Int) := by
  rw [shl_u64 h 1 2 (by decide), shr_u64 l 63 _ (by decide), or_u64 (w64_mod _) (w64_shr hl _)]; rfl
theorem tL_val (l : Nat) : IntKind.u64.wrap ((l : Int) * 2) = ((tL l : Nat) : Int) := shl_u64 l 1 2 (by decide)
theorem out_val {h : Nat} (hh : W64 h) : (h : Int) / 72057594037927936 % 256 = ((h >>> 56 : Nat) : Int) := by
  have := top_le hh
  rw [shr_u64 h 56 _ (by decide)]; omega
theorem heap_alloc_at {w : World} {n : Nat} (o : Obj) (h : n = w.heap.size) : (w.alloc o).heap[n]? = some o := by rw [h]; exact heap_alloc_new w o
set_option maxHeartbeats 400000 in
theorem plus_ok {h l h' l' : Nat} (k1 : W64 h) (k2 : W64 l) (k3 : W64 h') (k4 : W64 l') (w : World) :
    Calls Tryd.prog 31 #[rem h l, rem h' l'] w fun e w' => e = .returned (rem (h ^^^ h') (l ^^^ l')) ∧ w.grownBy w' none := by
  have HA : Hid _ := xor_u64 k1 k3
  have HB : Hid _ := xor_u64 k2 k4
  clear k1 k2 k3 k4
  go_enter Tryd.func31, Tryd.ntmps31
  go_wp2
  refine bodyPost_ret (v := rem (h ^^^ h') (l ^^^ l')) (by simp [results, Tryd.f31, go_sem]; exact ⟨HA.out, HB.out⟩) rfl ⟨rfl, ?_⟩
  exact grownBy_trans (grownBy_trans (World.grownBy_alloc _ _ none) (World.grownBy_alloc _ _ none)) (World.grownBy_alloc _ _ none)
set_option maxHeartbeats 1600000 in
theorem push_ok {h l : Nat} (k1 : W64 h) (k2 : W64 l) (w : World) :
    Calls Tryd.prog 30 #[rem h l] w fun e w' => e = .returned (.tuple #[.int .u8 (h >>> 56 : Nat), rem (pH h l) (pL l)]) ∧ w.grownBy w' none := by
  have HA : Hid _ := pH_val (h := h) k2
  have HB : Hid _ := pL_val l
  have HO : Hid _ := out_val k1
  clear k1 k2
  go_enter Tryd.func30, Tryd.ntmps30
  go_wp2_with fail
  go_region
  all_goals
    go_wp2
    refine bodyPost_ret (v := .tuple #[.int .u8 (h >>> 56 : Nat), rem (pH h l) (pL l)]) (by simp [results, Tryd.f30, go_sem]; exact ⟨HO.out, HA.out, HB.out⟩) rfl ⟨rfl, ?_⟩
    exact grownBy_drew (grownBy_trans (World.grownBy_alloc _ _ none) (World.grownBy_alloc _ _ none))
set_option maxHeartbeats 800000 in
theorem times_ok' {h l bh bl : Nat} (k2 : W64 l) (k3 : W64 bh) (k4 : W64 bl) (w : World) :
    Calls Tryd.prog 43 #[rem h l, rem bh bl] w fun e w' => e = .returned (rem (if h >>> 63 = 0 then tH h l else tH h l ^^^ bh) (if h >>> 63 = 0 then tL l else tL l ^^^ bl)) ∧ w.grownBy w' none := by
  have HA : Hid _ := tH_val (h := h) k2
  have HB : Hid _ := tL_val l
  have HT : Hid _ := shr_u64 h 63 9223372036854775808 (by decide)
  have hp := plus_ok (w64_tH h k2) (w64_tL l) k3 k4
  clear k2 k3 k4
  by_cases e : h >>> 63 = 0
  · have H1 : Hid ((((h : Int) / 9223372036854775808) == 0) = true) := by rw [Hid, HT.out, e]; rfl
    rw [if_pos e, if_pos e]
    clear e hp
    have h1 := H1.out
    go_enter Tryd.func43, Tryd.ntmps43
    go_wp2
    refine bodyPost_ret (v := rem (tH h l) (tL l)) (by simp [results, Tryd.f43, go_sem]; exact ⟨HA.out, HB.out⟩) rfl ⟨rfl, ?_⟩
    exact grownBy_trans (grownBy_trans (grownBy_trans (World.grownBy_alloc _ _ none) (World.grownBy_alloc _ _ none)) (World.grownBy_alloc _ _ none)) (World.grownBy_alloc _ _ none)
  · have H1 : Hid ((((h : Int) / 9223372036854775808) == 0) = false) := by rw [Hid, HT.out]; exact beq_eq_false_iff_ne.2 (by omega)
    rw [if_neg e, if_neg e]
    clear e
    have h1 := H1.out
    have HP : Hid _ := hp
    clear hp
    obtain ⟨W4, hW4⟩ : ∃ W4, W4 = (((w.alloc (.cells #[.int .u64 (h : Nat), .int .u64 (l : Nat)] 49)).alloc (.cells #[.int .u64 (bh : Nat), .int .u64 (bl : Nat)] 49)).alloc (.cells #[.int .u64 0, .int .u64 0] 49)).alloc (.cells #[.int .u64 (tH h l : Nat), .int .u64 (tL l : Nat)] 49) := ⟨_, rfl⟩
    have hg4 : w.grownBy W4 none := by
      rw [hW4]
      exact grownBy_trans (grownBy_trans (grownBy_trans (World.grownBy_alloc _ _ none) (World.grownBy_alloc _ _ none)) (World.grownBy_alloc _ _ none)) (World.grownBy_alloc _ _ none)
    have hb4 : W4.heap[w.heap.size + 1 + 1]? = some (.cells #[.int .u64 0, .int .u64 0] 49) := by
      rw [hW4, Below.heap_alloc _ _ _ (by simp)]
      exact heap_alloc_at _ (by simp)
    go_enter Tryd.func43, Tryd.ntmps43
    go_wp2_with fail
    rw [HA.out, HB.out, ← hW4]
    refine (HP.out W4).mono ?_
    rintro e w5 ⟨rfl, hg5⟩
    have hb5 : w5.heap[w.heap.size + 1 + 1]? = some (.cells #[.int .u64 0, .int .u64 0] 49) := by
      rw [hg5.block _ (lt_of_heap hb4) (by simp)]; exact hb4
    have hgw := grownBy_trans hg4 hg5
    have c0 : w5.cell? ⟨w.heap.size + 1 + 1, 0, none⟩ = some (.int .u64 0) := by simp [World.cell?, hb5]
    have c1 : w5.cell? ⟨w.heap.size + 1 + 1, 1, none⟩ = some (.int .u64 0) := by simp [World.cell?, hb5]
    have z0 : w5.frozen? ⟨w.heap.size + 1 + 1, 0, none⟩ = false := by simp [World.frozen?, hb5]
    have z1 : w5.frozen? ⟨w.heap.size + 1 + 1, 1, none⟩ = false := by simp [World.frozen?, hb5]
    clear hb5 hb4 hg4 hW4 HP
    go_wp2
    refine bodyPost_ret (v := rem (tH h l ^^^ bh) (tL l ^^^ bl)) (by simp [results, Tryd.f43, go_sem, c0, c1]) rfl ⟨rfl, ?_⟩
    exact grownBy_setCell (grownBy_setCell hgw (.inl (by omega)) _) (.inl (by omega)) _
end Gf
end Go.Proofs.YtiojdoehlooibabDoor
