/- The document's own answers of layer 2 (bch): New. -/
import Derived.Test.YtiojdoehlooibaaDoorZLm
import Derived.Test.YtiojdoehlooibaaDoorZPd
import Derived.Test.YtiojdoehlooibaaDoorZRfc
import Derived.Test.YtiojdoehlooibaaDoorZPa
import Derived.Deep.AppendLies
import Derived.Deep.RegionLaw
namespace Go.Proofs.YtiojdoehlooibaaDoor
open Go.RowKit
namespace Gf
theorem IsM.two' {bytes t m : Nat} (h : IsM bytes t m) : 2 * t ≤ sz m := by
  have h1 := h.fits
  have h2 : 2 * t ≤ m * t := Nat.mul_le_mul_right t (by have := h.lo; omega)
  omega
/-- The generator turned round, so far. -/
theorem gH_take (m t : Nat) {k : Nat} (hk : k < (genS m t).length) : (gH m t).take (k + 1) = (gH m t).take k ++ [nth (genS m t) ((genS m t).length - 1 - k)] := by
  rw [take_snoc' (by rw [gH_len]; exact hk), gH, nth_rev hk]
abbrev codeO (m bytes t : Int) (v : Value) : Obj := .cells #[num m, num bytes, num t, v] 29
structure SnRel (w wr : World) (X B : Nat) (m bytes t : Int) (v : Value) (S : List Nat) : Prop where
  own : wr.ownsRow B 3 1 v S.length (vals S)
  box : wr.heap[X]? = some (codeO m bytes t v)
  grown : w.grownBy wr none
  sz : B ≤ wr.heap.size
/-- What the document's New answers where there is a code. -/
def SnPost (w : World) (bytes t : Nat) (e : Ending) (w' : World) : Prop := ∃ m ao cap, IsM bytes t m ∧ e = .returned (.tuple #[codeV m bytes t (.slice ao (gH m t).length cap), .bool true]) ∧ RdN w' ao (gH m t) ∧ w.grownBy w' none
theorem SnRel.box6 {w wr w6 : World} {X B : Nat} {m bytes t : Int} {v : Value} {S : List Nat} (h : SnRel w wr X B m bytes t v S) (hX : X < B) {o : Obj} (hg : (wr.alloc o).grownBy w6 v.ownBlock) : w6.heap[X]? = some (codeO m bytes t v) := by
  rw [hg.block X (by have := h.sz; simp; omega) (fun e => by have := (h.own.lt X e.symm).1; omega), Below.heap_alloc _ _ _ (by have := h.sz; omega)]
  exact h.box
theorem SnRel.far6 {w wr w6 : World} {X B : Nat} {m bytes t : Int} {v : Value} {S : List Nat} (h : SnRel w wr X B m bytes t v S) {q : Nat} {ob : Obj} (hq : q < B) {o : Obj} (hg : (wr.alloc o).grownBy w6 v.ownBlock) (hb : wr.heap[q]? = some ob) (hX : q ≠ X) (v' : Value) : (w6.setCell ⟨X, 3, none⟩ v').heap[q]? = some ob := by
  rw [setCell_else hX, hg.block q (by have := h.sz; simp; omega) (fun e => by have := (h.own.lt q e.symm).1; omega), Below.heap_alloc _ _ _ (by have := h.sz; omega)]
  exact hb
theorem SnRel.next {w wr w6 : World} {X B : Nat} {m bytes t : Int} {v : Value} {S : List Nat} (h : SnRel w wr X B m bytes t v S) (hX : X < B) (hw : w.heap.size ≤ X) {o : Obj} (hg : (wr.alloc o).grownBy w6 v.ownBlock) {v' : Value} {x : Nat} (hown : w6.ownsRow B 3 1 v' (S.length + 1) (vals S ++ [num x])) : SnRel w (w6.setCell ⟨X, 3, none⟩ v') X B m bytes t v' (S ++ [x]) := by
  have hb := h.box6 hX hg
  have hs := hg.size
  simp at hs
  refine ⟨?_, ?_, grownBy_setCell ?_ (.inl hw) _, ?_⟩
  · have e1 : vals (S ++ [x]) = vals S ++ [num x] := by simp [vals]
    rw [e1, List.length_append]
    exact hown.kept (grown_setCell w6 X 3 v') (by
      cases e : v'.ownBlock with
      | none => exact .inl rfl
      | some k => exact .inr (fun e' => by have := (hown.lt k e).1; simp at e'; omega))
  · exact setCell_row (L := [num m, num bytes, num t, v]) (i := 3) hb v'
  · refine ⟨hg.os.trans h.grown.os, hg.tape.trans h.grown.tape, hg.output.trans h.grown.output, by have := h.grown.size; omega, fun k hk _ => ?_⟩
    have := h.sz
    rw [hg.block k (by simp; omega) (fun e => by have := (h.own.lt k e.symm).1; omega), Below.heap_alloc _ _ _ (by omega)]
    exact h.grown.block k hk (by simp)
  · have := h.sz
    simp
    omega
set_option maxHeartbeats 3200000 in
set_option maxRecDepth 4000 in
theorem sNew_ok {w : World} (bytes t : Nat) (h1 : 1 ≤ bytes) (h2 : bytes ≤ 512) (h3 : 1 ≤ t) (h4 : t ≤ 8) :
    Calls Tryd.prog 11 #[num bytes, num t] w fun e w' => SnPost w bytes t e w' := by
  obtain ⟨i0, hi, hz0, hz1, hz2⟩ := info_parts Tryd.info3
  have hg1 : w.grownBy (w.alloc (codeO 0 0 0 (.slice none 0 0))) none := World.grownBy_alloc _ _ none
  have hr1 : (w.alloc (codeO 0 0 0 (.slice none 0 0))).heap[w.heap.size]? = some (codeO 0 0 0 (.slice none 0 0)) := heap_alloc_new w _
  go_enter Tryd.func11, Tryd.ntmps11
  go_wp2_with fail
  go_loopw [6] (fun v wr => ∃ m : Nat, v = num m ∧ MGo bytes t m ∧ wr = w.alloc (codeO 0 0 0 (.slice none 0 0))) (fun v _ => 14 - (intOf v).toNat)
  case atStart => exact ⟨4, rfl, ⟨by omega, by omega, fun k h1 h2 => by omega⟩, rfl⟩
  case round =>
    obtain ⟨m, rfl, hm, rfl⟩ := hrel
    obtain ⟨z4, z5, z6, z7, z8, z9, z10, z11, z12, z13⟩ := szs
    have hc : m = 4 ∨ m = 5 ∨ m = 6 ∨ m = 7 ∨ m = 8 ∨ m = 9 ∨ m = 10 ∨ m = 11 ∨ m = 12 ∨ m = 13 := by have := hm.1; have := hm.2.1; omega
    by_cases hf : 8 * bytes + m * t ≤ sz m
    · have hM := hm.stop hf
      clear hm
      have hmt : m * t ≤ 13 * 8 := Nat.mul_le_mul hM.hi h4
      have hzb := sz_bd hM.em
      obtain ⟨MT, hMT⟩ : ∃ MT, MT = m * t := ⟨_, rfl⟩
      have e1 : (m : Int) * (t : Int) = (MT : Int) := by rw [hMT]; simp
      have e2 := sz_int hM.em
      rw [← hMT] at hf hmt
      clear z4 z5 z6 z7 z8 z9 z10 z11 z12 z13 hc
      have b4 : (m : Int) ≤ 13 := by have := hM.hi; omega
      have b5 : 4 ≤ (m : Int) := by have := hM.lo; omega
      have b6 : (8 * (bytes : Int) + (MT : Int)) ≤ (sz m : Int) := by exact_mod_cast hf
      clear hMT
      go_wp2_with fail
      refine (rGenerator_ok (b := w.heap.size) hM.em (lt_of_heap hr1) t h3 h4 hM.two').mono ?_
      rintro e w3 ⟨v3, rfl, hGot, hg3⟩
      have hgi := genGo_is hM.em (2 * t)
      rcases hGot with ⟨_, hnil⟩ | ⟨gg, L, rfl, hL, hLt, hLl, hLb⟩
      · exact absurd hnil hgi.ne
      have hgl := lt_of_heap hL
      have h2g := genS_two hM.em h3
      have hlg : (genS m t).length ≤ 105 := by
        have h5 := genS_len hM.em t
        have : m * t ≤ 13 * 8 := Nat.mul_le_mul hM.hi h4
        omega
      have hr3 : w3.heap[w.heap.size]? = some (codeO 0 0 0 (.slice none 0 0)) := by rw [hg3.block _ (lt_of_heap hr1) (by simp)]; exact hr1
      have hgw3 : w.grownBy w3 none := grownBy_trans hg1 hg3
      clear e1 e2 b6 hf hzb hmt hg3 hg1 hr1
      obtain ⟨X, hX⟩ : ∃ X, X = w3.heap.size := ⟨_, rfl⟩
      have hS0 : SnRel w (w3.alloc (codeO m bytes t (.slice none 0 0))) X (X + 1) m bytes t (.slice none 0 0) [] := by
        refine ⟨World.ownsRow_nil _ _ _ _, by rw [hX]; exact heap_alloc_new w3 _, grownBy_trans hgw3 (World.grownBy_alloc _ _ none), by rw [hX]; simp⟩
      have hwX : w.heap.size < X := by rw [hX]; exact lt_of_heap hr3
      have hgX : gg < X := by rw [hX]; exact hgl
      have hrX : (w3.alloc (codeO m bytes t (.slice none 0 0))).heap[w.heap.size]? = some (codeO 0 0 0 (.slice none 0 0)) := by rw [Below.heap_alloc _ _ _ (by omega)]; exact hr3
      have hLX : (w3.alloc (codeO m bytes t (.slice none 0 0))).heap[gg]? = some (.cells L.toArray 3) := by rw [Below.heap_alloc _ _ _ (by omega)]; exact hL
      have HX : Hid (w3.heap.size = X) := hX.symm
      have b7 : (1 : Int) ≤ ((genS m t).length : Int) := by omega
      have b8 : ((genS m t).length : Int) ≤ 105 := by omega
      go_wp2_with fail
      rw [HX.out]
      clear HX hX hr3 hL hgw3 hgl
      have HgH : Hid _ := gH_len m t
      go_loopw [10] (fun i wr => ∃ (k : Nat) (v : Value), k ≤ (genS m t).length ∧ i = num (((genS m t).length : Int) - 1 - k) ∧ SnRel w wr X (X + 1) m bytes t v ((gH m t).take k) ∧ wr.heap[w.heap.size]? = some (codeO 0 0 0 (.slice none 0 0)) ∧ wr.heap[gg]? = some (.cells L.toArray 3)) (fun i _ => (intOf i + 1).toNat)
      case atStart => exact ⟨0, .slice none 0 0, Nat.zero_le _, by go_num, hS0, hrX, hLX⟩
      case round =>
        clear hS0 hrX hLX
        obtain ⟨k, v, hk, rfl, hS, hrX, hLX⟩ := hrel
        by_cases hlt : k < (genS m t).length
        · have b9 : (0 : Int) ≤ ((genS m t).length : Int) - 1 - (k : Int) := by omega
          have b10 : ((genS m t).length : Int) - 1 - (k : Int) < ((genS m t).length : Int) := by omega
          have bT : (((genS m t).length : Int) - 1 - (k : Int)).toNat = (genS m t).length - 1 - k := by omega
          have ck : wr.cell? ⟨gg, (genS m t).length - 1 - k, none⟩ = some (num (nth (genS m t) ((genS m t).length - 1 - k) : Nat)) := by
            rw [cell_row hLX, take_cell hLt _ (by omega)]
          have hbox := hS.box
          have c3 : wr.cell? ⟨X, 3, none⟩ = some v := by simp [World.cell?, hbox]
          have z3 : wr.frozen? ⟨X, 3, none⟩ = false := by simp [World.frozen?, hbox]
          have c3a : ∀ o : Obj, (wr.alloc o).cell? ⟨X, 3, none⟩ = some v := fun o => by
            rw [World.cell?_of_block (w := wr) (a := ⟨X, 3, none⟩) (Below.heap_alloc _ _ _ (lt_of_heap hbox))]; exact c3
          obtain ⟨x, hx⟩ : ∃ x, x = nth (genS m t) ((genS m t).length - 1 - k) := ⟨_, rfl⟩
          rw [← hx] at ck
          have c3b := c3a (.cells #[num x] 3)
          have HT : Hid ((gH m t).take (k + 1) = (gH m t).take k ++ [x]) := by rw [hx]; exact gH_take m t hlt
          obtain ⟨S, hSe⟩ : ∃ S, S = (gH m t).take k := ⟨_, rfl⟩
          have hSl : S.length = k := by rw [hSe, List.length_take, HgH.out]; omega
          rw [← hSe] at hS HT
          clear hSe hx c3a
          go_wp2_with fail
          go_region_law (refine step_append_lies _ rfl (.tmp 64) (.tmp 69) 27 rfl (X + 1) 3 i0 (.int .i64 0) 1 8 Tryd.underlying27 hi hz0 hz1 hz2 rfl (by decide) v S.length (vals S) rfl (by exact hS.own.alloc _) ⟨wr.heap.size, 0, none⟩ 1 1 [num x] rfl rfl (by exact cell_one_new _ _ _) (by intro u hu; simp at hu; subst hu; rfl) (by decide) (by unfold maxLen; omega) (by omega) (by have := hS.sz; simp; omega) _ rfl ?_; intro g6 cap6 w6 hown hgrow hor hlt6; (have hgrow' : (wr.alloc (.cells #[num x] 3)).grownBy w6 v.ownBlock := ⟨hgrow.os, hgrow.tape, hgrow.output, hgrow.size, hgrow.block⟩); (have hb6 := hS.box6 (by omega) hgrow'); (have c6 : w6.cell? ⟨X, 3, none⟩ = some v := by simp [World.cell?, hb6]); (have z6 : w6.frozen? ⟨X, 3, none⟩ = false := by simp [World.frozen?, hb6]); clear hb6)
          all_goals
            have hN := hS.next (by omega) (by omega) hgrow' hown
            have hr6 := hS.far6 (by omega) hgrow' hrX (by omega) (.slice (some ⟨g6, 0, none⟩) (S.length + 1) cap6)
            have hl6 := hS.far6 (by omega) hgrow' hLX (by omega) (.slice (some ⟨g6, 0, none⟩) (S.length + 1) cap6)
            rw [← HT.out] at hN
            rw [hSl] at hN hr6 hl6
            clear hown hgrow hgrow' hor hlt6 hS hrX hLX c6 z6 c3 z3 c3b
            go_wp2
            go_roundw
            case rel => exact ⟨k + 1, _, by omega, by go_num, hN, hr6, hl6⟩
            case measure => simp [intOf]; omega
        · obtain rfl : k = (genS m t).length := by omega
          have b9 : ¬ (0 : Int) ≤ ((genS m t).length : Int) - 1 - ((genS m t).length : Int) := by omega
          have hbox := hS.box
          have hTl : (gH m t).take (genS m t).length = gH m t := by rw [← HgH.out, List.take_length]
          have hown := hS.own
          rw [hTl] at hown
          clear hTl
          have hgr := hS.grown
          have hne : gH m t ≠ [] := fun e => by have := HgH.out; rw [e] at this; simp at this; omega
          rcases hown.2 with ⟨_, hn⟩ | ⟨g9, cap9, cur, rfl, hg9, hh9, hle9, _, hcs9, ht9⟩
          · exact absurd (List.eq_nil_of_length_eq_zero hn) hne
          have hrd9 : ∀ i, i < (gH m t).length → wr.cell? ⟨g9, 0 + i, none⟩ = some (num (nth (gH m t) i : Nat)) := fun i hi => by
            rw [Nat.mul_one] at ht9
            have hh' : wr.heap[g9]? = some (.cells cur.toList.toArray 3) := by simpa using hh9
            rw [Nat.zero_add, cell_row hh', take_cell ht9 i hi]
          have hg9X : g9 ≠ w.heap.size := by omega
          have hg9l := lt_of_heap hh9
          have c0 : wr.cell? ⟨X, 0, none⟩ = some (num m) := by simp [World.cell?, hbox]
          have c1 : wr.cell? ⟨X, 1, none⟩ = some (num bytes) := by simp [World.cell?, hbox]
          have c2 : wr.cell? ⟨X, 2, none⟩ = some (num t) := by simp [World.cell?, hbox]
          have c3 : wr.cell? ⟨X, 3, none⟩ = some (.slice (some ⟨g9, 0, none⟩) (gH m t).length cap9) := by simp [World.cell?, hbox]
          have d0 : wr.cell? ⟨w.heap.size, 0, none⟩ = some (num 0) := by simp [World.cell?, hrX]
          have d1 : wr.cell? ⟨w.heap.size, 1, none⟩ = some (num 0) := by simp [World.cell?, hrX]
          have d2 : wr.cell? ⟨w.heap.size, 2, none⟩ = some (num 0) := by simp [World.cell?, hrX]
          have d3 : wr.cell? ⟨w.heap.size, 3, none⟩ = some (.slice none 0 0) := by simp [World.cell?, hrX]
          have y0 : wr.frozen? ⟨w.heap.size, 0, none⟩ = false := by simp [World.frozen?, hrX]
          have y1 : wr.frozen? ⟨w.heap.size, 1, none⟩ = false := by simp [World.frozen?, hrX]
          have y2 : wr.frozen? ⟨w.heap.size, 2, none⟩ = false := by simp [World.frozen?, hrX]
          have y3 : wr.frozen? ⟨w.heap.size, 3, none⟩ = false := by simp [World.frozen?, hrX]
          have HR9 : Hid _ := hrd9
          clear hrd9 hh9 hle9 hcs9 ht9 hown hS hbox hrX hLX
          obtain ⟨NG, hNG⟩ : ∃ NG, NG = (gH m t).length := ⟨_, rfl⟩
          rw [← hNG] at c3
          have HNG : Hid (NG = (gH m t).length) := hNG
          clear hNG
          go_wp2_with fail
          have hG9 := grownBy_setCell (grownBy_setCell (grownBy_setCell (grownBy_setCell hgr (.inl (Nat.le_refl _)) (num m) (i := 0)) (.inl (Nat.le_refl _)) (num bytes) (i := 1)) (.inl (Nat.le_refl _)) (num t) (i := 2)) (.inl (Nat.le_refl _)) (.slice (some ⟨g9, 0, none⟩) NG cap9) (i := 3)
          refine bodyPost_ret (v := .tuple #[codeV m bytes t (.slice (some ⟨g9, 0, none⟩) NG cap9), .bool true]) (by simp [results, Tryd.f11, go_sem, d0, d1, d2, d3]) rfl ?_
          refine ⟨m, some ⟨g9, 0, none⟩, cap9, hM, by rw [HNG.out], .inr ⟨g9, 0, rfl, fun i hi => ?_⟩, hG9⟩
          refine Eq.trans (World.cell?_of_block (w := wr) (a := ⟨g9, 0 + i, none⟩) ?_) (HR9.out i hi)
          rw [setCell_else hg9X, setCell_else hg9X, setCell_else hg9X, setCell_else hg9X]
    · have h13 : m < 13 := by
        rcases Nat.lt_or_ge m 13 with h | h
        · exact h
        · exfalso
          have : m = 13 := by have := hm.2.1; omega
          subst this
          rw [z13] at hf; omega
      have hN := hm.next h13 (by omega)
      have hem : Em m := ⟨by have := hm.1; omega, by omega⟩
      have hzb := sz_bd hem
      have hmt : m * t ≤ 13 * 8 := Nat.mul_le_mul (by omega) h4
      obtain ⟨MT, hMT⟩ : ∃ MT, MT = m * t := ⟨_, rfl⟩
      have e1 : (m : Int) * (t : Int) = (MT : Int) := by rw [hMT]; simp
      have e2 := sz_int hem
      rw [← hMT] at hf hmt
      clear z4 z5 z6 z7 z8 z9 z10 z11 z12 z13 hc
      have b4 : (m : Int) ≤ 13 := by omega
      have b5 : 4 ≤ (m : Int) := by have := hm.1; omega
      have b7 : sz m < 8 * bytes + MT := by omega
      have b6 : (sz m : Int) < (8 * (bytes : Int) + (MT : Int)) := by exact_mod_cast b7
      clear hMT hf hm
      go_wp2_with fail
      go_roundw
      case rel => exact ⟨m + 1, by go_num, hN, trivial⟩
      case measure => simp [intOf]; omega
/-- Where there is none. -/
def SnNone (w : World) (e : Ending) (w' : World) : Prop := e = .returned (.tuple #[codeV 0 0 0 (.slice none 0 0), .bool false]) ∧ w.grownBy w' none
set_option maxHeartbeats 800000 in
theorem sNew_no {w : World} (bytes t : Int) (h : bytes < 1 ∨ 512 < bytes ∨ t < 1 ∨ 8 < t) :
    Calls Tryd.prog 11 #[num bytes, num t] w fun e w' => SnNone w e w' := by
  by_cases a1 : bytes < 1
  · go_enter Tryd.func11, Tryd.ntmps11
    go_wp2_with fail
    refine bodyPost_ret (v := .tuple #[codeV 0 0 0 (.slice none 0 0), .bool false]) (by simp [results, Tryd.f11, go_sem]) rfl ⟨rfl, World.grownBy_alloc _ _ none⟩
  by_cases a2 : 512 < bytes
  · go_enter Tryd.func11, Tryd.ntmps11
    go_wp2_with fail
    refine bodyPost_ret (v := .tuple #[codeV 0 0 0 (.slice none 0 0), .bool false]) (by simp [results, Tryd.f11, go_sem]) rfl ⟨rfl, World.grownBy_alloc _ _ none⟩
  by_cases a3 : t < 1
  · go_enter Tryd.func11, Tryd.ntmps11
    go_wp2_with fail
    refine bodyPost_ret (v := .tuple #[codeV 0 0 0 (.slice none 0 0), .bool false]) (by simp [results, Tryd.f11, go_sem]) rfl ⟨rfl, World.grownBy_alloc _ _ none⟩
  · have a4 : 8 < t := by omega
    clear h
    go_enter Tryd.func11, Tryd.ntmps11
    go_wp2_with fail
    refine bodyPost_ret (v := .tuple #[codeV 0 0 0 (.slice none 0 0), .bool false]) (by simp [results, Tryd.f11, go_sem]) rfl ⟨rfl, World.grownBy_alloc _ _ none⟩
end Gf
end Go.Proofs.YtiojdoehlooibaaDoor
