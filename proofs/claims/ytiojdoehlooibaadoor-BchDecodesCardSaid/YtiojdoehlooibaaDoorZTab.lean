/- makeTables: the powers of the root and the logarithms, laid in new memory. -/
import Derived.Test.YtiojdoehlooibaaDoorZBase
import Derived.Deep.QuietTactic
import Derived.BigQuiet
namespace Go.Proofs.YtiojdoehlooibaaDoor
open Go.RowKit
namespace Gf
theorem Tryd.info3 : (Tryd.prog.info? 3).map (fun i => (i.zero, i.size, i.bytes)) = some (some (.int .i64 0), 1, 8) := by kernel_rfl
/-- Noughts. -/
def zs (n : Nat) : List Value := List.replicate n (.int .i64 0)
theorem zs_len (n : Nat) : (zs n).length = n := by simp [zs]
theorem Tryd.len67 : Tryd.prog.arrayLen 115 = 8192 := by kernel_rfl
theorem Tryd.one3 : (Tryd.prog.info? 3).map (·.size) = some 1 := by kernel_rfl
/-- 'make([]int, n)': the world behind it, written out. -/
theorem wpList_make_own0 {P : Program} (w : World) {ops : Array Oper} {rest : List Oper} {o : Oper} {a : Act} {Q : Exit → Act → World → Prop}
    (hg : o.guard = none) (l c : Operand) (t : TypeId) (hop : o.op = Op.makeSlice t l c)
    (e : TypeId) (i : TypeInfo) (h1 : P.underlying t = some (.slice e)) (h2 : P.info? e = some i) (h3 : i.zero = some (.int .i64 0)) (h4 : i.size = 1) (h5 : i.bytes = 8)
    (kl kc : IntKind) (L C : Int) (n : Nat) (hl : a.eval l = .int kl L) (hc : a.eval c = .int kc C) (hL : L = (n : Int)) (hC : C = (n : Int)) (b2 : 8 * n ≤ 281474976710656)
    (hK : wpList P ops Q rest (a.put o.dst (.slice (some ⟨w.heap.size, 0, none⟩) n n)) (w.alloc (.cells (zs n).toArray e))) :
    wpList P ops Q (o :: rest) a w := by
  refine wpList_plain hg fun K hK' => ?_
  have hr := run_make (P := P) w t e i (.int .i64 0) h1 h2 h3 kl kc n n (by omega) (Int.le_refl _) (by rw [h5]; omega) (by omega)
  simp only [Int.toNat_natCast, h4, Nat.mul_one] at hr
  have e1 : (madeCells (Value.int .i64 0).cells n) = (zs n).toArray := by
    apply Array.toList_inj.1
    exact (toList_madeCells_one (.int .i64 0) n)
  rw [e1] at hr
  subst hL
  subst hC
  unfold Oper.wp
  simp [execOp, hop, hl, hc, hr, Result.andThen]
  exact hK' _ _ hK

/-- What holds at the head of round k: both arrays are filled so far; nothing old has turned. -/
structure TabRel (w wr : World) (m k : Nat) : Prop where
  pows : ∃ P : List Value, wr.heap[w.heap.size]? = some (.cells P.toArray 115) ∧ P.length = 8192 ∧ ∀ n, n < k → P[n]? = some (num (pw m n))
  logs : ∃ L : List Value, wr.heap[w.heap.size + 1]? = some (.cells L.toArray 115) ∧ L.length = 8192 ∧ (∀ v ∈ L, v.oneCell' = true) ∧ ∀ n, n < k → L[pw m n]? = some (num n)
  grown : w.grownBy wr none
theorem setCell_row {w : World} {g i : Nat} {L : List Value} {t : TypeId} (h : w.heap[g]? = some (.cells L.toArray t)) (v : Value) : (w.setCell ⟨g, i, none⟩ v).heap[g]? = some (.cells (L.set i v).toArray t) := by
  simp [World.setCell, Array.getElem?_modify, h]
theorem setCell_else {w : World} {g i j : Nat} (hne : j ≠ g) (v : Value) : (w.setCell ⟨g, i, none⟩ v).heap[j]? = w.heap[j]? := Below.heap_setCell w ⟨g, i, none⟩ v j hne
theorem cell_row {w : World} {g i : Nat} {L : List Value} {t : TypeId} (h : w.heap[g]? = some (.cells L.toArray t)) : w.cell? ⟨g, i, none⟩ = L[i]? := by
  simp [World.cell?, h]
theorem frozen_row {w : World} {g i : Nat} {L : List Value} {t : TypeId} (h : w.heap[g]? = some (.cells L.toArray t)) : w.frozen? ⟨g, i, none⟩ = false := by
  simp [World.frozen?, h]
theorem grownBy_setCell {w w' : World} {r : Option Nat} (h : w.grownBy w' r) {g i : Nat} (hg : w.heap.size ≤ g ∨ r = some g) (v : Value) : w.grownBy (w'.setCell ⟨g, i, none⟩ v) r :=
  ⟨h.os, h.tape, h.output, by have := h.size; simp [World.setCell]; omega, fun k hk hne => by
    rw [setCell_else (by rintro rfl; rcases hg with hg | hg; omega; exact hne hg.symm)]; exact h.block k hk hne⟩
theorem TabRel.next {w wr : World} {m k : Nat} (hm : Em m) (h : TabRel w wr m k) (hk : k < sz m) :
    TabRel w ((wr.setCell ⟨w.heap.size, k, none⟩ (num (pw m k))).setCell ⟨w.heap.size + 1, pw m k, none⟩ (num k)) m (k + 1) := by
  obtain ⟨⟨P, hP, lP, eP⟩, ⟨L, hL, lL, oL, eL⟩, hg⟩ := h
  have hb := sz_bd hm
  have hp := pw_bd hm k
  refine ⟨⟨P.set k (num (pw m k)), ?_, by simpa using lP, fun n hn => ?_⟩, ⟨L.set (pw m k) (num k), ?_, by simpa using lL, fun v hv => (List.mem_or_eq_of_mem_set hv).elim (oL v) (fun e => by rw [e]; rfl), fun n hn => ?_⟩, ?_⟩
  · rw [setCell_else (by omega)]; exact setCell_row hP _
  · by_cases e : n = k
    · subst e; rw [List.getElem?_set_self (by omega)]
    · rw [List.getElem?_set_ne (by omega)]; exact eP n (by omega)
  · apply setCell_row; rw [setCell_else (by omega)]; exact hL
  · by_cases e : n = k
    · subst e; rw [List.getElem?_set_self (by omega)]
    · rw [List.getElem?_set_ne (fun e' => e (pw_inj hm (by omega) (by omega) e'.symm))]; exact eL n (by omega)
  · exact grownBy_setCell (grownBy_setCell hg (.inl (by omega)) _) (.inl (by omega)) _
theorem zone : ∀ v ∈ Tryd.zeroCells115.toList, v.oneCell' = true := List.all_eq_true.1 (by kernel_rfl)
theorem TabRel.start (w : World) (m nq : Nat) : TabRel w (((w.alloc (.cells Tryd.zeroCells115 115)).alloc (.cells Tryd.zeroCells115 115)).drewN nq) m 0 := by
  refine ⟨⟨Tryd.zeroCells115.toList, ?_, by simp, fun n hn => by omega⟩, ⟨Tryd.zeroCells115.toList, ?_, by simp, zone, fun n hn => by omega⟩, ?_⟩
  · show ((w.alloc _).alloc _).heap[w.heap.size]? = _
    rw [Below.heap_alloc _ _ _ (by simp)]; exact heap_alloc_new w _
  · have := heap_alloc_new (w.alloc (.cells Tryd.zeroCells115 115)) (.cells Tryd.zeroCells115 115)
    simpa using this
  · exact grownBy_drewN (grownBy_trans (World.grownBy_alloc w _ none) (World.grownBy_alloc _ _ none)) nq
theorem below_made {wr w4 : World} {b o : Nat} {v : Value} {O : Obj} (hb : b < wr.heap.size) (h : Below wr.heap.size ((wr.setCell ⟨b, o, none⟩ v).alloc O).drew w4) :
    wr.grownBy w4 (some b) ∧ w4.heap[b]? = (wr.setCell ⟨b, o, none⟩ v).heap[b]? := by
  have hs : (wr.setCell ⟨b, o, none⟩ v).heap.size = wr.heap.size := by simp [World.setCell]
  refine ⟨⟨h.os, h.tape, h.output, ?_, fun k hk hne => ?_⟩, ?_⟩
  · have := h.size
    simp [World.setCell] at this
    omega
  · rw [h.block k hk]
    show ((wr.setCell ⟨b, o, none⟩ v).alloc O).heap[k]? = _
    rw [Below.heap_alloc _ _ _ (by omega), setCell_else (by simpa using hne)]
  · rw [h.block b hb]
    show ((wr.setCell ⟨b, o, none⟩ v).alloc O).heap[b]? = _
    rw [Below.heap_alloc _ _ _ (by omega)]
def lenOf : Value → Nat | .slice _ n _ => n | _ => 0
theorem addr_add (g j : Nat) : (⟨g, 0, none⟩ : Addr).add j = ⟨g, j, none⟩ := by unfold Addr.add; split <;> simp_all
theorem tab_pows {w wr : World} {m : Nat} (hT : TabRel w wr m (sz m)) : ∃ X : List Value, X.length = sz m ∧ (∀ j v, X[j]? = some v → wr.cell? ⟨w.heap.size, j, none⟩ = some v) ∧ (∀ v ∈ X, v.oneCell' = true) ∧ Hid (∀ n, n < sz m → X[n]? = some (num (pw m n))) := by
  obtain ⟨⟨P, hP, lP, eP⟩, _, _⟩ := hT
  refine ⟨(List.range (sz m)).map fun n => num (pw m n), by simp, fun j v hv => ?_, fun v hv => ?_, fun n hn => by simp [hn]⟩
  · rw [cell_row hP]
    rw [List.getElem?_map] at hv
    by_cases hj : j < sz m
    · rw [List.getElem?_range hj] at hv
      rw [eP j hj]; exact hv
    · rw [List.getElem?_eq_none (by simpa using hj)] at hv; cases hv
  · simp at hv
    obtain ⟨n, _, rfl⟩ := hv
    rfl
theorem tab_logs {w wr : World} {m : Nat} (hm : Em m) (hT : TabRel w wr m (sz m)) : ∃ Y : List Value, Y.length = sz m + 1 ∧ (∀ j v, Y[j]? = some v → wr.cell? ⟨w.heap.size + 1, j, none⟩ = some v) ∧ (∀ v ∈ Y, v.oneCell' = true) ∧ Hid (∀ a, 1 ≤ a → a ≤ sz m → Y[a]? = some (num (lg m a))) := by
  obtain ⟨_, ⟨P, hP, lP, oP, eP⟩, _⟩ := hT
  have hb := sz_bd hm
  refine ⟨P.take (sz m + 1), by simp; omega, fun j v hv => ?_, fun v hv => oP v (List.mem_of_mem_take hv), fun a h1 h2 => ?_⟩
  · rw [cell_row hP]
    rw [List.getElem?_take] at hv
    split at hv
    · exact hv
    · cases hv
  · obtain ⟨g1, g2⟩ := lg_spec hm h1 h2
    have := eP _ g1
    rw [g2] at this
    rw [List.getElem?_take, if_pos (by omega)]; exact this
theorem tab_final {w6 : World} {m : Nat} (hm : Em m) (gp gl : Nat) {X Y : List Value} (hX : X.length = sz m) (eX : ∀ n, n < sz m → X[n]? = some (num (pw m n))) (hY : Y.length = sz m + 1) (eY : ∀ a, 1 ≤ a → a ≤ sz m → Y[a]? = some (num (lg m a)))
    (h1 : w6.heap[gp]? = some (.cells (splice (splice (zs (2 * sz m)) 0 X) (sz m) X).toArray 3)) (h2 : w6.heap[gl]? = some (.cells (splice (zs (sz m + 1)) 0 Y).toArray 3)) : Tabs w6 m gp gl := by
  have e1 : splice (splice (zs (2 * sz m)) 0 X) (sz m) X = X ++ X := by
    have hl : (splice (zs (2 * sz m)) 0 X) = X ++ (zs (2 * sz m)).drop (sz m) := by simp [splice, hX]
    rw [hl]
    simp only [splice, hX]
    rw [List.take_append_of_le_length (by omega), List.take_of_length_le (by omega), List.drop_eq_nil_of_le (by simp [zs_len, hX]; omega)]
    simp
  have e2 : splice (zs (sz m + 1)) 0 Y = Y := by
    simp only [splice]
    rw [List.drop_eq_nil_of_le (by simp [zs_len, hY])]
    simp
  rw [e1] at h1
  rw [e2] at h2
  refine ⟨fun n hn => ?_, fun a a1 a2 => ?_⟩
  · rw [cell_row h1]
    by_cases hlt : n < sz m
    · rw [List.getElem?_append_left (by omega)]; exact eX n hlt
    · rw [List.getElem?_append_right (by omega), hX, eX _ (by omega)]
      have := pw_period hm (n - sz m)
      rw [Nat.sub_add_cancel (by omega)] at this
      rw [this]
  · rw [cell_row h2]; exact eY a a1 a2
theorem x2_int {m k : Nat} (hm : Em m) : (sz m < 2 * pw m k → bits .xor .i64 ((pw m k : Int) * 2) (poly m : Int) = (pw m (k + 1) : Int)) ∧ (¬ sz m < 2 * pw m k → ((pw m k : Int) * 2) = (pw m (k + 1) : Int)) := by
  have hb := sz_bd hm
  have hp := pw_bd hm k
  have hq := poly_form hm
  have := two_pow_le hm
  constructor
  · intro h
    have e : (pw m k : Int) * 2 = ((2 * pw m k : Nat) : Int) := by omega
    rw [e, xor_i64 _ _ (by omega) (by omega), pw_succ, x2, if_pos h]
  · intro h
    rw [pw_succ, x2, if_neg h]; omega
set_option maxHeartbeats 400000 in
theorem tab_ok {b m : Nat} {w : World} (hm : Em m) (hg : Glob w) (hpos : 0 < b) (d s z : Value) (hb : w.heap[b]? = some (.cells #[num m, d, s, z, .slice none 0 0, .slice none 0 0] 95)) :
    Calls Tryd.prog 70 #[ptr b] w fun e w' => e = .returned (.tuple #[]) ∧ ∃ gp gl, w'.heap[b]? = some (.cells #[num m, d, s, z, pvOf m gp, lvOf m gl] 95) ∧ Tabs w' m gp gl ∧ w.grownBy w' (some b) ∧ w.heap.size ≤ gp ∧ w.heap.size ≤ gl := by
  have hc : w.cell? ⟨b, 0, none⟩ = some (num m) := by simp [World.cell?, hb]
  have hblt : b < w.heap.size := lt_of_heap hb
  have h0lt : 0 < w.heap.size := by omega
  have h1 : (2 : Int) ≤ m := by have := hm.1; omega
  have h2 : (m : Int) ≤ 13 := by have := hm.2; omega
  have hG : w.cell? ⟨0, m - 2, none⟩ = some (num (poly m)) := hg m hm.1 hm.2
  have hc2 : ((w.alloc (.cells Tryd.zeroCells115 115)).alloc (.cells Tryd.zeroCells115 115)).cell? ⟨b, 0, none⟩ = some (num m) := by
    rw [World.cell?_alloc_past _ _ _ (by simp; omega), World.cell?_alloc_past _ _ _ hblt]; exact hc
  go_enter Tryd.func70, Tryd.ntmps70
  go_wp2_with fail
  go_quiet ((go_at_call 46; exact Calls.quiet_of_same (size_cell hm hc2)))
  go_wp2_with fail
  go_loopw [6, 18] (fun a i wr => ∃ k : Nat, k ≤ sz m ∧ a = num (pw m k) ∧ i = num k ∧ TabRel w wr m k) (fun _ i _ => sz m - (intOf i).toNat)
  case atStart => exact ⟨0, Nat.zero_le _, rfl, rfl, TabRel.start w m nq⟩
  case round =>
    obtain ⟨k, hk, rfl, rfl, hT⟩ := hrel
    have hsz := sz_bd hm
    have hs1 : (sz m : Int) ≤ 8191 := by omega
    have hkk : (k : Int) ≤ sz m := by omega
    by_cases hlt : k < sz m
    · have hlt' : (k : Int) < sz m := by omega
      have hp := pw_bd hm k
      have hp1 : (1 : Int) ≤ pw m k := by omega
      have hp2 : (pw m k : Int) ≤ 8191 := by omega
      have hN := hT.next hm hlt
      obtain ⟨x1, hx1⟩ : ∃ x, wr.cell? ⟨w.heap.size, k, none⟩ = some x := by
        obtain ⟨⟨P, hP, lP, eP⟩, _, _⟩ := hT
        exact ⟨P[k]'(by omega), by rw [cell_row hP, List.getElem?_eq_getElem]⟩
      obtain ⟨x2, hx2⟩ : ∃ x, wr.cell? ⟨w.heap.size + 1, pw m k, none⟩ = some x := by
        obtain ⟨_, ⟨P, hP, lP, _, eP⟩, _⟩ := hT
        exact ⟨P[pw m k]'(by omega), by rw [cell_row hP, List.getElem?_eq_getElem]⟩
      have hz1 : wr.frozen? ⟨w.heap.size, k, none⟩ = false := by
        obtain ⟨⟨P, hP, lP, eP⟩, _, _⟩ := hT
        exact frozen_row hP
      have hz2 : wr.frozen? ⟨w.heap.size + 1, pw m k, none⟩ = false := by
        obtain ⟨_, ⟨P, hP, lP, _, eP⟩, _⟩ := hT
        exact frozen_row hP
      have HX : Hid _ := @x2_int m k hm
      by_cases ht : sz m < 2 * pw m k
      · have ht' : (sz m : Int) < (pw m k : Int) * 2 := by omega
        go_wp2
        go_roundw
        case rel => exact ⟨k + 1, by omega, congrArg num (HX.out.1 ht), by go_num, hN⟩
        case measure => simp [intOf]; omega
      · have ht' : ¬ (sz m : Int) < (pw m k : Int) * 2 := by omega
        go_wp2
        go_roundw
        case rel => exact ⟨k + 1, by omega, congrArg num (HX.out.2 ht), by go_num, hN⟩
        case measure => simp [intOf]; omega
    · obtain rfl : k = sz m := by omega
      clear hlt hk hkk
      have hbr : wr.heap[b]? = some (.cells #[num m, d, s, z, .slice none 0 0, .slice none 0 0] 95) := (hT.grown.block b hblt (by simp)).trans hb
      have c4 : wr.cell? ⟨b, 4, none⟩ = some (.slice none 0 0) := by simp [World.cell?, hbr]
      have c5 : wr.cell? ⟨b, 5, none⟩ = some (.slice none 0 0) := by simp [World.cell?, hbr]
      have z4 : ∀ o, wr.frozen? ⟨b, o, none⟩ = false := by simp [World.frozen?, hbr]
      have hbw : b < wr.heap.size := lt_of_heap hbr
      obtain ⟨i0, hi, hz0, hz1, hz2⟩ := info_parts Tryd.info3
      obtain ⟨X, hXl, hXc, hX1, hXe⟩ : ∃ X : List Value, X.length = sz m ∧ (∀ j v, X[j]? = some v → wr.cell? ⟨w.heap.size, j, none⟩ = some v) ∧ (∀ v ∈ X, v.oneCell' = true) ∧ Hid (∀ n, n < sz m → X[n]? = some (num (pw m n))) := tab_pows hT
      have hw0 : w.heap.size < wr.heap.size := by obtain ⟨P, hP, _⟩ := hT.pows; exact lt_of_heap hP
      have hXn : Nat.min (sz m) (2 * sz m) = sz m := by simp [Nat.min_def]; omega
      go_wp2_with (first | (at_make; go_must (refine wpList_make_own0 _ rfl _ _ 27 rfl 3 i0 Tryd.underlying27 hi hz0 hz1 hz2 .i64 .i64 _ _ (2 * sz m) rfl rfl (by omega) (by omega) (by omega) ?_)))
      have hgp : ((wr.setCell ⟨b, 4, none⟩ (pvOf m wr.heap.size)).alloc (.cells (zs (2 * sz m)).toArray 3)).heap[wr.heap.size]? = some (.cells (zs (2 * sz m)).toArray 3) := by
        have := heap_alloc_new (wr.setCell ⟨b, 4, none⟩ (pvOf m wr.heap.size)) (.cells (zs (2 * sz m)).toArray 3)
        simpa [World.setCell] using this
      have hsrc : ∀ j v, X[j]? = some v → ((wr.setCell ⟨b, 4, none⟩ (pvOf m wr.heap.size)).alloc (.cells (zs (2 * sz m)).toArray 3)).cell? ((⟨w.heap.size, 0, none⟩ : Addr).add j) = some v := by
        intro j v hv
        rw [addr_add, World.cell?_alloc_past _ _ _ (by simp [World.setCell]; omega), World.cell?_setCell_other _ _ _ _ (by intro h; have := congrArg Addr.block h; simp at this; omega)]
        exact hXc j v hv
      have hsl := fun W => run_sliceAt_array_h (P := Tryd.prog) (w := W) (t := 115) ⟨w.heap.size, 0, none⟩ (by kernel_rfl) .i64 (sz m) (by omega) (by rw [Tryd.len67]; omega)
      rw [Tryd.len67] at hsl
      simp only [Int.toNat_natCast] at hsl
      go_region_law (refine step_copy_splice rfl (.tmp 45) (.tmp 47) 27 27 rfl 3 Tryd.underlying27 Tryd.one3 _ _ _ _ _ _ rfl rfl wr.heap.size 0 (zs (2 * sz m)) 3 (by exact hgp) X (by rw [hXl]; exact hXn.symm) (fun _ => ⟨rfl, _, rfl, by exact hsrc⟩) (by rw [hXl, zs_len]; omega) hX1 wr.heap.size _ (Below.refl _ _) (Nat.le_refl _) ?_; intro w4 hg4 hb4)
      have hA := below_made hbw hb4
      have b4 : w4.heap[b]? = some (.cells #[num m, d, s, z, pvOf m wr.heap.size, .slice none 0 0] 95) := by
        rw [hA.2]; simp [World.setCell, Array.getElem?_modify, hbr]
      have hlt4 : wr.heap.size < w4.heap.size := lt_of_heap hg4.out
      have d4 : w4.cell? ⟨b, 4, none⟩ = some (pvOf m wr.heap.size) := by simp [World.cell?, b4]
      have hsrc2 : ∀ j v, X[j]? = some v → w4.cell? ((⟨w.heap.size, 0, none⟩ : Addr).add j) = some v := by
        intro j v hv
        rw [addr_add, World.cell?_of_block (w := wr) (hA.1.block w.heap.size hw0 (by simp; omega))]
        exact hXc j v hv
      have e1 : (sz m : Int) ≤ 2 * (sz m : Int) := by omega
      have e2 : ¬ 2 * sz m = sz m := by omega
      have e3 : 2 * sz m - sz m = sz m := by omega
      have HA : Hid _ := hA
      have HB : Hid _ := b4
      clear hA b4 hb4 hsrc hgp c4 hc2 hc hbr hb
      go_wp2_with fail
      go_region_law (refine step_copy_splice rfl (.tmp 54) (.tmp 56) 27 27 rfl 3 Tryd.underlying27 Tryd.one3 _ _ _ _ _ _ rfl rfl wr.heap.size (sz m) _ 3 (by exact hg4.out) X (by rw [hXl]; simp) (fun _ => ⟨by simp, _, rfl, by exact hsrc2⟩) (by rw [hXl, length_splice _ _ _ (by rw [zs_len]; omega), zs_len]; omega) hX1 wr.heap.size _ (Below.refl _ _) (Nat.le_refl _) ?_; intro w5 hg5 hb5)
      have hA5 : wr.grownBy w5 (some b) ∧ w5.heap[b]? = w4.heap[b]? := ⟨⟨hb5.os.trans HA.out.1.os, hb5.tape.trans HA.out.1.tape, hb5.output.trans HA.out.1.output, Nat.le_trans HA.out.1.size hb5.size, fun k hk hne => (hb5.block k hk).trans (HA.out.1.block k hk hne)⟩, hb5.block b hbw⟩
      have b5 : w5.heap[b]? = some (.cells #[num m, d, s, z, pvOf m wr.heap.size, .slice none 0 0] 95) := hA5.2.trans HB.out
      have hlt5 : wr.heap.size < w5.heap.size := lt_of_heap hg5.out
      have hbw5 : b < w5.heap.size := by omega
      have d5 : w5.cell? ⟨b, 5, none⟩ = some (.slice none 0 0) := by simp [World.cell?, b5]
      have z5 : ∀ o, w5.frozen? ⟨b, o, none⟩ = false := by simp [World.frozen?, b5]
      obtain ⟨Y, hYl, hYc, hY1, hYe⟩ : ∃ Y : List Value, Y.length = sz m + 1 ∧ (∀ j v, Y[j]? = some v → wr.cell? ⟨w.heap.size + 1, j, none⟩ = some v) ∧ (∀ v ∈ Y, v.oneCell' = true) ∧ Hid (∀ a, 1 ≤ a → a ≤ sz m → Y[a]? = some (num (lg m a))) := tab_logs hm hT
      have hw1 : w.heap.size + 1 < wr.heap.size := by obtain ⟨P, hP, _⟩ := hT.logs; exact lt_of_heap hP
      have hgl : ((w5.setCell ⟨b, 5, none⟩ (lvOf m w5.heap.size)).alloc (.cells (zs (sz m + 1)).toArray 3)).heap[w5.heap.size]? = some (.cells (zs (sz m + 1)).toArray 3) := by
        have := heap_alloc_new (w5.setCell ⟨b, 5, none⟩ (lvOf m w5.heap.size)) (.cells (zs (sz m + 1)).toArray 3)
        simpa [World.setCell] using this
      have hsrc5 : ∀ j v, Y[j]? = some v → ((w5.setCell ⟨b, 5, none⟩ (lvOf m w5.heap.size)).alloc (.cells (zs (sz m + 1)).toArray 3)).cell? ((⟨w.heap.size + 1, 0, none⟩ : Addr).add j) = some v := by
        intro j v hv
        rw [addr_add, World.cell?_alloc_past _ _ _ (by simp [World.setCell]; omega), World.cell?_setCell_other _ _ _ _ (by intro h; have := congrArg Addr.block h; simp at this; omega)]
        rw [World.cell?_of_block (w := wr) (hA5.1.block (w.heap.size + 1) hw1 (by simp; omega))]
        exact hYc j v hv
      have hsl5 := fun W => run_sliceAt_array_h (P := Tryd.prog) (w := W) (t := 115) ⟨w.heap.size + 1, 0, none⟩ (by kernel_rfl) .i64 ((sz m : Int) + 1) (by omega) (by rw [Tryd.len67]; omega)
      rw [Tryd.len67] at hsl5
      simp only [show ((sz m : Int) + 1).toNat = sz m + 1 by omega] at hsl5
      have hwr : IntKind.i64.wrap ((sz m : Int) + 1) = (sz m : Int) + 1 := by rw [IntKind.wrap_i64]; omega
      have HA5 : Hid _ := hA5
      have HB5 : Hid _ := b5
      clear hA5 b5 hsl hsrc2 hb5 d4
      go_wp2_with (first | (at_make; go_must (refine wpList_make_own0 _ rfl _ _ 27 rfl 3 i0 Tryd.underlying27 hi hz0 hz1 hz2 .i64 .i64 _ _ (sz m + 1) rfl rfl (by omega) (by omega) (by omega) ?_)))
      go_region_law (refine step_copy_splice rfl (.tmp 67) (.tmp 70) 27 27 rfl 3 Tryd.underlying27 Tryd.one3 _ _ _ _ _ _ rfl rfl w5.heap.size 0 (zs (sz m + 1)) 3 (by exact hgl) Y (by rw [hYl]; simp) (fun _ => ⟨by simp, _, rfl, by exact hsrc5⟩) (by rw [hYl, zs_len]; omega) hY1 w5.heap.size _ (Below.refl _ _) (Nat.le_refl _) ?_; intro w6 hg6 hb6)
      have hA6 := below_made hbw5 hb6
      have b6 : w6.heap[b]? = some (.cells #[num m, d, s, z, pvOf m wr.heap.size, lvOf m w5.heap.size] 95) := by
        rw [hA6.2]; simp [World.setCell, Array.getElem?_modify, HB5.out]
      have hF := tab_final (w6 := w6) hm (wr.heap.size) (w5.heap.size) hXl hXe.out hYl hYe.out ((hA6.1.block wr.heap.size hlt5 (by simp; omega)).trans hg5.out) hg6.out
      have hgrow : w.grownBy w6 (some b) := grownBy_trans (grownBy_some _ hT.grown) (grownBy_trans HA5.out.1 hA6.1)
      have hfin : ∃ gp gl, w6.heap[b]? = some (.cells #[num m, d, s, z, pvOf m gp, lvOf m gl] 95) ∧ Tabs w6 m gp gl ∧ w.grownBy w6 (some b) ∧ w.heap.size ≤ gp ∧ w.heap.size ≤ gl := ⟨_, _, b6, hF, hgrow, by omega, by omega⟩
      have HF : Hid _ := hfin
      clear hfin hgrow hF b6 hA6 hb6
      go_wp2
      go_end0
      exact ⟨rfl, HF.out⟩
end Gf
end Go.Proofs.YtiojdoehlooibaaDoor
