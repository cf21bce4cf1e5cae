/- The walk of RecordRow. -/
import Derived.Test.YtfmkmfjmhpgglaaDoorRp
namespace Go.Proofs.YtfmkmfjmhpgglaaDoor
open Go.RowKit
namespace Rc
open Cr
/-- The kind as the statement takes it. -/
def kof (k : Int) : Int := 1 + (if k < 0 then -(k + 1) else k).tmod 4
theorem kof_may (k : Int) : 1 ≤ kof k ∧ kof k ≤ 4 := by
  unfold kof
  have h : 0 ≤ (if k < 0 then -(k + 1) else k) := by split <;> omega
  have h1 := Int.tmod_nonneg 4 h
  have h2 := Int.tmod_lt_of_pos (if k < 0 then -(k + 1) else k) (show (0 : Int) < 4 by decide)
  omega
def fr (x : Rec) (i : Nat) : Rec := ⟨kof x.kind, i * 1000 + x.seq % 1000, x.a, x.b, x.c⟩
theorem fr_may (x : Rec) (i : Nat) : MayR (fr x i) := kof_may _
theorem fr_fits {x : Rec} (h : x.Fits) {i : Nat} (hi : i < 30) : (fr x i).Fits := by
  have := kof_may x.kind
  refine ⟨by unfold I64; simp only [fr]; omega, by unfold U64; simp only [fr]; omega, h.a, h.b, h.c⟩
def rowsF (xs : List Rec) (m : Nat) : List Rec := (List.range m).map fun j => fr (nthR xs j) j
theorem rowsF_len (xs : List Rec) (m : Nat) : (rowsF xs m).length = m := by simp [rowsF]
theorem rowsF_succ (xs : List Rec) (m : Nat) : rowsF xs (m + 1) = rowsF xs m ++ [fr (nthR xs m) m] := by simp [rowsF, List.range_succ]
theorem rowsF_at (xs : List Rec) {m i : Nat} (h : i < m) : nthR (rowsF xs m) i = fr (nthR xs i) i := by simp [nthR, rowsF, h]
theorem own_else {w w' : World} {b1 b2 : Nat} {e1 e2 : TypeId} {s1 s2 : Nat} {v1 v2 : Value} {n1 n2 : Nat} {x1 x2 : List Value} (h1 : w.ownsRow b1 e1 s1 v1 n1 x1) (h2 : w.ownsRow b2 e2 s2 v2 n2 x2) (hne : e1 ≠ e2) (hg : w.grownBy w' v2.ownBlock) : w'.ownsRow b1 e1 s1 v1 n1 x1 :=
  ⟨h1.1, h1.2.imp id fun ⟨g, cap, cur, a, b, c, d⟩ => ⟨g, cap, cur, a, b, (hg.block g (lt_of_heap c) (fun e => by
    rcases h2.2 with ⟨rfl, _⟩ | ⟨g', _, cur', rfl, _, c', _⟩
    · simp [Value.ownBlock] at e
    · simp [Value.ownBlock] at e; subst e; rw [c] at c'; simp at c'; exact hne c'.2)).trans c, d⟩⟩
theorem obj_else {w w' : World} {b2 : Nat} {e2 : TypeId} {s2 : Nat} {v2 : Value} {n2 : Nat} {x2 : List Value} {g : Nat} {L : Array Value} {t : TypeId} (h : w.heap[g]? = some (.cells L t)) (h2 : w.ownsRow b2 e2 s2 v2 n2 x2) (hne : t ≠ e2) (hg : w.grownBy w' v2.ownBlock) : w'.heap[g]? = some (.cells L t) :=
  (hg.block g (lt_of_heap h) (fun e => by
    rcases h2.2 with ⟨rfl, _⟩ | ⟨g', _, cur', rfl, _, c', _⟩
    · simp [Value.ownBlock] at e
    · simp [Value.ownBlock] at e; subst e; rw [h] at c'; simp at c'; exact hne c'.2)).trans h
theorem wpList_append_rec {w : World} {ops : Array Oper} {rest : List Oper} {o : Oper} {a : Act} {Q : Exit → Act → World → Prop}
    (hg : o.guard = none) (s x : Operand) (hop : o.op = .call { callee := .builtin .append, args := #[s, x], argTypes := #[34, 34] })
    (base : Nat) (v : Value) (k : Nat) (xs : List Value) (hs : a.eval s = v) (hown : w.ownsRow base 24 5 v k xs) (g : Nat) (r : Rec) (hx : a.eval x = .slice (some ⟨g, 0, none⟩) 1 1) (hh : w.heap[g]? = some (.cells (vals1 r).toArray 24))
    (b1 : k ≤ 1000000000000) (b3 : base ≤ w.heap.size)
    (hK : ∀ v' w', w'.ownsRow base 24 5 v' (k + 1) (xs ++ vals1 r) → w.grownBy w' v.ownBlock → wpList Tryd.prog ops Q rest (a.put o.dst v') w') :
    wpList Tryd.prog ops Q (o :: rest) a w := by
  obtain ⟨i0, hi, hz0, hz1, hz2⟩ := info_parts infoR
  refine wpList_append_own w hg s x 34 hop base 24 i0 _ 5 40 Tryd.underlying34 hi hz0 hz1 hz2 rfl (by decide) v k xs hs hown ⟨g, 0, none⟩ 1 1 (vals1 r) hx rfl (fun j u hu => by
    rw [addr_add', Nat.zero_add]
    exact cell_at hh (by simpa using hu)) (fun u hu => by simp at hu; rcases hu with rfl | rfl | rfl | rfl | rfl <;> rfl) (by unfold maxLen; omega) (by omega) b3 (fun v' w' r1 r2 _ => hK v' w' r1 r2)
structure RwI (w : World) (xs : List Rec) (i : Nat) (vb vw : Value) (wr : World) : Prop where
  bs : OwnF w wr vb (flat (rowsF xs i))
  ws : wr.ownsRow w.heap.size 24 5 vw i (valsR (rowsF xs i))
theorem RwI_eq (w : World) (xs : List Rec) (i : Nat) (vb vw : Value) (wr : World) : RwI w xs i vb vw wr ↔ OwnF w wr vb (flat (rowsF xs i)) ∧ wr.ownsRow w.heap.size 24 5 vw i (valsR (rowsF xs i)) := ⟨fun h => ⟨h.1, h.2⟩, fun h => ⟨h.1, h.2⟩⟩
theorem flat_le {rs : List Rec} (h : ∀ i, i < rs.length → MayR (nthR rs i)) : ∀ x ∈ flat rs, x ≤ 255 := fun x hx => by
  obtain ⟨r, hr, hx⟩ := List.mem_flatMap.1 hx
  obtain ⟨i, hi, e⟩ := List.mem_iff_getElem.1 hr
  have hm := h i hi
  have : nthR rs i = r := by simp [nthR, hi, e]
  rw [this] at hm
  exact mem_seal (recB_le' hm) _ x hx
set_option maxHeartbeats 1600000 in
set_option maxRecDepth 100000 in
theorem law_RecordRow (ao : Option Addr) (len cap : Nat) (xs : List Rec) {w : World} (hx : ArgV w ao len cap xs) (_hb : len ≤ 9223372036854775807) (aj : Option Addr) (lj cj : Nat) (js : List Nat) (hj : ArgB w aj lj js) (hlj : lj ≤ 140737488351232 ∧ lj ≤ cj ∧ (aj = none → cj = 0)) (hG : Glob w) (_h0 : 0 < w.heap.size) :
    Calls Tryd.prog 5 #[.slice ao len cap, .slice aj lj cj] w fun e w' => e = .returned (.bool true) ∧ w.grownBy w' none := by
  obtain ⟨rfl, hj⟩ := hj
  obtain ⟨rfl, hv, hfit⟩ := hx
  obtain ⟨hj1, hj2, hj3⟩ := hlj
  obtain ⟨i0, hi, hz0, hz1, hz2⟩ := info_parts Tryd.info5
  have HAw := hide (awake_ok hG)
  have HGl := hide hG
  have HJ := hide hj
  have HV := hide hv
  have HF := hide hfit
  clear hG hj hv hfit
  go_enter Tryd.func5, Tryd.ntmps5
  go_wp2_with fail
  refine HAw.out.mono ?_
  rintro e w1 ⟨rfl, hg1⟩
  have HG1 := hide hg1
  clear hg1 HAw
  go_wp2_with fail
  go_loopw [6, 7, 8] (fun vb vw iv wr => ∃ i : Nat, i ≤ xs.length ∧ i ≤ 30 ∧ iv = num i ∧ RwI w1 xs i vb vw wr) (fun _ _ iv _ => 30 - (intOf iv).toNat)
  case atStart => exact ⟨0, Nat.zero_le _, Nat.zero_le _, rfl, ⟨OwnF.nil (grownBy_refl _ _), World.ownsRow_nil _ _ _ _⟩⟩
  case round =>
    obtain ⟨i, hi1, hi30, rfl, hI⟩ := hrel
    by_cases hin : i < xs.length
    · have q1 : (i : Int) < (xs.length : Int) := by omega
      by_cases hi3 : i < 30
      · have q2 : (i : Int) < 30 := by omega
        obtain ⟨ao', cap', e', _, hat0⟩ := HV.out
        injection e' with e1 e2 e3
        subst e1
        subst e3
        obtain ⟨gl, ol, rfl, hat⟩ := hat0.resolve_left (fun e => by rw [e] at hin; simp at hin)
        have hgr := grownBy_trans HG1.out hI.bs.gr
        obtain ⟨x0, x1, x2, x3, x4⟩ := (hat i hin).more hgr
        have hft := HF.out i hin
        obtain ⟨X, hX⟩ : ∃ X, X = nthR xs i := ⟨_, rfl⟩
        rw [← hX] at x0 x1 x2 x3 x4 hft
        have HX := hide hX
        obtain ⟨k, s, a, b, c⟩ := X
        have hk1 := hft.kind.1
        have hk2 := hft.kind.2
        have hs1 := hft.seq
        unfold U64 at hs1
        simp only at x0 x1 x2 x3 x4 hk1 hk2 hs1
        have hsq : s % 1000 < 1000 := Nat.mod_lt _ (by decide)
        have es : (s : Int) % 1000 = ((s % 1000 : Nat) : Int) := by omega
        have HI := hide hI
        have HGr := hide hgr
        clear hX hI hgr hat hat0 hft hs1
        by_cases hkn : k < 0
        · skip
          obtain ⟨n, rfl⟩ : ∃ n : Nat, k = -((n : Int) + 1) := ⟨(-(k + 1)).toNat, by omega⟩
          have hkk : kof (-((n : Int) + 1)) = 1 + ((n % 4 : Nat) : Int) := by unfold kof; rw [if_pos (by omega), show -(-((n : Int) + 1) + 1) = (n : Int) by omega, Int.ofNat_tmod n 4]; rfl
          have hq : (-((n : Int) + 1) + 1) = -(n : Int) := by omega
          have hnn : (n : Int) ≤ 9223372036854775807 := by omega
          clear hk1 hk2
          have hn4 : (n : Int).tmod 4 = ((n % 4 : Nat) : Int) := (Int.ofNat_tmod n 4).symm
          have hm4 : n % 4 < 4 := Nat.mod_lt _ (by decide)
          obtain ⟨R, hR⟩ : ∃ R : Rec, R = fr ⟨-((n : Int) + 1), s, a, b, c⟩ i := ⟨_, rfl⟩
          have hRV : recV R = .agg #[num (1 + ((n % 4 : Nat) : Int)), .int .u64 ((i : Int) * 1000 + ((s % 1000 : Nat) : Int)), q64 a, q64 b, q64 c] := by rw [hR]; simp only [recV, fr, hkk]; simp
          have hRL : recL R = .cells #[num (1 + ((n % 4 : Nat) : Int)), .int .u64 ((i : Int) * 1000 + ((s % 1000 : Nat) : Int)), q64 a, q64 b, q64 c] 24 := by rw [hR]; simp only [recL, fr, hkk]; simp
          have hM : MayR R := by rw [hR]; exact fr_may _ _
          have HRX : Hid (rowsF xs (i + 1) = rowsF xs i ++ [R]) := by rw [Hid, rowsF_succ, ← HX.out, hR]
          have HRV := hide hRV
          have HRL := hide hRL
          have HM := hide hM
          generalize n % 4 = M at hn4 hm4 HRV HRL
          generalize s % 1000 = S at hsq es HRV HRL
          clear hR hM hRV hRL hkk
          have wi : IntKind.u64.wrap (i : Int) = (i : Int) := by rw [IntKind.wrap_u64]; omega
          obtain ⟨Y, hY⟩ : ∃ Y, Y = wr.alloc (.cells #[.int .i64 (1 + (M : Int)), .int .u64 ((i : Int) * 1000 + (S : Int)), .int .u64 a, .int .u64 b, .int .u64 c] 24) := ⟨_, rfl⟩
          have hgY : wr.grownBy Y none := by rw [hY]; exact World.grownBy_alloc wr _ none
          have hbY : Y.heap[wr.heap.size]? = some (recL R) := by rw [HRL.out, hY]; exact heap_alloc_new wr _
          have y0 : Y.cell? ⟨wr.heap.size, 0, none⟩ = some (.int .i64 (1 + (M : Int))) := by rw [hY]; exact cell_at (heap_alloc_new wr _) rfl
          have y1 : Y.cell? ⟨wr.heap.size, 1, none⟩ = some (.int .u64 ((i : Int) * 1000 + (S : Int))) := by rw [hY]; exact cell_at (heap_alloc_new wr _) rfl
          have y2 : Y.cell? ⟨wr.heap.size, 2, none⟩ = some (.int .u64 a) := by rw [hY]; exact cell_at (heap_alloc_new wr _) rfl
          have y3 : Y.cell? ⟨wr.heap.size, 3, none⟩ = some (.int .u64 b) := by rw [hY]; exact cell_at (heap_alloc_new wr _) rfl
          have y4 : Y.cell? ⟨wr.heap.size, 4, none⟩ = some (.int .u64 c) := by rw [hY]; exact cell_at (heap_alloc_new wr _) rfl
          have hBy := Bytes_ok (Glob.more HGl.out (grownBy_trans HGr.out hgY)) HM.out
          rw [HRV.out] at hBy
          have HBy := hide hBy
          have HYb := hide hbY
          have HY := hide hY
          have HgY := hide hgY
          clear hBy hbY hY hgY
          go_wp2_with (rw [← HY.out])
          refine HBy.out.mono ?_
          rintro e w3 ⟨g, rfl, hgg, hg3, hO⟩
          have HO3 : Hid (OwnB w3 g (sealed R) []) := hO
          have HB3 := hide ((HI.out.bs.more HgY.out).more hg3)
          have HW3 := hide (own_more (own_more HI.out.ws HgY.out) hg3)
          have HX3 := hide (obj_more HYb.out hg3)
          have HL3 := hide (sealed_len R)
          have hfl : (flat (rowsF xs i)).length + (sealed R).length ≤ 140737488355328 := by rw [flat_len, rowsF_len, sealed_len]; omega
          clear y0 y1 y2 y3 y4 hgg hg3 hO x0 x1 x2 x3 x4 HYb HY HBy HI HgY HGr hn4 wi es
          go_wp2_with (first | (at_builtin; refine wpList_append_more rfl (.tmp 62) (.tmp 63) rfl _ (flat (rowsF xs i)) rfl HB3.out.own HB3.out.gr.size (some ⟨g, 0, none⟩) (sealed R) 37 (by rw [HL3.out]; rfl) HO3.out.rdB hfl (fun e => by cases e) ?_; intro v4 w4 hown4 hg4; have HB4 := hide (OwnF.mk (own_step HB3.out.gr HB3.out.own hg4) hown4 (nth_app_le HB3.out.le HO3.out.le)); have HW4 := hide (own_else HW3.out HB3.out.own (by decide) hg4); have hx4 := obj_else HX3.out HB3.out.own (by decide) hg4; obtain ⟨z0, z1, z2, z3, z4⟩ := cells5 hx4; obtain ⟨V5, hV5⟩ : ∃ V5, V5 = w4.alloc (.cells #[num R.kind, q64 R.seq, q64 R.a, q64 R.b, q64 R.c] 24) := ⟨_, rfl⟩; have hgV5 : w4.grownBy V5 none := (by rw [hV5]; exact World.grownBy_alloc w4 _ none); have HT5 : Hid (V5.heap[w4.heap.size]? = some (.cells (vals1 R).toArray 24)) := (by rw [hV5]; exact heap_alloc_new w4 _); have HB5 := hide (HB4.out.more hgV5); have HW5 := hide (own_more HW4.out hgV5); have HV5 := hide hV5; have hsz5 := HB5.out.gr.size; clear hown4 hg4 hx4 hV5 hgV5 HB3 HW3 HX3 HO3 HB4 HW4) | (rw [← HV5.out]) | (at_builtin; refine wpList_append_rec rfl (.tmp 65) (.tmp 67) rfl w1.heap.size _ i (valsR (rowsF xs i)) rfl HW5.out w4.heap.size R rfl HT5.out (by omega) hsz5 ?_; intro v6 w6 hown6 hg6; have HR6 : Hid (RwI w1 xs (i + 1) v4 v6 w6) := (by rw [Hid, RwI_eq, HRX.out, flat_snoc, valsR_app, valsR_one]; exact ⟨⟨own_step HB5.out.gr HW5.out hg6, own_else HB5.out.own HW5.out (by decide) hg6, HB5.out.le⟩, hown6⟩); clear hown6 hg6))
          go_roundw
          case rel => exact ⟨i + 1, by omega, by omega, by go_num, HR6.out⟩
          case measure => simp [intOf]; omega
        · skip
          obtain ⟨n, rfl⟩ := Int.eq_ofNat_of_zero_le (show 0 ≤ k by omega)
          have hkk : kof (n : Int) = 1 + ((n % 4 : Nat) : Int) := by unfold kof; rw [if_neg (by omega), Int.ofNat_tmod n 4]; rfl
          have hnn : (n : Int) ≤ 9223372036854775807 := by omega
          clear hk1 hk2
          have hn4 : (n : Int).tmod 4 = ((n % 4 : Nat) : Int) := (Int.ofNat_tmod n 4).symm
          have hm4 : n % 4 < 4 := Nat.mod_lt _ (by decide)
          obtain ⟨R, hR⟩ : ∃ R : Rec, R = fr ⟨(n : Int), s, a, b, c⟩ i := ⟨_, rfl⟩
          have hRV : recV R = .agg #[num (1 + ((n % 4 : Nat) : Int)), .int .u64 ((i : Int) * 1000 + ((s % 1000 : Nat) : Int)), q64 a, q64 b, q64 c] := by rw [hR]; simp only [recV, fr, hkk]; simp
          have hRL : recL R = .cells #[num (1 + ((n % 4 : Nat) : Int)), .int .u64 ((i : Int) * 1000 + ((s % 1000 : Nat) : Int)), q64 a, q64 b, q64 c] 24 := by rw [hR]; simp only [recL, fr, hkk]; simp
          have hM : MayR R := by rw [hR]; exact fr_may _ _
          have HRX : Hid (rowsF xs (i + 1) = rowsF xs i ++ [R]) := by rw [Hid, rowsF_succ, ← HX.out, hR]
          have HRV := hide hRV
          have HRL := hide hRL
          have HM := hide hM
          generalize n % 4 = M at hn4 hm4 HRV HRL
          generalize s % 1000 = S at hsq es HRV HRL
          clear hR hM hRV hRL hkk
          have wi : IntKind.u64.wrap (i : Int) = (i : Int) := by rw [IntKind.wrap_u64]; omega
          obtain ⟨Y, hY⟩ : ∃ Y, Y = wr.alloc (.cells #[.int .i64 (1 + (M : Int)), .int .u64 ((i : Int) * 1000 + (S : Int)), .int .u64 a, .int .u64 b, .int .u64 c] 24) := ⟨_, rfl⟩
          have hgY : wr.grownBy Y none := by rw [hY]; exact World.grownBy_alloc wr _ none
          have hbY : Y.heap[wr.heap.size]? = some (recL R) := by rw [HRL.out, hY]; exact heap_alloc_new wr _
          have y0 : Y.cell? ⟨wr.heap.size, 0, none⟩ = some (.int .i64 (1 + (M : Int))) := by rw [hY]; exact cell_at (heap_alloc_new wr _) rfl
          have y1 : Y.cell? ⟨wr.heap.size, 1, none⟩ = some (.int .u64 ((i : Int) * 1000 + (S : Int))) := by rw [hY]; exact cell_at (heap_alloc_new wr _) rfl
          have y2 : Y.cell? ⟨wr.heap.size, 2, none⟩ = some (.int .u64 a) := by rw [hY]; exact cell_at (heap_alloc_new wr _) rfl
          have y3 : Y.cell? ⟨wr.heap.size, 3, none⟩ = some (.int .u64 b) := by rw [hY]; exact cell_at (heap_alloc_new wr _) rfl
          have y4 : Y.cell? ⟨wr.heap.size, 4, none⟩ = some (.int .u64 c) := by rw [hY]; exact cell_at (heap_alloc_new wr _) rfl
          have hBy := Bytes_ok (Glob.more HGl.out (grownBy_trans HGr.out hgY)) HM.out
          rw [HRV.out] at hBy
          have HBy := hide hBy
          have HYb := hide hbY
          have HY := hide hY
          have HgY := hide hgY
          clear hBy hbY hY hgY
          go_wp2_with (rw [← HY.out])
          refine HBy.out.mono ?_
          rintro e w3 ⟨g, rfl, hgg, hg3, hO⟩
          have HO3 : Hid (OwnB w3 g (sealed R) []) := hO
          have HB3 := hide ((HI.out.bs.more HgY.out).more hg3)
          have HW3 := hide (own_more (own_more HI.out.ws HgY.out) hg3)
          have HX3 := hide (obj_more HYb.out hg3)
          have HL3 := hide (sealed_len R)
          have hfl : (flat (rowsF xs i)).length + (sealed R).length ≤ 140737488355328 := by rw [flat_len, rowsF_len, sealed_len]; omega
          clear y0 y1 y2 y3 y4 hgg hg3 hO x0 x1 x2 x3 x4 HYb HY HBy HI HgY HGr hn4 wi es
          go_wp2_with (first | (at_builtin; refine wpList_append_more rfl (.tmp 62) (.tmp 63) rfl _ (flat (rowsF xs i)) rfl HB3.out.own HB3.out.gr.size (some ⟨g, 0, none⟩) (sealed R) 37 (by rw [HL3.out]; rfl) HO3.out.rdB hfl (fun e => by cases e) ?_; intro v4 w4 hown4 hg4; have HB4 := hide (OwnF.mk (own_step HB3.out.gr HB3.out.own hg4) hown4 (nth_app_le HB3.out.le HO3.out.le)); have HW4 := hide (own_else HW3.out HB3.out.own (by decide) hg4); have hx4 := obj_else HX3.out HB3.out.own (by decide) hg4; obtain ⟨z0, z1, z2, z3, z4⟩ := cells5 hx4; obtain ⟨V5, hV5⟩ : ∃ V5, V5 = w4.alloc (.cells #[num R.kind, q64 R.seq, q64 R.a, q64 R.b, q64 R.c] 24) := ⟨_, rfl⟩; have hgV5 : w4.grownBy V5 none := (by rw [hV5]; exact World.grownBy_alloc w4 _ none); have HT5 : Hid (V5.heap[w4.heap.size]? = some (.cells (vals1 R).toArray 24)) := (by rw [hV5]; exact heap_alloc_new w4 _); have HB5 := hide (HB4.out.more hgV5); have HW5 := hide (own_more HW4.out hgV5); have HV5 := hide hV5; have hsz5 := HB5.out.gr.size; clear hown4 hg4 hx4 hV5 hgV5 HB3 HW3 HX3 HO3 HB4 HW4) | (rw [← HV5.out]) | (at_builtin; refine wpList_append_rec rfl (.tmp 65) (.tmp 67) rfl w1.heap.size _ i (valsR (rowsF xs i)) rfl HW5.out w4.heap.size R rfl HT5.out (by omega) hsz5 ?_; intro v6 w6 hown6 hg6; have HR6 : Hid (RwI w1 xs (i + 1) v4 v6 w6) := (by rw [Hid, RwI_eq, HRX.out, flat_snoc, valsR_app, valsR_one]; exact ⟨⟨own_step HB5.out.gr HW5.out hg6, own_else HB5.out.own HW5.out (by decide) hg6, HB5.out.le⟩, hown6⟩); clear hown6 hg6))
          go_roundw
          case rel => exact ⟨i + 1, by omega, by omega, by go_num, HR6.out⟩
          case measure => simp [intOf]; omega
      · have q2 : ¬ (i : Int) < 30 := by omega
        have HN := hide hI
        have hm1 : i ≤ 30 := hi30
        have hMay : ∀ j, j < (rowsF xs i).length → (nthR (rowsF xs i) j).Fits ∧ MayR (nthR (rowsF xs i) j) := fun j hj => by
          rw [rowsF_len] at hj
          rw [rowsF_at xs hj]; exact ⟨fr_fits (HF.out j (by omega)) (by omega), fr_may _ _⟩
        have hUp : ∀ j, j + 1 < (rowsF xs i).length → (nthR (rowsF xs i) j).seq < (nthR (rowsF xs i) (j + 1)).seq := fun j hj => by
          rw [rowsF_len] at hj
          rw [rowsF_at xs (show j < i by omega), rowsF_at xs hj]
          simp only [fr]; omega
        have hRow := row_ok (rs := rowsF xs i) (y := 9 :: js) hMay hUp (nine_no js)
        rw [rowsF_len] at hRow
        have eB : (flat (rowsF xs i) ++ [9]) ++ js = flat (rowsF xs i) ++ 9 :: js := by simp
        rw [← eB] at hRow
        obtain ⟨Bq, hBq⟩ : ∃ Bq, (flat (rowsF xs i) ++ [9]) ++ js = Bq := ⟨_, rfl⟩
        rw [hBq] at hRow
        have HBq := hide hBq
        have HRow := hide hRow
        have hLB : Bq.length = 37 * i + 1 + js.length := by rw [← hBq]; simp [flat_len, rowsF_len]; omega
        have HLB := hide hLB
        obtain ⟨Va, hVa⟩ : ∃ Va, Va = wr.alloc (.cells #[.int .u8 9] 5) := ⟨_, rfl⟩
        have hga : wr.grownBy Va none := by rw [hVa]; exact World.grownBy_alloc wr _ none
        have h9 : OwnB Va wr.heap.size [9] [] := ⟨by rw [hVa]; exact heap_alloc_new wr _, nth_one 9 (by omega)⟩
        have HB1 := hide (hI.bs.more hga)
        have HW1 := hide (own_more hI.ws hga)
        have H9 := hide h9.rdB
        have HVa := hide hVa
        have hl1 : (flat (rowsF xs i)).length + [9].length ≤ 140737488355328 := by rw [flat_len, rowsF_len]; simp; omega
        have hl2 : (flat (rowsF xs i) ++ [9]).length + js.length ≤ 140737488355328 := by rw [List.length_append, flat_len, rowsF_len]; simp; omega
        have hkm : kmost i (-1) = i := by unfold kmost; rw [if_neg (by omega)]
        clear hI hMay hUp hRow eB hBq hVa hga h9 hLB
        go_wp2_with (first | (rw [← HVa.out]) | (at_builtin; refine wpList_append_more rfl (.tmp 69) (.tmp 70) rfl _ (flat (rowsF xs i)) rfl HB1.out.own HB1.out.gr.size (some ⟨wr.heap.size, 0, none⟩) [9] 1 rfl H9.out hl1 (fun e => by cases e) ?_; intro v5 w5 hown5 hg5; have HB5 := hide (OwnF.mk (own_step HB1.out.gr HB1.out.own hg5) hown5 (nth_app_le HB1.out.le (nth_one 9 (by omega)))); have HW5 := hide (own_else HW1.out HB1.out.own (by decide) hg5); clear hown5 hg5 HB1 HW1 H9) | (at_builtin; refine wpList_append_more rfl (.tmp 72) (.tmp 73) rfl _ (flat (rowsF xs i) ++ [9]) rfl HB5.out.own HB5.out.gr.size aj js cj rfl (HJ.out.more (grownBy_trans HG1.out HB5.out.gr)) hl2 hj3 ?_; intro v6 w6 hown6 hg6; have HB6 : Hid (OwnF w1 w6 v6 Bq) := (by rw [Hid, ← HBq.out]; exact OwnF.mk (own_step HB5.out.gr HB5.out.own hg6) hown6 (nth_app_le HB5.out.le HJ.out.1)); have HW6 := hide (own_else HW5.out HB5.out.own (by decide) hg6); obtain ⟨ta, tc, rfl, hrd, hcp, hnil⟩ := HB6.out.rd; clear hown6 hg6 HB5 HW5))
        have hgw6 := grownBy_trans HG1.out HB6.out.gr
        have HT := hide (taken_ok (Glob.more HGl.out hgw6) ta tc _ HRow.out.1 HRow.out.2.1 (by omega) hrd hcp hnil (by rw [HLB.out]; omega) (-1))
        have HGw6 := hide hgw6
        clear hrd hgw6 HB6
        refine HT.out.mono ?_
        rintro e w7 ⟨tv, rfl, hg7, hown7⟩
        rw [hkm, HRow.out.2.2] at hown7
        have HS := hide (same_eq (rdV_own hown7) (rdV_own (own_more HW6.out hg7)) (by rw [rowsF_len]; omega))
        have HG7 := hide (grownBy_trans HGw6.out hg7)
        clear hown7 hg7 HT HW6
        go_wp2_with fail
        refine HS.out.mono ?_
        rintro e w8 ⟨rfl, hg8⟩
        have HG8 := hide (grownBy_trans HG7.out hg8)
        clear hg8
        go_wp2
        go_ret
        exact ⟨rfl, HG8.out⟩
    · have q1 : ¬ (i : Int) < (xs.length : Int) := by omega
      have HN := hide hI
      have hm1 : i ≤ 30 := hi30
      have hMay : ∀ j, j < (rowsF xs i).length → (nthR (rowsF xs i) j).Fits ∧ MayR (nthR (rowsF xs i) j) := fun j hj => by
        rw [rowsF_len] at hj
        rw [rowsF_at xs hj]; exact ⟨fr_fits (HF.out j (by omega)) (by omega), fr_may _ _⟩
      have hUp : ∀ j, j + 1 < (rowsF xs i).length → (nthR (rowsF xs i) j).seq < (nthR (rowsF xs i) (j + 1)).seq := fun j hj => by
        rw [rowsF_len] at hj
        rw [rowsF_at xs (show j < i by omega), rowsF_at xs hj]
        simp only [fr]; omega
      have hRow := row_ok (rs := rowsF xs i) (y := 9 :: js) hMay hUp (nine_no js)
      rw [rowsF_len] at hRow
      have eB : (flat (rowsF xs i) ++ [9]) ++ js = flat (rowsF xs i) ++ 9 :: js := by simp
      rw [← eB] at hRow
      obtain ⟨Bq, hBq⟩ : ∃ Bq, (flat (rowsF xs i) ++ [9]) ++ js = Bq := ⟨_, rfl⟩
      rw [hBq] at hRow
      have HBq := hide hBq
      have HRow := hide hRow
      have hLB : Bq.length = 37 * i + 1 + js.length := by rw [← hBq]; simp [flat_len, rowsF_len]; omega
      have HLB := hide hLB
      obtain ⟨Va, hVa⟩ : ∃ Va, Va = wr.alloc (.cells #[.int .u8 9] 5) := ⟨_, rfl⟩
      have hga : wr.grownBy Va none := by rw [hVa]; exact World.grownBy_alloc wr _ none
      have h9 : OwnB Va wr.heap.size [9] [] := ⟨by rw [hVa]; exact heap_alloc_new wr _, nth_one 9 (by omega)⟩
      have HB1 := hide (hI.bs.more hga)
      have HW1 := hide (own_more hI.ws hga)
      have H9 := hide h9.rdB
      have HVa := hide hVa
      have hl1 : (flat (rowsF xs i)).length + [9].length ≤ 140737488355328 := by rw [flat_len, rowsF_len]; simp; omega
      have hl2 : (flat (rowsF xs i) ++ [9]).length + js.length ≤ 140737488355328 := by rw [List.length_append, flat_len, rowsF_len]; simp; omega
      have hkm : kmost i (-1) = i := by unfold kmost; rw [if_neg (by omega)]
      clear hI hMay hUp hRow eB hBq hVa hga h9 hLB
      go_wp2_with (first | (rw [← HVa.out]) | (at_builtin; refine wpList_append_more rfl (.tmp 69) (.tmp 70) rfl _ (flat (rowsF xs i)) rfl HB1.out.own HB1.out.gr.size (some ⟨wr.heap.size, 0, none⟩) [9] 1 rfl H9.out hl1 (fun e => by cases e) ?_; intro v5 w5 hown5 hg5; have HB5 := hide (OwnF.mk (own_step HB1.out.gr HB1.out.own hg5) hown5 (nth_app_le HB1.out.le (nth_one 9 (by omega)))); have HW5 := hide (own_else HW1.out HB1.out.own (by decide) hg5); clear hown5 hg5 HB1 HW1 H9) | (at_builtin; refine wpList_append_more rfl (.tmp 72) (.tmp 73) rfl _ (flat (rowsF xs i) ++ [9]) rfl HB5.out.own HB5.out.gr.size aj js cj rfl (HJ.out.more (grownBy_trans HG1.out HB5.out.gr)) hl2 hj3 ?_; intro v6 w6 hown6 hg6; have HB6 : Hid (OwnF w1 w6 v6 Bq) := (by rw [Hid, ← HBq.out]; exact OwnF.mk (own_step HB5.out.gr HB5.out.own hg6) hown6 (nth_app_le HB5.out.le HJ.out.1)); have HW6 := hide (own_else HW5.out HB5.out.own (by decide) hg6); obtain ⟨ta, tc, rfl, hrd, hcp, hnil⟩ := HB6.out.rd; clear hown6 hg6 HB5 HW5))
      have hgw6 := grownBy_trans HG1.out HB6.out.gr
      have HT := hide (taken_ok (Glob.more HGl.out hgw6) ta tc _ HRow.out.1 HRow.out.2.1 (by omega) hrd hcp hnil (by rw [HLB.out]; omega) (-1))
      have HGw6 := hide hgw6
      clear hrd hgw6 HB6
      refine HT.out.mono ?_
      rintro e w7 ⟨tv, rfl, hg7, hown7⟩
      rw [hkm, HRow.out.2.2] at hown7
      have HS := hide (same_eq (rdV_own hown7) (rdV_own (own_more HW6.out hg7)) (by rw [rowsF_len]; omega))
      have HG7 := hide (grownBy_trans HGw6.out hg7)
      clear hown7 hg7 HT HW6
      go_wp2_with fail
      refine HS.out.mono ?_
      rintro e w8 ⟨rfl, hg8⟩
      have HG8 := hide (grownBy_trans HG7.out hg8)
      clear hg8
      go_wp2
      go_ret
      exact ⟨rfl, HG8.out⟩
end Rc
end Go.Proofs.YtfmkmfjmhpgglaaDoor
