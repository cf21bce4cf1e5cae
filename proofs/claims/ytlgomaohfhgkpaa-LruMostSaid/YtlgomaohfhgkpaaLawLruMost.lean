/- Layer 10 (lru): the walk of LruMost. -/
import Derived.Test.YtlgomaohfhgkpaaLn
import Derived.Test.YtlgomaohfhgkpaaLs
import Derived.Deep.RegionHeld3
namespace Go.Proofs.Ytlgomaohfhgkpaa
open Go.RowKit Go.Maps Go.Shelf
namespace Lr
/-- What holds between the calls. -/
def MoI (w wr : World) (c : Nat) (M : Int) : Prop := ∃ L : List Ent, (L.length : Int) ≤ M ∧ CL wr c M (From w) L ∧ w.grownBy wr none
/-- .. within a round: the call's box lies at ob. -/
structure MoR (w w1 : World) (c ob : Nat) (M key : Int) (there : Bool) (L : List Ent) : Prop where
  len : (L.length : Int) ≤ M
  cl : CL w1 c M (But (From w) ob) L
  gr : w.grownBy w1 none
  kc : w1.cell? ⟨ob, 1, none⟩ = some (num key)
  top : there = true → ∃ y T, L = y :: T ∧ y.key = key
abbrev opO (o : OpE) : Obj := .cells #[num o.kind, num o.key, num o.to, u64v o.val, .bool o.dirty] 34
theorem MoI.put {w wr wo : World} {c : Nat} {M : Int} (h : MoI w wr c M) (h1 : 1 ≤ M) (h2 : M ≤ 10) {o : OpE} (ho : I64 o.key) (hwo : wo = wr.alloc (opO o)) :
    Calls Try.prog 11 #[ptr c, .agg #[num o.key, u64v o.val, .bool o.dirty]] wo fun r w1 => (∃ v, r = .returned v) ∧ ∃ L, MoR w w1 c wr.heap.size M o.key true L := by
  obtain ⟨L, hl, hC, hg⟩ := h
  have hgo : wr.grownBy wo none := by rw [hwo]; exact World.grownBy_alloc wr _ none
  have hob : wo.heap[wr.heap.size]? = some (opO o) := by rw [hwo]; exact heap_alloc_new wr _
  have hg' := grownBy_trans hg hgo
  have hbl := lt_of_heap hob
  refine (Put_ok (hC.but hgo (Nat.le_refl _)) h1 (fun g hgg => ⟨from_new hg' g hgg, by omega⟩) (x := ⟨o.key, o.val, o.dirty⟩) ho (by omega)).mono ?_
  rintro r w1 ⟨rfl, hC1, hs1⟩
  obtain ⟨d, T, e, _, _, _⟩ := putL_first M ⟨o.key, o.val, o.dirty⟩ L
  refine ⟨⟨_, rfl⟩, _, (putL_len h1 hl).1, hC1, (hs1.wide).back hg' (fun _ k => k), ?_, fun _ => ⟨_, _, e, rfl⟩⟩
  exact cell_at (hs1.obj (fun k => k.2 rfl) hob) rfl
theorem MoI.get {w wr wo : World} {c : Nat} {M : Int} (h : MoI w wr c M) {o : OpE} (ho : I64 o.key) (hwo : wo = wr.alloc (opO o)) :
    Calls Try.prog 14 #[ptr c, num o.key] wo fun r w1 => ∃ v b, r = .returned (.tuple #[u64v v, .bool b]) ∧ ∃ L, MoR w w1 c wr.heap.size M o.key b L := by
  obtain ⟨L, hl, hC, hg⟩ := h
  have hgo : wr.grownBy wo none := by rw [hwo]; exact World.grownBy_alloc wr _ none
  have hob : wo.heap[wr.heap.size]? = some (opO o) := by rw [hwo]; exact heap_alloc_new wr _
  have hg' := grownBy_trans hg hgo
  refine (Get_ok (hC.but hgo (Nat.le_refl _)) ho).mono ?_
  rintro r w1 ⟨rfl, hC1, hs1⟩
  refine ⟨_, _, rfl, _, by have := getL_len L o.key; omega, hC1, (hs1.wide).back hg' (fun _ k => k), cell_at (hs1.obj (fun k => k.2 rfl) hob) rfl, fun hb => ?_⟩
  obtain ⟨x, hx⟩ := Option.isSome_iff_exists.1 hb
  exact ⟨x, _, getL_some hx, look_key hx⟩
theorem entC_at {S : List Ent} {k : Nat} (hk : k < S.length) : (entC S)[k * 3]? = some (num S[k].key) := by
  induction S generalizing k with
  | nil => simp at hk
  | cons x S ih =>
    have e : entC (x :: S) = [num x.key, u64v x.val, .bool x.dirty] ++ entC S := rfl
    cases k with
    | zero => rfl
    | succ k =>
      rw [e, List.getElem?_append_right (by simp; omega)]
      have : (k + 1) * 3 - [num x.key, u64v x.val, Value.bool x.dirty].length = k * 3 := by simp; omega
      rw [this, ih (by simpa using hk)]
      simp
/-- A row of entries as it lies. -/
structure EntA (w : World) (v : Value) (g n cap : Nat) (L : List Ent) : Prop where
  len : L.length = n
  val : v = .slice (some ⟨g, 0, none⟩) n cap
  le : n ≤ cap
  at_ : ∀ k (hk : k < L.length), w.cell? ⟨g, k * 3, none⟩ = some (num L[k].key)
  lt : g < w.heap.size
/-- What is behind All. -/
structure MoA (w w2 : World) (c ob : Nat) (M key : Int) (there : Bool) (L : List Ent) (v : Value) : Prop where
  mor : MoR w w2 c ob M key there L
  row : (L = [] ∧ v = nilS) ∨ ∃ g cap, EntA w2 v g L.length cap L
theorem MoR.all {w w1 : World} {c ob : Nat} {M key : Int} {there : Bool} {L : List Ent} (h : MoR w w1 c ob M key there L) (h2 : M ≤ 10) : Calls Try.prog 22 #[ptr c] w1 fun r w2 => ∃ v, r = .returned v ∧ MoA w w2 c ob M key there L v := by
  refine (All_ok h.cl (by have := h.len; omega)).mono ?_
  rintro r w2 ⟨v, rfl, hown, hg⟩
  refine ⟨v, rfl, ⟨h.len, h.cl.grown hg, grownBy_trans h.gr hg, (cell_of_block (hg.block ob (lt_of_cell h.kc) (by simp))).trans h.kc, h.top⟩, ?_⟩
  rcases hown.2 with ⟨e, h0⟩ | ⟨g, cap, cur, e, _, hgg, hle, _, _, ht⟩
  · exact .inl ⟨List.length_eq_zero_iff.1 h0, e⟩
  · refine .inr ⟨g, cap, rfl, e, hle, fun k hk => ?_, lt_of_heap hgg⟩
    rw [e] at hown
    rw [hown.cellAt (k * 3) (by omega)]
    exact entC_at hk
theorem MoR.len_at {w w1 w' : World} {c ob : Nat} {M key : Int} {there : Bool} {L : List Ent} (h : MoR w w1 c ob M key there L) (hg : w1.grownBy w' none) : Calls Try.prog 21 #[ptr c] w' fun r w2 => r = .returned (num L.length) ∧ w2 = w' := Len_ok (h.cl.grown hg)
theorem MoA.form {w w2 : World} {c ob : Nat} {M key : Int} {there : Bool} {L : List Ent} {v : Value} (h : MoA w w2 c ob M key there L v) :
    ∃ lo cap, v = .slice lo L.length cap ∧ L.length ≤ cap ∧ ∀ k (hk : k < L.length), ∃ g, lo = some ⟨g, 0, none⟩ ∧ g < w2.heap.size ∧ w2.cell? ⟨g, k * 3, none⟩ = some (num L[k].key) := by
  rcases h.row with ⟨rfl, e⟩ | ⟨g, cap, hE⟩
  · exact ⟨none, 0, e, Nat.le_refl _, fun k hk => by simp at hk⟩
  · exact ⟨some ⟨g, 0, none⟩, cap, hE.val, hE.le, fun k hk => ⟨g, rfl, hE.lt, hE.at_ k hk⟩⟩
theorem wpOp_calls {P : Program} {ops : Array Oper} {Q : Exit → Act → World → Prop} {i f : Nat} {o : Oper} {args : Array Value} {K : Act → World → Prop} {a : Act} {w w2 : World} {R : Ending → World → Prop} (hi : ops[i]? = some o) (hw : Region.wanted o (yielded ops a.tmps) = true) (hr : (execOp a.eval o).run P w = .ok (.enter f args) w2) (hc : Calls P f args w2 R) (h : ∀ e w', R e w' → ∃ v, e = .returned v ∧ K (a.put o.dst v) w') : wpOp P ops Q i K a w := by
  unfold wpOp
  simp only [hi, hw, if_true, Oper.wp, hr, Oper.upon]
  refine .inl (hc.mono fun e w' hR => ?_)
  obtain ⟨v, rfl, hK⟩ := h e w' hR
  exact hK
/-- While the keys are counted. -/
structure MoK (w7 wr : World) (mb k : Nat) (L : List Ent) (Ks : List Int) : Prop where
  set : SetI wr mb Ks
  len : Ks.length = k
  old : ∀ z ∈ Ks, ∃ j, ∃ (h : j < L.length), j < k ∧ z = L[j].key
  stp : Stp (fun g => g = mb) w7 wr
theorem MoK.put {w7 wr : World} {mb k : Nat} {L : List Ent} {Ks : List Int} (h : MoK w7 wr mb k L Ks) (hk : k < L.length) (hon : (L.map Ent.key).Nodup) (hi : I64 L[k].key) (hn : L.length ≤ 1000) :
    ∃ w2, (Instr.mapUpdate 57 (.map (some mb)) (num L[k].key) (num 1)).run Try.prog wr = .ok () w2 ∧ ∃ Ks', MoK w7 w2 mb (k + 1) L Ks' := by
  have hl := h.len
  obtain ⟨w2, hrun, hS, hg⟩ := h.set.put hi (by omega)
  have hnew : ¬ L[k].key ∈ Ks := fun hc => by
    obtain ⟨j, hj, hjk, e⟩ := h.old _ hc
    have h1 : (L.map Ent.key)[k]'(by simpa using hk) = (L.map Ent.key)[j]'(by simpa using hj) := by simpa using e
    have a1 := hon.idxOf_getElem k (by simpa using hk)
    have a2 := hon.idxOf_getElem j (by simpa using hj)
    rw [h1, a2] at a1
    omega
  refine ⟨w2, hrun, _, hS, ?_, fun z hz => ?_, h.stp.trans ⟨hg.os, hg.tape, hg.output, hg.size, fun g hgl hn => hg.block g hgl fun e => hn (Option.some.inj e)⟩⟩
  · unfold addK
    rw [if_neg hnew, List.length_cons, hl]
  · rcases (addK_mem Ks _ z).1 hz with rfl | h2
    · exact ⟨k, hk, by omega, rfl⟩
    · obtain ⟨j, hj, hjk, e⟩ := h.old z h2
      exact ⟨j, hj, by omega, e⟩
theorem MoR.back {w w5 w7 wr : World} {c ob mb : Nat} {M key : Int} {there : Bool} {L : List Ent} (h : MoR w w5 c ob M key there L) (hg : w5.grownBy w7 none) (hmb : w5.heap.size ≤ mb) (s : Stp (fun g => g = mb) w7 wr) : MoI w wr c M := by
  have hC : CL w5 c M (But (From w) mb) L := h.cl.less fun g hgl hs => ⟨hs.1, by omega⟩
  refine ⟨L, h.len, ((hC.grown hg).stp s (fun g e hs => hs.2 e)).less fun g _ hs => hs.1, ?_⟩
  have hw := h.gr.size
  refine Stp.back (S := fun g => g = mb) (grownBy_trans h.gr hg) s (fun g e => ?_)
  subst e
  omega
set_option maxRecDepth 8000 in
set_option maxHeartbeats 6400000 in
theorem law_LruMost (most : Int) (hm : I64 most) (ao : Option Addr) (len cap : Nat) (os : List OpE) {w : World} (hx : ArgO w ao len os) (hl : len ≤ 9223372036854775807) :
    Calls Try.prog 6 #[num most, .slice ao len cap] w fun e w' => e = .returned (.bool true) ∧ w.grownBy w' none := by
  have hn := hnot
  have hmm := @run_makeMap Try.prog
  obtain ⟨M, hM⟩ : ∃ M, M = 1 + absI most % 10 := ⟨_, rfl⟩
  have hM1 : 1 ≤ M := by rw [hM]; have := Int.emod_nonneg (absI most) (by decide : (10 : Int) ≠ 0); omega
  have hM2 : M ≤ 10 := by rw [hM]; have := Int.emod_lt_of_pos (absI most) (by decide : (0 : Int) < 10); omega
  have hMe := hide hM.symm
  have H0 : Hid (∀ w, Calls Try.prog 10 #[num most] w fun r w' => r = .returned (num (absI most)) ∧ w' = w) := fun w => abs_ok hm w
  have ha1 := absI_ge most
  have ha2 := absI_le hm
  clear hM
  have HX : Hid (∀ (wr : World) (i : Nat), w.grownBy wr none → i < len → ∃ g off, ao = some ⟨g, off, none⟩ ∧ OpM wr g (off + i * 5) (nthO os i) ∧ OpI (nthO os i)) := fun wr i hg hi => hx.at (.of_grown hg) hi
  have hl' : (len : Int) ≤ 9223372036854775807 := by omega
  clear hx
  go_enter Try.func6, Try.ntmps6
  go_wp2_with fail
  refine (awake_ok w).mono ?_
  rintro r w1 ⟨rfl, hg1⟩
  have Hg1 := hide hg1
  clear hg1
  go_wp2_with fail
  refine (H0.out _).mono ?_
  rintro r w2 ⟨rfl, rfl⟩
  clear H0
  have HNew : Hid (∀ w, Calls Try.prog 9 #[num (1 + absI most % 10)] w (NewPost w M)) := fun w => by rw [hMe.out]; exact New_ok M hM1 w
  generalize absI most = A at *
  go_wp2_with fail
  refine (HNew.out _).mono ?_
  rintro r w3 ⟨c, _, rfl, hg2, hN⟩
  rw [hMe.out]
  generalize A % 10 = q at *
  clear ha1 ha2 HNew
  have hI0 : Hid (MoI w w3 c M) := ⟨[], by simp; omega, hN (From w) (from_new Hg1.out), grownBy_trans Hg1.out hg2⟩
  clear hN hg2 hMe Hg1
  go_wp2_with fail
  go_loopw [8] (fun iv wr => ∃ i : Nat, i ≤ 80 ∧ iv = num i ∧ MoI w wr c M) (fun iv _ => 80 - (intOf iv).toNat)
  case atStart => exact ⟨0, by omega, rfl, hI0.out⟩
  case round =>
    clear hI0
    obtain ⟨i, hi, rfl, hR⟩ := hrel
    by_cases hc : i < len ∧ i < 80
    · obtain ⟨hc1, hc2⟩ := hc
      have q1 : (i : Int) < (len : Int) := by omega
      have q2 : (i : Int) < 80 := by omega
      obtain ⟨g, off, rfl, hop, hoi⟩ := HX.out wr i hR.choose_spec.2.2 hc1
      generalize nthO os i = o at *
      obtain ⟨y0, y1, y2, y3, y4⟩ := hop
      obtain ⟨wo, hwo⟩ : ∃ wo, wo = wr.alloc (opO o) := ⟨_, rfl⟩
      obtain ⟨ob, hob⟩ : ∃ ob, ob = wr.heap.size := ⟨_, rfl⟩
      have HPut := hide (hR.put hM1 hM2 hoi.key hwo)
      have HGet := hide (hR.get hoi.key hwo)
      have HAbs := hide (fun w' : World => abs_ok hoi.kind w')
      have k1 := absI_ge o.kind
      have k2 := absI_le hoi.kind
      have hobx : wo.heap[ob]? = some (opO o) := by rw [hwo, hob]; exact heap_alloc_new wr _
      have z0 : wo.cell? ⟨ob, 0, none⟩ = some (num o.kind) := cell_at hobx rfl
      have z1 : wo.cell? ⟨ob, 1, none⟩ = some (num o.key) := cell_at hobx rfl
      have z3 : wo.cell? ⟨ob, 3, none⟩ = some (u64v o.val) := cell_at hobx rfl
      have z4 : wo.cell? ⟨ob, 4, none⟩ = some (.bool o.dirty) := cell_at hobx rfl
      rw [← hob] at HPut HGet
      have Hwo : Hid (wo = wr.alloc (.cells #[num o.kind, num o.key, num o.to, u64v o.val, .bool o.dirty] 34)) := hwo
      have Hob := hide hob
      clear hwo hob hobx hR hoi
      go_wp2_with (first | rw [← Hwo.out, ← Hob.out])
      have kmod := Int.emod_nonneg (absI o.kind) (by decide : (3 : Int) ≠ 0)
      refine (HAbs.out _).mono ?_
      rintro r w4 ⟨rfl, rfl⟩
      clear HAbs
      generalize absI o.kind = B at *
      by_cases h3 : B % 3 = 0
      · clear HPut
        go_wp2_with fail
        refine HGet.out.mono ?_
        rintro r w6 ⟨v, b, rfl, L, hMR⟩
        have HMR := hide hMR
        clear hMR HGet
        cases b
        · have HAll := hide (HMR.out.all hM2)
          clear HMR
          go_wp2_with fail
          refine HAll.out.mono ?_
          rintro r w5 ⟨v, rfl, hA⟩
          clear HAll
          obtain ⟨lo, cap2, rfl, hcap, hk0⟩ := hA.form
          obtain ⟨n, hnL⟩ : ∃ n, n = L.length := ⟨_, rfl⟩
          have HLen : Hid (∀ w', w5.grownBy w' none → Calls Try.prog 21 #[ptr c] w' fun r w2 => r = .returned (num n) ∧ w2 = w') := by
            rw [hnL]; exact fun w' hg => hA.mor.len_at hg
          have hn2 : (n : Int) ≤ M := by rw [hnL]; exact hA.mor.len
          rw [← hnL] at hcap hA ⊢
          have hgt : ¬ M < (n : Int) := by omega
          have hgd : decide (M < (n : Int)) = false := by simp; omega
          have hoc := hA.mor.kc
          have HnL := hide hnL
          have HA := hide hA
          have Hk := hide hk0
          have HS0 := hide hoc
          clear hA hk0 hnL hoc
          go_wp2_with fail
          refine wp_region_held (S := fun _ => True) follows_mixed ?_
          refine wpAnyH_take (i := 0) (oi := { dst := some 69, op := Op.move (Operand.tmp 11), type := 47, pos := "law.go:184", after := #[], guard := none }) (v := _) rfl (by kernel_rfl) (by kernel_rfl) (by kernel_rfl) (fun _ _ _ h => h) (Or.inl ⟨by rfl, fun w1 _ => by (go_simp; try with_reducible rfl)⟩) trivial ?_
          simp only [Act.put, List.setIfInBounds_toArray, List.set_cons_zero, List.set_cons_succ]
          refine wpAnyH_take (i := 1) (oi := { dst := some 70, op := Op.call { callee := Callee.builtin Builtin.len, args := #[Operand.tmp 69], argTypes := #[47] }, type := 3, pos := "law.go:184", after := #[{ on := 0, ground := Ground.data }], guard := none }) (v := _) rfl (by kernel_rfl) (by kernel_rfl) (by kernel_rfl) (fun _ _ _ h => h) (Or.inl ⟨by rfl, fun w1 _ => by (go_simp; try with_reducible rfl)⟩) trivial ?_
          simp only [Act.put, List.setIfInBounds_toArray, List.set_cons_zero, List.set_cons_succ]
          refine wpAnyH_take (i := 2) (oi := { dst := some 71, op := Op.move (Operand.tmp 0), type := 3, pos := "law.go:184", after := #[], guard := none }) (v := _) rfl (by kernel_rfl) (by kernel_rfl) (by kernel_rfl) (fun _ _ _ h => h) (Or.inl ⟨by rfl, fun w1 _ => by (go_simp; try with_reducible rfl)⟩) trivial ?_
          simp only [Act.put, List.setIfInBounds_toArray, List.set_cons_zero, List.set_cons_succ]
          refine wpAnyH_take (i := 3) (oi := { dst := some 72, op := Op.binOp BinOp.gtr 3 (Operand.tmp 70) (Operand.tmp 71) 3, type := 4, pos := "law.go:184", after := #[{ on := 1, ground := Ground.data }, { on := 2, ground := Ground.data }], guard := none }) (v := _) rfl (by kernel_rfl) (by kernel_rfl) (by kernel_rfl) (fun _ _ _ h => h) (Or.inl ⟨by rfl, fun w1 _ => by (go_simp; try with_reducible rfl)⟩) trivial ?_
          simp only [Act.put, List.setIfInBounds_toArray, List.set_cons_zero, List.set_cons_succ]
          refine wpAnyH_take (i := 4) (oi := { dst := some 73, op := Op.move (Operand.tmp 72), type := 4, pos := "law.go:184", after := #[{ on := 3, ground := Ground.data }], guard := none }) (v := _) rfl (by kernel_rfl) (by kernel_rfl) (by kernel_rfl) (fun _ _ _ h => h) (Or.inl ⟨by rfl, fun w1 _ => by (go_simp; try with_reducible rfl)⟩) trivial ?_
          simp only [Act.put, List.setIfInBounds_toArray, List.set_cons_zero, List.set_cons_succ]
          refine wpAnyH_take (i := 5) (oi := { dst := some 74, op := Op.move (Operand.tmp 11), type := 47, pos := "law.go:184", after := #[{ on := 4, ground := Ground.guard }], guard := some (4, false) }) (v := _) rfl (by kernel_rfl) (by kernel_rfl) (by kernel_rfl) (fun _ _ _ h => h) (Or.inl ⟨by rfl, fun w1 _ => by (go_simp; try with_reducible rfl)⟩) trivial ?_
          simp only [Act.put, List.setIfInBounds_toArray, List.set_cons_zero, List.set_cons_succ]
          refine wpAnyH_take (i := 6) (oi := { dst := some 75, op := Op.call { callee := Callee.builtin Builtin.len, args := #[Operand.tmp 74], argTypes := #[47] }, type := 3, pos := "law.go:184", after := #[{ on := 5, ground := Ground.data }, { on := 4, ground := Ground.guard }], guard := some (4, false) }) (v := _) rfl (by kernel_rfl) (by kernel_rfl) (by kernel_rfl) (fun _ _ _ h => h) (Or.inl ⟨by rfl, fun w1 _ => by (go_simp; try with_reducible rfl)⟩) trivial ?_
          simp only [Act.put, List.setIfInBounds_toArray, List.set_cons_zero, List.set_cons_succ]
          refine wpAnyH_take (i := 7) (oi := { dst := some 76, op := Op.move (Operand.tmp 6), type := 24, pos := "law.go:184", after := #[{ on := 4, ground := Ground.guard }], guard := some (4, false) }) (v := _) rfl (by kernel_rfl) (by kernel_rfl) (by kernel_rfl) (fun _ _ _ h => h) (Or.inl ⟨by rfl, fun w1 _ => by (go_simp; try with_reducible rfl)⟩) trivial ?_
          simp only [Act.put, List.setIfInBounds_toArray, List.set_cons_zero, List.set_cons_succ]
          refine wpAnyH_all (rs := [8]) (by kernel_rfl) (by simp) ?_
          intro j hj
          obtain rfl : j = 8 := by simpa using hj
          refine wpOp_calls (f := 21) (args := #[ptr c]) (o := { dst := some 77, op := Op.call { callee := Callee.value (Operand.func 21), args := #[Operand.tmp 76], argTypes := #[24] }, type := 3, pos := "law.go:184", after := #[{ on := 7, ground := Ground.data }, { on := 4, ground := Ground.chain }, { on := 4, ground := Ground.guard }], guard := some (4, false) }) rfl (by rfl) (by (go_simp; try with_reducible rfl)) (HLen.out w5.drew (grownBy_drew (grownBy_refl _ _))) ?_
          rintro e w6 ⟨rfl, rfl⟩
          refine ⟨_, rfl, trivial, ?_⟩
          simp only [Act.put, List.setIfInBounds_toArray, List.set_cons_zero, List.set_cons_succ]
          refine wpAnyH_take (i := 9) (oi := { dst := some 78, op := Op.binOp BinOp.neq 3 (Operand.tmp 75) (Operand.tmp 77) 3, type := 4, pos := "law.go:184", after := #[{ on := 6, ground := Ground.data }, { on := 8, ground := Ground.data }, { on := 4, ground := Ground.guard }], guard := some (4, false) }) (v := _) rfl (by kernel_rfl) (by kernel_rfl) (by kernel_rfl) (fun _ _ _ h => h) (Or.inl ⟨by rfl, fun w1 _ => by (go_simp; try with_reducible rfl)⟩) trivial ?_
          simp only [Act.put, List.setIfInBounds_toArray, List.set_cons_zero, List.set_cons_succ]
          refine wpAnyH_take (i := 10) (oi := { dst := some 79, op := Op.pick (Operand.tmp 73) (Operand.const (Value.bool true)) (Operand.tmp 78), type := 4, pos := "law.go:184", after := #[{ on := 4, ground := Ground.data }, { on := 9, ground := Ground.data }], guard := none }) (v := _) rfl (by kernel_rfl) (by kernel_rfl) (by kernel_rfl) (fun _ _ _ h => h) (Or.inl ⟨by rfl, fun w1 _ => by (go_simp; try with_reducible rfl)⟩) trivial ?_
          simp only [Act.put, List.setIfInBounds_toArray, List.set_cons_zero, List.set_cons_succ]
          refine wpAnyH_take (i := 11) (oi := { dst := some 80, op := Op.move (Operand.tmp 79), type := 4, pos := "law.go:184", after := #[{ on := 10, ground := Ground.data }, { on := 8, ground := Ground.chain }], guard := none }) (v := _) rfl (by kernel_rfl) (by kernel_rfl) (by kernel_rfl) (fun _ _ _ h => h) (Or.inl ⟨by rfl, fun w1 _ => by (go_simp; try with_reducible rfl)⟩) trivial ?_
          simp only [Act.put, List.setIfInBounds_toArray, List.set_cons_zero, List.set_cons_succ]
          refine wpAnyH_take (i := 12) (oi := { dst := some 81, op := Op.move (Operand.tmp 10), type := 4, pos := "law.go:184", after := #[{ on := 11, ground := Ground.guard }], guard := some (11, false) }) (v := _) rfl (by kernel_rfl) (by kernel_rfl) (by kernel_rfl) (fun _ _ _ h => h) (Or.inl ⟨by rfl, fun w1 _ => by (go_simp; try with_reducible rfl)⟩) trivial ?_
          simp only [Act.put, List.setIfInBounds_toArray, List.set_cons_zero, List.set_cons_succ]
          refine wpAnyH_take (i := 13) (oi := { dst := some 82, op := Op.move (Operand.tmp 81), type := 4, pos := "law.go:184", after := #[{ on := 12, ground := Ground.data }, { on := 11, ground := Ground.chain }, { on := 11, ground := Ground.guard }], guard := some (11, false) }) (v := _) rfl (by kernel_rfl) (by kernel_rfl) (by kernel_rfl) (fun _ _ _ h => h) (Or.inl ⟨by rfl, fun w1 _ => by (go_simp; try with_reducible rfl)⟩) trivial ?_
          simp only [Act.put, List.setIfInBounds_toArray, List.set_cons_zero, List.set_cons_succ]
          refine wpAnyH_take (i := 14) (oi := { dst := some 83, op := Op.move (Operand.tmp 11), type := 47, pos := "law.go:184", after := #[{ on := 13, ground := Ground.guard }], guard := some (13, true) }) (v := _) rfl (by kernel_rfl) (by kernel_rfl) (by kernel_rfl) (fun _ _ _ h => h) (Or.inr ⟨by rfl, rfl⟩) trivial ?_
          simp only [Act.put, List.setIfInBounds_toArray, List.set_cons_zero, List.set_cons_succ]
          refine wpAnyH_take (i := 15) (oi := { dst := some 84, op := Op.call { callee := Callee.builtin Builtin.len, args := #[Operand.tmp 83], argTypes := #[47] }, type := 3, pos := "law.go:184", after := #[{ on := 14, ground := Ground.data }, { on := 13, ground := Ground.guard }], guard := some (13, true) }) (v := _) rfl (by kernel_rfl) (by kernel_rfl) (by kernel_rfl) (fun _ _ _ h => h) (Or.inr ⟨by rfl, rfl⟩) trivial ?_
          simp only [Act.put, List.setIfInBounds_toArray, List.set_cons_zero, List.set_cons_succ]
          refine wpAnyH_take (i := 16) (oi := { dst := some 85, op := Op.binOp BinOp.eql 3 (Operand.tmp 84) (Operand.const (Value.int IntKind.i64 0)) 3, type := 4, pos := "law.go:184", after := #[{ on := 15, ground := Ground.data }, { on := 13, ground := Ground.guard }], guard := some (13, true) }) (v := _) rfl (by kernel_rfl) (by kernel_rfl) (by kernel_rfl) (fun _ _ _ h => h) (Or.inr ⟨by rfl, rfl⟩) trivial ?_
          simp only [Act.put, List.setIfInBounds_toArray, List.set_cons_zero, List.set_cons_succ]
          refine wpAnyH_take (i := 17) (oi := { dst := some 86, op := Op.move (Operand.tmp 85), type := 4, pos := "law.go:184", after := #[{ on := 16, ground := Ground.data }, { on := 13, ground := Ground.chain }, { on := 13, ground := Ground.guard }], guard := some (13, true) }) (v := _) rfl (by kernel_rfl) (by kernel_rfl) (by kernel_rfl) (fun _ _ _ h => h) (Or.inr ⟨by rfl, rfl⟩) trivial ?_
          simp only [Act.put, List.setIfInBounds_toArray, List.set_cons_zero, List.set_cons_succ]
          refine wpAnyH_take (i := 18) (oi := { dst := some 87, op := Op.move (Operand.tmp 11), type := 47, pos := "law.go:184", after := #[{ on := 17, ground := Ground.guard }], guard := some (17, false) }) (v := _) rfl (by kernel_rfl) (by kernel_rfl) (by kernel_rfl) (fun _ _ _ h => h) (Or.inr ⟨by rfl, rfl⟩) trivial ?_
          simp only [Act.put, List.setIfInBounds_toArray, List.set_cons_zero, List.set_cons_succ]
          refine wpAnyH_take (i := 19) (oi := { dst := some 88, op := Op.indexAddr 47 (Operand.tmp 87) (Operand.const (Value.int IntKind.i64 0)), type := 0, pos := "law.go:184", after := #[{ on := 18, ground := Ground.data }, { on := 17, ground := Ground.guard }], guard := some (17, false) }) (v := _) rfl (by kernel_rfl) (by kernel_rfl) (by kernel_rfl) (fun _ _ _ h => h) (Or.inr ⟨by rfl, rfl⟩) trivial ?_
          simp only [Act.put, List.setIfInBounds_toArray, List.set_cons_zero, List.set_cons_succ]
          refine wpAnyH_take (i := 20) (oi := { dst := some 89, op := Op.fieldAddr 37 (Operand.tmp 88) 0, type := 0, pos := "law.go:184", after := #[{ on := 19, ground := Ground.data }, { on := 17, ground := Ground.guard }], guard := some (17, false) }) (v := _) rfl (by kernel_rfl) (by kernel_rfl) (by kernel_rfl) (fun _ _ _ h => h) (Or.inr ⟨by rfl, rfl⟩) trivial ?_
          simp only [Act.put, List.setIfInBounds_toArray, List.set_cons_zero, List.set_cons_succ]
          refine wpAnyH_take (i := 21) (oi := { dst := some 90, op := Op.load 3 (Operand.tmp 89), type := 3, pos := "law.go:184", after := #[{ on := 20, ground := Ground.data }, { on := 17, ground := Ground.guard }], guard := some (17, false) }) (v := _) rfl (by kernel_rfl) (by kernel_rfl) (by kernel_rfl) (fun _ _ _ h => h) (Or.inr ⟨by rfl, rfl⟩) trivial ?_
          simp only [Act.put, List.setIfInBounds_toArray, List.set_cons_zero, List.set_cons_succ]
          refine wpAnyH_take (i := 22) (oi := { dst := some 91, op := Op.fieldAddr 34 (Operand.tmp 9) 1, type := 0, pos := "law.go:184", after := #[{ on := 17, ground := Ground.guard }], guard := some (17, false) }) (v := _) rfl (by kernel_rfl) (by kernel_rfl) (by kernel_rfl) (fun _ _ _ h => h) (Or.inr ⟨by rfl, rfl⟩) trivial ?_
          simp only [Act.put, List.setIfInBounds_toArray, List.set_cons_zero, List.set_cons_succ]
          refine wpAnyH_take (i := 23) (oi := { dst := some 92, op := Op.load 3 (Operand.tmp 91), type := 3, pos := "law.go:184", after := #[{ on := 22, ground := Ground.data }, { on := 17, ground := Ground.guard }], guard := some (17, false) }) (v := _) rfl (by kernel_rfl) (by kernel_rfl) (by kernel_rfl) (fun _ _ _ h => h) (Or.inr ⟨by rfl, rfl⟩) trivial ?_
          simp only [Act.put, List.setIfInBounds_toArray, List.set_cons_zero, List.set_cons_succ]
          refine wpAnyH_take (i := 24) (oi := { dst := some 93, op := Op.binOp BinOp.neq 3 (Operand.tmp 90) (Operand.tmp 92) 3, type := 4, pos := "law.go:184", after := #[{ on := 21, ground := Ground.data }, { on := 23, ground := Ground.data }, { on := 17, ground := Ground.guard }], guard := some (17, false) }) (v := _) rfl (by kernel_rfl) (by kernel_rfl) (by kernel_rfl) (fun _ _ _ h => h) (Or.inr ⟨by rfl, rfl⟩) trivial ?_
          simp only [Act.put, List.setIfInBounds_toArray, List.set_cons_zero, List.set_cons_succ]
          refine wpAnyH_take (i := 25) (oi := { dst := some 94, op := Op.pick (Operand.tmp 86) (Operand.const (Value.bool true)) (Operand.tmp 93), type := 4, pos := "law.go:184", after := #[{ on := 17, ground := Ground.data }, { on := 24, ground := Ground.data }, { on := 13, ground := Ground.guard }], guard := some (13, true) }) (v := _) rfl (by kernel_rfl) (by kernel_rfl) (by kernel_rfl) (fun _ _ _ h => h) (Or.inr ⟨by rfl, rfl⟩) trivial ?_
          simp only [Act.put, List.setIfInBounds_toArray, List.set_cons_zero, List.set_cons_succ]
          refine wpAnyH_take (i := 26) (oi := { dst := some 95, op := Op.pick (Operand.tmp 82) (Operand.tmp 94) (Operand.const (Value.bool false)), type := 4, pos := "law.go:184", after := #[{ on := 13, ground := Ground.data }, { on := 25, ground := Ground.data }, { on := 11, ground := Ground.guard }], guard := some (11, false) }) (v := _) rfl (by kernel_rfl) (by kernel_rfl) (by kernel_rfl) (fun _ _ _ h => h) (Or.inl ⟨by rfl, fun w1 _ => by (go_simp; try with_reducible rfl)⟩) trivial ?_
          simp only [Act.put, List.setIfInBounds_toArray, List.set_cons_zero, List.set_cons_succ]
          refine wpAnyH_take (i := 27) (oi := { dst := some 96, op := Op.pick (Operand.tmp 80) (Operand.const (Value.bool true)) (Operand.tmp 95), type := 4, pos := "law.go:184", after := #[{ on := 11, ground := Ground.data }, { on := 26, ground := Ground.data }], guard := none }) (v := _) rfl (by kernel_rfl) (by kernel_rfl) (by kernel_rfl) (fun _ _ _ h => h) (Or.inl ⟨by rfl, fun w1 _ => by (go_simp; try with_reducible rfl)⟩) trivial ?_
          simp only [Act.put, List.setIfInBounds_toArray, List.set_cons_zero, List.set_cons_succ]
          refine wpAnyH_done (by kernel_rfl) ?_ _

          clear HS0 HLen
          obtain ⟨w7, hw7⟩ : ∃ w7, w7 = (w5.alloc (.map #[] 0)).drew := ⟨_, rfl⟩
          have hg7 : w5.grownBy w7 none := by rw [hw7]; exact grownBy_drew (World.grownBy_alloc _ _ none)
          have hK0 : Hid (MoK w7 w7 w5.heap.size 0 L []) := ⟨by rw [hw7]; exact (set_made w5).of_heap rfl, rfl, (fun z hz => by cases hz), Stp.refl _ _⟩
          have HCell : Hid (∀ wr, Stp (fun g => g = w5.heap.size) w7 wr → ∀ k (hk : k < L.length), ∃ g4, lo = some ⟨g4, 0, none⟩ ∧ wr.cell? ⟨g4, k * 3, none⟩ = some (num L[k].key)) := fun wr hs k hk => by
            obtain ⟨g4, e, hgl, hcl⟩ := Hk.out k hk
            exact ⟨g4, e, hs.cell (by omega) ((cell_of_block (hg7.block g4 hgl (by simp))).trans hcl)⟩
          have HBack : Hid (∀ wr, Stp (fun g => g = w5.heap.size) w7 wr → MoI w wr c M) := fun wr hs => HA.out.mor.back hg7 (Nat.le_refl _) hs
          have Hw7 := hide hw7
          clear hw7 hg7 Hk
          go_wp2_with (first | rw [← Hw7.out])
          go_loopw [13] (fun kv wr => ∃ k : Nat, k ≤ n ∧ kv = num k ∧ ∃ Ks, MoK w7 wr w5.heap.size k L Ks) (fun kv _ => n - (intOf kv).toNat)
          case atStart => exact ⟨0, by omega, rfl, [], hK0.out⟩
          case round =>
            clear hK0 Hw7
            obtain ⟨k, hk, rfl, Ks, hK⟩ := hrel
            by_cases hkn : k < n
            · have hkL : k < L.length := by rw [← HnL.out]; exact hkn
              have p1 : (k : Int) < (n : Int) := by omega
              obtain ⟨g3, he3, hc3⟩ := HCell.out _ hK.stp k hkL
              obtain ⟨w8, hrun, Ks', hK8⟩ := hK.put hkL HA.out.mor.cl.once (HA.out.mor.cl.i64 _ (List.getElem_mem hkL)) (by rw [← HnL.out]; omega)
              have Hrun := hide hrun
              have HK8 := hide hK8
              have He3 := hide he3
              clear hrun hK8 hK he3
              generalize L[k].key = kz at *
              obtain rfl := He3.out
              go_wp2_with fail
              rw [Hrun.out]
              go_wp2_with fail
              go_roundw
              case rel => exact ⟨k + 1, by omega, by go_num, Ks', HK8.out⟩
              case measure => simp [intOf]; omega
            · obtain rfl : k = n := by omega
              have p1 : ¬ (k : Int) < (k : Int) := by omega
              have hlk := fun ty => hK.set.len ty
              rw [hK.len] at hlk
              have HM2 := hide (HBack.out _ hK.stp)
              clear hK
              go_wp2_with fail
              go_roundw
              case rel => exact ⟨i + 1, by omega, by go_num, HM2.out⟩
              case measure => simp [intOf]; omega
        · have HAll := hide (HMR.out.all hM2)
          clear HMR
          go_wp2_with fail
          refine HAll.out.mono ?_
          rintro r w5 ⟨v, rfl, hA⟩
          clear HAll
          obtain ⟨lo, cap2, rfl, hcap, hk0⟩ := hA.form
          obtain ⟨n, hnL⟩ : ∃ n, n = L.length := ⟨_, rfl⟩
          have HLen : Hid (∀ w', w5.grownBy w' none → Calls Try.prog 21 #[ptr c] w' fun r w2 => r = .returned (num n) ∧ w2 = w') := by
            rw [hnL]; exact fun w' hg => hA.mor.len_at hg
          have hn2 : (n : Int) ≤ M := by rw [hnL]; exact hA.mor.len
          rw [← hnL] at hcap hA ⊢
          have hgt : ¬ M < (n : Int) := by omega
          have hgd : decide (M < (n : Int)) = false := by simp; omega
          have hoc := hA.mor.kc
          obtain ⟨y, T, hLy, hyk⟩ := hA.mor.top rfl
          have hn1 : 1 ≤ n := by rw [hnL, hLy]; simp
          have hn0 : (0 : Int) < (n : Int) := by omega
          have hnp : 0 < n := hn1
          have hnz : ((n : Int) == 0) = false := by simp; omega
          obtain ⟨g2, rfl, _, hc0⟩ := hk0 0 (by omega)
          have hsc : w5.cell? ⟨ob, 1, none⟩ = some (num o.key) ∧ w5.cell? ⟨g2, 0, none⟩ = some (num o.key) := ⟨hoc, by
            simp only [hLy, List.getElem_cons_zero, hyk] at hc0
            exact hc0⟩
          have HnL := hide hnL
          have HA := hide hA
          have Hk := hide hk0
          have HS0 := hide hsc
          clear hA hk0 hLy hyk hnL hoc hc0 hsc
          go_wp2_with fail
          go_region_held3 (fun w' => w'.cell? ⟨ob, 1, none⟩ = some (num o.key) ∧ w'.cell? ⟨g2, 0, none⟩ = some (num o.key)) (exact HS0.out) (first | (go_at_call 21; refine (HLen.out _ (by first | exact grownBy_drew (grownBy_refl _ _) | exact grownBy_refl _ _)).mono ?_; rintro r w6 ⟨rfl, rfl⟩))
          clear HS0 HLen
          obtain ⟨w7, hw7⟩ : ∃ w7, w7 = (w5.alloc (.map #[] 0)).drew := ⟨_, rfl⟩
          have hg7 : w5.grownBy w7 none := by rw [hw7]; exact grownBy_drew (World.grownBy_alloc _ _ none)
          have hK0 : Hid (MoK w7 w7 w5.heap.size 0 L []) := ⟨by rw [hw7]; exact (set_made w5).of_heap rfl, rfl, (fun z hz => by cases hz), Stp.refl _ _⟩
          have HCell : Hid (∀ wr, Stp (fun g => g = w5.heap.size) w7 wr → ∀ k (hk : k < L.length), ∃ g4, some (⟨g2, 0, none⟩ : Addr) = some ⟨g4, 0, none⟩ ∧ wr.cell? ⟨g4, k * 3, none⟩ = some (num L[k].key)) := fun wr hs k hk => by
            obtain ⟨g4, e, hgl, hcl⟩ := Hk.out k hk
            exact ⟨g4, e, hs.cell (by omega) ((cell_of_block (hg7.block g4 hgl (by simp))).trans hcl)⟩
          have HBack : Hid (∀ wr, Stp (fun g => g = w5.heap.size) w7 wr → MoI w wr c M) := fun wr hs => HA.out.mor.back hg7 (Nat.le_refl _) hs
          have Hw7 := hide hw7
          clear hw7 hg7 Hk
          go_wp2_with (first | rw [← Hw7.out])
          go_loopw [13] (fun kv wr => ∃ k : Nat, k ≤ n ∧ kv = num k ∧ ∃ Ks, MoK w7 wr w5.heap.size k L Ks) (fun kv _ => n - (intOf kv).toNat)
          case atStart => exact ⟨0, by omega, rfl, [], hK0.out⟩
          case round =>
            clear hK0 Hw7
            obtain ⟨k, hk, rfl, Ks, hK⟩ := hrel
            by_cases hkn : k < n
            · have hkL : k < L.length := by rw [← HnL.out]; exact hkn
              have p1 : (k : Int) < (n : Int) := by omega
              obtain ⟨g3, he3, hc3⟩ := HCell.out _ hK.stp k hkL
              obtain ⟨w8, hrun, Ks', hK8⟩ := hK.put hkL HA.out.mor.cl.once (HA.out.mor.cl.i64 _ (List.getElem_mem hkL)) (by rw [← HnL.out]; omega)
              have Hrun := hide hrun
              have HK8 := hide hK8
              have He3 := hide he3
              clear hrun hK8 hK he3
              generalize L[k].key = kz at *
              obtain rfl : g2 = g3 := congrArg Addr.block (Option.some.inj He3.out)
              go_wp2_with fail
              rw [Hrun.out]
              go_wp2_with fail
              go_roundw
              case rel => exact ⟨k + 1, by omega, by go_num, Ks', HK8.out⟩
              case measure => simp [intOf]; omega
            · obtain rfl : k = n := by omega
              have p1 : ¬ (k : Int) < (k : Int) := by omega
              have hlk := fun ty => hK.set.len ty
              rw [hK.len] at hlk
              have HM2 := hide (HBack.out _ hK.stp)
              clear hK
              go_wp2_with fail
              go_roundw
              case rel => exact ⟨i + 1, by omega, by go_num, HM2.out⟩
              case measure => simp [intOf]; omega
      · clear HGet
        go_wp2_with fail
        refine HPut.out.mono ?_
        rintro r w6 ⟨⟨v, rfl⟩, L, hMR⟩
        have HMR := hide hMR
        clear hMR HPut
        have HAll := hide (HMR.out.all hM2)
        clear HMR
        go_wp2_with fail
        refine HAll.out.mono ?_
        rintro r w5 ⟨v, rfl, hA⟩
        clear HAll
        obtain ⟨lo, cap2, rfl, hcap, hk0⟩ := hA.form
        obtain ⟨n, hnL⟩ : ∃ n, n = L.length := ⟨_, rfl⟩
        have HLen : Hid (∀ w', w5.grownBy w' none → Calls Try.prog 21 #[ptr c] w' fun r w2 => r = .returned (num n) ∧ w2 = w') := by
          rw [hnL]; exact fun w' hg => hA.mor.len_at hg
        have hn2 : (n : Int) ≤ M := by rw [hnL]; exact hA.mor.len
        rw [← hnL] at hcap hA ⊢
        have hgt : ¬ M < (n : Int) := by omega
        have hgd : decide (M < (n : Int)) = false := by simp; omega
        have hoc := hA.mor.kc
        obtain ⟨y, T, hLy, hyk⟩ := hA.mor.top rfl
        have hn1 : 1 ≤ n := by rw [hnL, hLy]; simp
        have hn0 : (0 : Int) < (n : Int) := by omega
        have hnp : 0 < n := hn1
        have hnz : ((n : Int) == 0) = false := by simp; omega
        obtain ⟨g2, rfl, _, hc0⟩ := hk0 0 (by omega)
        have hsc : w5.cell? ⟨ob, 1, none⟩ = some (num o.key) ∧ w5.cell? ⟨g2, 0, none⟩ = some (num o.key) := ⟨hoc, by
          simp only [hLy, List.getElem_cons_zero, hyk] at hc0
          exact hc0⟩
        have HnL := hide hnL
        have HA := hide hA
        have Hk := hide hk0
        have HS0 := hide hsc
        clear hA hk0 hLy hyk hnL hoc hc0 hsc
        go_wp2_with fail
        go_region_held3 (fun w' => w'.cell? ⟨ob, 1, none⟩ = some (num o.key) ∧ w'.cell? ⟨g2, 0, none⟩ = some (num o.key)) (exact HS0.out) (first | (go_at_call 21; refine (HLen.out _ (by first | exact grownBy_drew (grownBy_refl _ _) | exact grownBy_refl _ _)).mono ?_; rintro r w6 ⟨rfl, rfl⟩))
        clear HS0 HLen
        obtain ⟨w7, hw7⟩ : ∃ w7, w7 = (w5.alloc (.map #[] 0)).drew := ⟨_, rfl⟩
        have hg7 : w5.grownBy w7 none := by rw [hw7]; exact grownBy_drew (World.grownBy_alloc _ _ none)
        have hK0 : Hid (MoK w7 w7 w5.heap.size 0 L []) := ⟨by rw [hw7]; exact (set_made w5).of_heap rfl, rfl, (fun z hz => by cases hz), Stp.refl _ _⟩
        have HCell : Hid (∀ wr, Stp (fun g => g = w5.heap.size) w7 wr → ∀ k (hk : k < L.length), ∃ g4, some (⟨g2, 0, none⟩ : Addr) = some ⟨g4, 0, none⟩ ∧ wr.cell? ⟨g4, k * 3, none⟩ = some (num L[k].key)) := fun wr hs k hk => by
          obtain ⟨g4, e, hgl, hcl⟩ := Hk.out k hk
          exact ⟨g4, e, hs.cell (by omega) ((cell_of_block (hg7.block g4 hgl (by simp))).trans hcl)⟩
        have HBack : Hid (∀ wr, Stp (fun g => g = w5.heap.size) w7 wr → MoI w wr c M) := fun wr hs => HA.out.mor.back hg7 (Nat.le_refl _) hs
        have Hw7 := hide hw7
        clear hw7 hg7 Hk
        go_wp2_with (first | rw [← Hw7.out])
        go_loopw [13] (fun kv wr => ∃ k : Nat, k ≤ n ∧ kv = num k ∧ ∃ Ks, MoK w7 wr w5.heap.size k L Ks) (fun kv _ => n - (intOf kv).toNat)
        case atStart => exact ⟨0, by omega, rfl, [], hK0.out⟩
        case round =>
          clear hK0 Hw7
          obtain ⟨k, hk, rfl, Ks, hK⟩ := hrel
          by_cases hkn : k < n
          · have hkL : k < L.length := by rw [← HnL.out]; exact hkn
            have p1 : (k : Int) < (n : Int) := by omega
            obtain ⟨g3, he3, hc3⟩ := HCell.out _ hK.stp k hkL
            obtain ⟨w8, hrun, Ks', hK8⟩ := hK.put hkL HA.out.mor.cl.once (HA.out.mor.cl.i64 _ (List.getElem_mem hkL)) (by rw [← HnL.out]; omega)
            have Hrun := hide hrun
            have HK8 := hide hK8
            have He3 := hide he3
            clear hrun hK8 hK he3
            generalize L[k].key = kz at *
            obtain rfl : g2 = g3 := congrArg Addr.block (Option.some.inj He3.out)
            go_wp2_with fail
            rw [Hrun.out]
            go_wp2_with fail
            go_roundw
            case rel => exact ⟨k + 1, by omega, by go_num, Ks', HK8.out⟩
            case measure => simp [intOf]; omega
          · obtain rfl : k = n := by omega
            have p1 : ¬ (k : Int) < (k : Int) := by omega
            have hlk := fun ty => hK.set.len ty
            rw [hK.len] at hlk
            have HM2 := hide (HBack.out _ hK.stp)
            clear hK
            go_wp2_with fail
            go_roundw
            case rel => exact ⟨i + 1, by omega, by go_num, HM2.out⟩
            case measure => simp [intOf]; omega
    · have hc3 : ¬ (i : Int) < (len : Int) ∨ ((i : Int) < (len : Int) ∧ ¬ (i : Int) < 80) := by omega
      obtain ⟨L, _, _, hgr⟩ := hR
      have HGr := hide hgr
      clear hc hgr
      rcases hc3 with hc1 | ⟨hc1, hc2⟩
      all_goals
        go_wp2_with fail
        go_ret
        exact ⟨rfl, HGr.out⟩
end Lr
end Go.Proofs.Ytlgomaohfhgkpaa
