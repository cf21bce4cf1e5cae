/- The walk of NandCounts. -/
import Derived.Test.YtojamicakkecbabOj
import Derived.Laws.StructEq
namespace Go.Proofs.Ytojamicakkecbab
open Go.ChangeShapes Go.WideShapes Go.ChangeAt Go.RowKit Go.Maps
namespace Nd
theorem pow_true {w : World} {M : Lay} {A : St} {lab : Lab} (h : Arr w M A lab) (b : Bool) (hb : A.on = b) : Calls Try.prog 7 #[ptr M.a 0] w fun e w' => e = .returned (.bool b) ∧ w' = w := by
  rw [← hb]; exact power_ok h
theorem lay_on (A : St) (f : Flt) : (A.lay f).on = A.on := by
  unfold St.lay
  repeat' split
  all_goals rfl
theorem lay_cnt (A : St) (f : Flt) : (A.lay f).cnt = A.cnt := by
  unfold St.lay
  repeat' split
  all_goals rfl
theorem lay_ok' {A : St} (h : FlOk A) {f : Flt} (hf : FMay A f) (ht : f.times ≤ 9223372036854775807) (hb : f.bits.length ≤ 35184372088832) : FlOk (A.lay f) := by
  have up : ∀ (d b : Nat) (g : Blk → Blk), (∀ x, (g x).flips = x.flips) → FlOk (A.upB d b g) := fun d b g hg => h.same rfl (fun i j => upB_fl A d b hg i j)
  unfold St.lay
  split
  · intro d b F hF
    have e : ((A.upB f.die.toNat f.block.toNat (Blk.addF f)).blk d b) = if d = f.die.toNat ∧ b = f.block.toNat then Blk.addF f (A.blk f.die.toNat f.block.toNat) else A.blk d b := rfl
    rw [e] at hF
    split at hF
    · rcases List.mem_append.1 hF with hF | hF
      · exact h _ _ F hF
      · rw [List.mem_singleton] at hF
        subst hF
        exact ⟨hf.t0, ht, by show f.bits.length ≤ _; omega, hf.bits⟩
    · exact h d b F hF
  split
  · exact up _ _ _ (fun _ => rfl)
  split
  · exact up _ _ _ (fun _ => rfl)
  split
  · exact h
  split
  · split
    · exact h
    · exact h
  · exact up _ _ _ (fun _ => rfl)
theorem layAll_facts (fs : List Flt) : ∀ (A : St), FlOk A → Bd A 0 → (∀ f ∈ fs, FMay A f ∧ f.times ≤ 9223372036854775807 ∧ f.bits.length ≤ 35184372088832) → FlOk (layAll A fs) ∧ Bd (layAll A fs) 0 ∧ (layAll A fs).on = A.on ∧ (layAll A fs).cnt = A.cnt := by
  induction fs with
  | nil => intro A h hb _; exact ⟨h, hb, rfl, rfl⟩
  | cons f fs ih =>
    intro A h hb hf
    have h1 := hf f (List.mem_cons_self ..)
    obtain ⟨d1, d2, d3, d4, _⟩ := lay_dims A f
    obtain ⟨r1, r2, r3, r4⟩ := ih (A.lay f) (lay_ok' h h1.1 h1.2.1 h1.2.2) (lay_bd hb h1.1) (fun g hg => by
      have := hf g (List.mem_cons_of_mem _ hg)
      exact ⟨this.1.same d1 d2 d3 d4, this.2⟩)
    exact ⟨r1, r2, r3.trans (lay_on A f), r4.trans (lay_cnt A f)⟩
theorem flok_new (D B P Y : Nat) : FlOk (St.new D B P Y) := fun d b F hF => by cases hF
theorem ev_eq (a b c d e f : Int) (w : World) : (binOp .eql 32 (.agg #[num a, num b, num c, num d, num e, num f]) (.agg #[num a, num b, num c, num d, num e, num f])).run Try.prog w = .ok (.bool true) w := by
  rw [run_eql_struct, run_equalIn_agg (d := 9999) (w := w) _ _ _ (by kernel_rfl) (by kernel_rfl)]
  simp [go_sem]
theorem c12_keep {w w' : World} {ga gb : Nat} {v0 v1 v2 v3 v4 v5 u0 u1 u2 u3 u4 u5 : Value} (h : w.cell? ⟨ga, 0, none⟩ = some v0 ∧ w.cell? ⟨ga, 1, none⟩ = some v1 ∧ w.cell? ⟨ga, 2, none⟩ = some v2 ∧ w.cell? ⟨ga, 3, none⟩ = some v3 ∧ w.cell? ⟨ga, 4, none⟩ = some v4 ∧ w.cell? ⟨ga, 5, none⟩ = some v5 ∧ w.cell? ⟨gb, 0, none⟩ = some u0 ∧ w.cell? ⟨gb, 1, none⟩ = some u1 ∧ w.cell? ⟨gb, 2, none⟩ = some u2 ∧ w.cell? ⟨gb, 3, none⟩ = some u3 ∧ w.cell? ⟨gb, 4, none⟩ = some u4 ∧ w.cell? ⟨gb, 5, none⟩ = some u5) (hg : w.grownBy w' none) : w'.cell? ⟨ga, 0, none⟩ = some v0 ∧ w'.cell? ⟨ga, 1, none⟩ = some v1 ∧ w'.cell? ⟨ga, 2, none⟩ = some v2 ∧ w'.cell? ⟨ga, 3, none⟩ = some v3 ∧ w'.cell? ⟨ga, 4, none⟩ = some v4 ∧ w'.cell? ⟨ga, 5, none⟩ = some v5 ∧ w'.cell? ⟨gb, 0, none⟩ = some u0 ∧ w'.cell? ⟨gb, 1, none⟩ = some u1 ∧ w'.cell? ⟨gb, 2, none⟩ = some u2 ∧ w'.cell? ⟨gb, 3, none⟩ = some u3 ∧ w'.cell? ⟨gb, 4, none⟩ = some u4 ∧ w'.cell? ⟨gb, 5, none⟩ = some u5 := by
  obtain ⟨a0, a1, a2, a3, a4, a5, b0, b1, b2, b3, b4, b5⟩ := h
  have e1 := hg.block ga (lt_of_cell a0) (by simp)
  have e2 := hg.block gb (lt_of_cell b0) (by simp)
  exact ⟨(cell_of_block e1).trans a0, (cell_of_block e1).trans a1, (cell_of_block e1).trans a2, (cell_of_block e1).trans a3, (cell_of_block e1).trans a4, (cell_of_block e1).trans a5, (cell_of_block e2).trans b0, (cell_of_block e2).trans b1, (cell_of_block e2).trans b2, (cell_of_block e2).trans b3, (cell_of_block e2).trans b4, (cell_of_block e2).trans b5⟩
set_option maxHeartbeats 51200000 in
set_option maxRecDepth 4000 in
theorem law_NandCounts (ao : Option Addr) (len cap : Nat) (fs : List Flt) {w : World} (hx : ArgF w ao len fs) (hl : len ≤ 9223372036854775807) (a2 : Option Addr) (len2 cap2 : Nat) (os : List OpE) (hx2 : ArgO w a2 len2 os) (hl2 : len2 ≤ 9223372036854775807) :
    Calls Try.prog 3 #[.slice ao len cap, .slice a2 len2 cap2] w fun e w' => e = .returned (.bool true) ∧ w.grownBy w' none := by
  have hnn := hnot
  have hl2' : (len2 : Int) ≤ 9223372036854775807 := by omega
  obtain ⟨hfl, hM, hfi⟩ := hx
  have hdm : Dims (St.new 2 2 3 2) := dims_new (by decide) (by decide) (by decide) (by decide) (by decide) (by decide) (by decide) (by decide)
  by_cases hv : fs.length ≤ 2000 ∧ ∀ f ∈ fs, FMay (St.new 2 2 3 2) f
  case neg =>
    have HN : Hid (∀ w', w.grownBy w' none → Calls Try.prog 5 #[shapeV 2 2 3 2, .slice ao len cap] w' fun e w'' => e = .returned (.tuple #[.pointer none, num 1]) ∧ w'.grownBy w'' none) := fun w' hg => by
      refine new_no 2 2 3 2 hdm (by decide) (fun w2 hg2 => ?_)
      by_cases h2 : fs.length ≤ 2000
      · have := faultsMay_no (w := w2) (A := St.new 2 2 3 2) hdm (ao := ao) (cap := cap) (hM.more (grownBy_trans hg hg2)) (fun f hf => ⟨(hfi f hf).1, (hfi f hf).2.1⟩) (fun h => hv ⟨h2, h⟩) h2
        rw [hfl] at this
        exact this
      · exact faultsMay_many (w := w2) (A := St.new 2 2 3 2) (by omega)
    clear hv hM hfi hdm hfl
    go_enter Try.func3, Try.ntmps3
    go_wp2_with fail
    refine (awake_ok w).mono ?_
    rintro e w1 ⟨rfl, hg1⟩
    obtain ⟨W, hW⟩ : ∃ W, W = w1.alloc (.cells #[num 2, num 2, num 3, num 2] 26) := ⟨_, rfl⟩
    have hgW : w1.grownBy W none := by rw [hW]; exact World.grownBy_alloc w1 _ none
    have hbx : W.heap[w1.heap.size]? = some (boxO 2 2 3 2) := by rw [hW]; exact heap_alloc_new w1 _
    have Hw : Hid _ := hW
    have s0 : W.cell? ⟨w1.heap.size, 0, none⟩ = some (num 2) := (At.of_row (o := 0) hbx rfl).1
    have s1 : W.cell? ⟨w1.heap.size, 1, none⟩ = some (num 2) := (At.of_row (o := 1) hbx rfl).1
    have s2 : W.cell? ⟨w1.heap.size, 2, none⟩ = some (num 3) := (At.of_row (o := 2) hbx rfl).1
    have s3 : W.cell? ⟨w1.heap.size, 3, none⟩ = some (num 2) := (At.of_row (o := 3) hbx rfl).1
    have hgw := grownBy_trans hg1 hgW
    clear hW hbx
    go_wp2_with (rw [← Hw.out])
    refine (HN.out _ hgw).mono ?_
    rintro e w2 ⟨rfl, hg2⟩
    go_wp2
    go_ret
    exact ⟨rfl, grownBy_trans hgw hg2⟩
  obtain ⟨hv1, hv2⟩ := hv
  obtain ⟨f1, f2, f3, f4⟩ := layAll_facts fs (St.new 2 2 3 2) (flok_new 2 2 3 2) (Bd.new 2 2 3 2) (fun f hf => ⟨hv2 f hf, (hfi f hf).2.2.1.2, (hfi f hf).2.2.2⟩)
  obtain ⟨g1, g2, g3, g4, _⟩ := layAll_dims (St.new 2 2 3 2) fs
  have HN : Hid (∀ w', w.grownBy w' none → Calls Try.prog 5 #[shapeV 2 2 3 2, .slice ao len cap] w' (NewPost w' (layAll (St.new 2 2 3 2) fs))) := fun w' hg => by
    have := new_okF 2 2 3 2 hdm (by decide) (cap := cap) (hM.more hg) hv2 hv1 (fun f hf => (hfi f hf).2.2.2)
    rw [hfl] at this
    exact this
  have hfls : ∀ d b, ((layAll (St.new 2 2 3 2) fs).blk d b).flips.length ≤ 2000 := fun d b => by
    have h1 := layAll_flips (St.new 2 2 3 2) fs d b
    have : ((St.new 2 2 3 2).blk d b).flips.length = 0 := rfl
    omega
  obtain ⟨A0, hA0⟩ : ∃ A0, A0 = layAll (St.new 2 2 3 2) fs := ⟨_, rfl⟩
  rw [← hA0] at f1 f2 f3 f4 g1 g2 g3 g4 HN hfls
  have hcz : ∀ i, A0.cnt i = 0 := fun i => by rw [f4]; rfl
  clear hv1 hv2 hM hfi hdm hfl hA0 f4
  go_enter Try.func3, Try.ntmps3
  go_wp2_with fail
  refine (awake_ok w).mono ?_
  rintro e w1 ⟨rfl, hg1⟩
  obtain ⟨W, hW⟩ : ∃ W, W = w1.alloc (.cells #[num 2, num 2, num 3, num 2] 26) := ⟨_, rfl⟩
  have hgW : w1.grownBy W none := by rw [hW]; exact World.grownBy_alloc w1 _ none
  have hbx : W.heap[w1.heap.size]? = some (boxO 2 2 3 2) := by rw [hW]; exact heap_alloc_new w1 _
  have Hw : Hid _ := hW
  have s0 : W.cell? ⟨w1.heap.size, 0, none⟩ = some (num 2) := (At.of_row (o := 0) hbx rfl).1
  have s1 : W.cell? ⟨w1.heap.size, 1, none⟩ = some (num 2) := (At.of_row (o := 1) hbx rfl).1
  have s2 : W.cell? ⟨w1.heap.size, 2, none⟩ = some (num 3) := (At.of_row (o := 2) hbx rfl).1
  have s3 : W.cell? ⟨w1.heap.size, 3, none⟩ = some (num 2) := (At.of_row (o := 3) hbx rfl).1
  have hgw := grownBy_trans hg1 hgW
  clear hW hbx hg1 hgW
  go_wp2_with (rw [← Hw.out])
  refine (HN.out _ hgw).mono ?_
  rintro e w2 ⟨M, lab, rfl, h2, st2⟩
  have st02 := Stp.from hgw st2
  obtain ⟨W2, hW2⟩ : ∃ W2, W2 = w2.alloc (.cells #[num 0, num 0, num 0, num 0, num 0, num 0] 32) := ⟨_, rfl⟩
  obtain ⟨g9, hg9⟩ : ∃ g, g = w2.heap.size := ⟨_, rfl⟩
  have hC0 : CtOk w W2 M g9 A0 lab 0 := by
    have hgr := World.grownBy_alloc w2 (.cells #[num 0, num 0, num 0, num 0, num 0, num 0] 32) none
    rw [← hW2] at hgr
    refine ⟨h2.more hgr, st02.grown hgr, ?_, by rw [hg9]; exact h2.fresh (Nat.le_refl _), by rw [hg9]; exact st02.size, ⟨g1, g2, g3, g4⟩, f1, hfls, f2.mono (by omega)⟩
    rw [hW2, hg9, heap_alloc_new]
    simp [wantL, hcz]
  have Hw2 : Hid _ := hW2
  have Hg9 : Hid _ := hg9
  clear hW2 hg9 h2 st2 st02 HN f1 f2 f3 g1 g2 g3 g4 hfls hcz s0 s1 s2 s3 hgw
  go_wp2_with (first | rw [← Hw2.out])
  rw [← Hg9.out]
  go_loopw [10] (fun i wr => ∃ (k : Nat) (A : St) (lab' : Lab), k ≤ 80 ∧ i = num k ∧ CtOk w wr M g9 A lab' k) (fun i _ => 80 - (intOf i).toNat)
  case atStart => exact ⟨0, A0, lab, by omega, rfl, hC0⟩
  case round =>
    clear hC0
    obtain ⟨k, A, lab', hk, rfl, hC⟩ := hrel
    have hb0 := hC.bd.cnt 0 (by decide)
    have hb1 := hC.bd.cnt 1 (by decide)
    have hb2 := hC.bd.cnt 2 (by decide)
    have hb4 := hC.bd.cnt 4 (by decide)
    have hb5 := hC.bd.cnt 5 (by decide)
    have w0' : IntKind.i64.wrap (A.cnt 0 + 1) = A.cnt 0 + 1 := by rw [IntKind.wrap_i64]; omega
    have w1' : IntKind.i64.wrap (A.cnt 1 + 1) = A.cnt 1 + 1 := by rw [IntKind.wrap_i64]; omega
    have w2' : IntKind.i64.wrap (A.cnt 2 + 1) = A.cnt 2 + 1 := by rw [IntKind.wrap_i64]; omega
    have w4' : IntKind.i64.wrap (A.cnt 4 + 1) = A.cnt 4 + 1 := by rw [IntKind.wrap_i64]; omega
    have w5' : IntKind.i64.wrap (A.cnt 5 + 1) = A.cnt 5 + 1 := by rw [IntKind.wrap_i64]; omega
    by_cases hlt : k < len2 ∧ k < 80
    · obtain ⟨hl1, hl3⟩ := hlt
      have q1 : (k : Int) < (len2 : Int) := by omega
      have q2 : (k : Int) < 80 := by omega
      have hxr := hx2.more hC.stp.grownBy
      have hol : k < os.length := by rw [hxr.1]; exact hl1
      obtain ⟨g, off, rfl, hc⟩ := hxr.2.1.resolve_left (fun e => by rw [e] at hol; simp at hol)
      obtain ⟨c0, c1, c2, c3, c4⟩ := hc k hol
      obtain ⟨i0, i1, i2, i3, i4, i5, i6⟩ := hxr.2.2 k hol
      clear hc hxr i3 i4 i5 i6
      generalize (nthO os k).kind = kx at c0 i0
      generalize (nthO os k).die = dx at c1 i1
      generalize (nthO os k).block = bx at c2 i2
      generalize (nthO os k).page = px at c3
      generalize (nthO os k).ba = ya at c4
      generalize (nthO os k).bytes.length = yl at c4
      generalize (nthO os k).bc = yc at c4
      have HK : Hid (∀ w, Calls Try.prog 6 #[num kx] w fun e w' => e = .returned (num (absS kx)) ∧ w' = w) := fun w => abs_ok kx i0 w
      have HDx : Hid (∀ w, Calls Try.prog 6 #[num dx] w fun e w' => e = .returned (num (absS dx)) ∧ w' = w) := fun w => abs_ok dx i1 w
      have HBx : Hid (∀ w, Calls Try.prog 6 #[num bx] w fun e w' => e = .returned (num (absS bx)) ∧ w' = w) := fun w => abs_ok bx i2 w
      have l0 := absS_le i0
      have l1 := absS_le i1
      have l2 := absS_le i2
      have l0' : (absS kx : Int) ≤ 9223372036854775807 := by omega
      have l1' : (absS dx : Int) ≤ 9223372036854775807 := by omega
      have l2' : (absS bx : Int) ≤ 9223372036854775807 := by omega
      obtain ⟨d, hd⟩ : ∃ d, d = absS dx % 2 := ⟨_, rfl⟩
      obtain ⟨b, hb⟩ : ∃ b, b = absS bx % 2 := ⟨_, rfl⟩
      have HdE : Hid ((absS dx : Int) % 2 = (d : Int)) := by rw [Hid, hd]; omega
      have HbE : Hid ((absS bx : Int) % 2 = (b : Int)) := by rw [Hid, hb]; omega
      have hD2 : d < A.D := by rw [hC.dims.1]; omega
      have hB2 : b < A.B := by rw [hC.dims.2.1]; omega
      obtain ⟨Wb, hWb⟩ : ∃ Wb, Wb = wr.alloc (.cells #[num kx, num dx, num bx, num px, .slice ya yl yc] 35) := ⟨_, rfl⟩
      have hgb : wr.grownBy Wb none := by rw [hWb]; exact World.grownBy_alloc wr _ none
      have hob : Wb.heap[wr.heap.size]? = some (.cells #[num kx, num dx, num bx, num px, .slice ya yl yc] 35) := by rw [hWb]; exact heap_alloc_new wr _
      have o0 : Wb.cell? ⟨wr.heap.size, 0, none⟩ = some (num kx) := (At.of_row (o := 0) hob rfl).1
      have o1 : Wb.cell? ⟨wr.heap.size, 1, none⟩ = some (num dx) := (At.of_row (o := 1) hob rfl).1
      have o2 : Wb.cell? ⟨wr.heap.size, 2, none⟩ = some (num bx) := (At.of_row (o := 2) hob rfl).1
      have hCb := hC.more hgb
      have Hw : Hid _ := hWb
      clear hd hb l0 l1 l2 i0 i1 i2 hWb hob hgb
      by_cases hon0 : A.on = true
      · have hon : A.on = true := by simpa using hon0
        have HPw : Hid (Calls Try.prog 7 #[ptr M.a 0] Wb fun e w' => e = .returned (.bool true) ∧ w' = Wb) := pow_true hCb.arr true hon
        have hk4 : absS kx % 4 = 0 ∨ absS kx % 4 = 1 ∨ absS kx % 4 = 2 ∨ absS kx % 4 = 3 := by omega
        rcases hk4 with hk4 | hk4 | hk4 | hk4
        · have HkE : Hid ((absS kx : Int) % 4 = 0) := by rw [Hid]; omega
          clear hk4
          have HNx : Hid (Calls Try.prog 8 #[ptr M.a 0, num d, num b] Wb fun e w' => e = .returned (num (A.blk d b).next) ∧ w' = Wb) := next_ok hCb.arr d b hD2 hB2
          go_wp2_with (rw [← Hw.out])
          refine (HDx.out _).mono ?_
          rintro e Wb ⟨rfl, rfl⟩
          go_wp2_with (rw [HdE.out])
          refine (HBx.out _).mono ?_
          rintro e Wb ⟨rfl, rfl⟩
          go_wp2_with (rw [HbE.out])
          refine HPw.out.mono ?_
          rintro e Wb ⟨rfl, rfl⟩
          go_wp2_with fail
          refine (HK.out _).mono ?_
          rintro e Wb ⟨rfl, rfl⟩
          go_wp2_with (rw [HkE.out])
          refine HNx.out.mono ?_
          rintro e Wb ⟨rfl, rfl⟩
          clear HNx HkE
          have hnb := hC.bd.nx d b
          rw [hC.dims.2.2.1] at hnb
          by_cases hn0 : 0 ≤ (A.blk d b).next
          case neg =>
            have z0 : decide (0 ≤ (A.blk d b).next) = false := by simpa using hn0
            go_wp2_with fail
            exact ⟨⟨k + 1, A, lab', by omega, by go_num, hCb.mono (by omega)⟩, by simp [intOf]; omega⟩
          by_cases hn3 : (A.blk d b).next < 3
          case neg =>
            have z0 : decide (0 ≤ (A.blk d b).next) = true := by simpa using hn0
            have z1 : decide ((A.blk d b).next < 3) = false := by simpa using hn3
            go_wp2_with fail
            exact ⟨⟨k + 1, A, lab', by omega, by go_num, hCb.mono (by omega)⟩, by simp [intOf]; omega⟩
          have z0 : decide (0 ≤ (A.blk d b).next) = true := by simpa using hn0
          have z1 : decide ((A.blk d b).next < 3) = true := by simpa using hn3
          obtain ⟨q, hq⟩ := Int.eq_ofNat_of_zero_le hn0
          obtain ⟨Wp, hWp⟩ : ∃ Wp, Wp = Wb.alloc (.cells #[.int .u8 1, .int .u8 2] 5) := ⟨_, rfl⟩
          have hgp : Wb.grownBy Wp none := by rw [hWp]; exact World.grownBy_alloc Wb _ none
          have hrp : Wp.heap[Wb.heap.size]? = some (.cells (valsB [1, 2]).toArray 5) := by rw [hWp]; exact heap_alloc_new Wb _
          have hCp := hCb.more hgp
          have Hwp : Hid _ := hWp
          have srcp : Src Wp Wb.heap.size 0 [1, 2] := Src.of_row hrp (nth_mem_le (by decide))
          have hE := Program_done hCp.arr hCp.bd (by omega) d b q Wb.heap.size 0 2 hon hD2 hB2 (by rw [hC.dims.2.2.1]; omega) hq (bs := [1, 2]) srcp (by rw [hC.dims.2.2.2]; rfl) (by rw [hC.dims.2.2.2]; omega) (hCb.arr.fresh (Nat.le_refl _))
          rw [hC.dims.2.2.2] at hE
          have hcn := cnts_program A d b q [1, 2]
          have hbn := hC.bd.program (d := d) (b := b) (p := q) (bs := [1, 2]) (by rw [hC.dims.2.2.1]; omega)
          generalize A.doProgram d b q [1, 2] = R5 at hE hcn hbn
          obtain ⟨A5, r5⟩ := R5
          simp only at hcn hbn
          have HE : Hid (Calls Try.prog 9 #[ptr M.a 0, num d, num b, num q, .slice (some ⟨Wb.heap.size, 0, none⟩) 2 2] Wp (OpPost Wp M lab' (A5, r5))) := hE
          rw [hq]
          have q3 : (q : Int) < 3 := by omega
          clear hE srcp hrp hWp z0 z1 hn0 hn3 hnb
          go_wp2_with (rw [← Hwp.out])
          refine HE.out.mono ?_
          rintro e w5 ⟨lab5, rfl, h5, st5⟩
          simp only at h5 ⊢
          obtain ⟨row5, ok0, ok43, ok40⟩ := hCp.op h5 st5 hcn (by decide) (hbn.mono (by omega))
          have HO1 : Hid _ := ok0
          have HO2 : Hid _ := ok43
          have HO3 : Hid _ := ok40
          have x1 : At w5 g9 1 (num (A.cnt 1)) := At.of_row row5 rfl
          have x4 : At w5 g9 4 (num (A.cnt 4)) := At.of_row row5 rfl
          have x5 : At w5 g9 5 (num (A.cnt 5)) := At.of_row row5 rfl
          obtain ⟨y1, u1⟩ := x1
          obtain ⟨y4, u4⟩ := x4
          obtain ⟨y5, u5⟩ := x5
          clear ok0 ok43 ok40 row5 h5 st5 HE
          rcases hcn.rs with rfl | rfl | rfl | rfl
          · go_wp2_with fail
            exact ⟨⟨k + 1, A5, lab5, by omega, by go_num, HO1.out (.inl rfl)⟩, by simp [intOf]; omega⟩
          · go_wp2_with fail
            exact ⟨⟨k + 1, A5, lab5, by omega, by go_num, HO3.out rfl⟩, by simp [intOf]; omega⟩
          · go_wp2_with fail
            exact ⟨⟨k + 1, A5, lab5, by omega, by go_num, HO1.out (.inr rfl)⟩, by simp [intOf]; omega⟩
          · go_wp2_with fail
            exact ⟨⟨k + 1, A5, lab5, by omega, by go_num, HO2.out rfl⟩, by simp [intOf]; omega⟩
        · have HkE : Hid ((absS kx : Int) % 4 = 1) := by rw [Hid]; omega
          clear hk4
          have hE := Erase_done hCb.arr hCb.bd (by omega) d b hon hD2 hB2
          have hcn := cnts_erase A d b
          have hbn := hC.bd.erase d b
          generalize A.doErase d b = R5 at hE hcn hbn
          obtain ⟨A5, r5⟩ := R5
          simp only at hcn hbn
          have HE : Hid (Calls Try.prog 10 #[ptr M.a 0, num d, num b] Wb (OpPost Wb M lab' (A5, r5))) := hE
          clear hE
          go_wp2_with (rw [← Hw.out])
          refine (HDx.out _).mono ?_
          rintro e Wb ⟨rfl, rfl⟩
          go_wp2_with (rw [HdE.out])
          refine (HBx.out _).mono ?_
          rintro e Wb ⟨rfl, rfl⟩
          go_wp2_with (rw [HbE.out])
          refine HPw.out.mono ?_
          rintro e Wb ⟨rfl, rfl⟩
          go_wp2_with fail
          refine (HK.out _).mono ?_
          rintro e Wb ⟨rfl, rfl⟩
          go_wp2_with (rw [HkE.out])
          refine HE.out.mono ?_
          rintro e w5 ⟨lab5, rfl, h5, st5⟩
          simp only at h5 ⊢
          obtain ⟨row5, ok0, ok43, ok40⟩ := hCb.op h5 st5 hcn (by decide) (hbn.mono (by omega))
          have HO1 : Hid _ := ok0
          have HO2 : Hid _ := ok43
          have HO3 : Hid _ := ok40
          have x1 : At w5 g9 2 (num (A.cnt 2)) := At.of_row row5 rfl
          have x4 : At w5 g9 4 (num (A.cnt 4)) := At.of_row row5 rfl
          have x5 : At w5 g9 5 (num (A.cnt 5)) := At.of_row row5 rfl
          obtain ⟨y1, u1⟩ := x1
          obtain ⟨y4, u4⟩ := x4
          obtain ⟨y5, u5⟩ := x5
          clear ok0 ok43 ok40 row5 h5 st5 HE
          rcases hcn.rs with rfl | rfl | rfl | rfl
          · go_wp2_with fail
            exact ⟨⟨k + 1, A5, lab5, by omega, by go_num, HO1.out (.inl rfl)⟩, by simp [intOf]; omega⟩
          · go_wp2_with fail
            exact ⟨⟨k + 1, A5, lab5, by omega, by go_num, HO3.out rfl⟩, by simp [intOf]; omega⟩
          · go_wp2_with fail
            exact ⟨⟨k + 1, A5, lab5, by omega, by go_num, HO1.out (.inr rfl)⟩, by simp [intOf]; omega⟩
          · go_wp2_with fail
            exact ⟨⟨k + 1, A5, lab5, by omega, by go_num, HO2.out rfl⟩, by simp [intOf]; omega⟩
        · have HkE : Hid ((absS kx : Int) % 4 = 2) := by rw [Hid]; omega
          clear hk4
          have hE := Read_done hCb.arr hCb.bd (by omega) d b 0 hon hD2 hB2 (by rw [hC.dims.2.2.1]; decide) hC.ok (hC.fl d b)
          have hcn := cnts_read A d b 0
          have hbn := hC.bd.read (d := d) (b := b) (p := 0)
          generalize A.doRead d b 0 = R5 at hE hcn hbn
          obtain ⟨A5, v5, r5⟩ := R5
          simp only at hcn hbn
          have HE : Hid (Calls Try.prog 11 #[ptr M.a 0, num d, num b, num 0] Wb (ReadPost Wb M lab' (A5, v5, r5))) := hE
          clear hE
          go_wp2_with (rw [← Hw.out])
          refine (HDx.out _).mono ?_
          rintro e Wb ⟨rfl, rfl⟩
          go_wp2_with (rw [HdE.out])
          refine (HBx.out _).mono ?_
          rintro e Wb ⟨rfl, rfl⟩
          go_wp2_with (rw [HbE.out])
          refine HPw.out.mono ?_
          rintro e Wb ⟨rfl, rfl⟩
          go_wp2_with fail
          refine (HK.out _).mono ?_
          rintro e Wb ⟨rfl, rfl⟩
          go_wp2_with (rw [HkE.out])
          refine HE.out.mono ?_
          rintro e w5 ⟨lab5, vv, rfl, h5, st5, _⟩
          simp only at h5 ⊢
          obtain ⟨row5, ok0, ok43, ok40⟩ := hCb.op h5 st5 hcn (by decide) (hbn.mono (by omega))
          have HO1 : Hid _ := ok0
          have HO2 : Hid _ := ok43
          have HO3 : Hid _ := ok40
          have x1 : At w5 g9 0 (num (A.cnt 0)) := At.of_row row5 rfl
          have x4 : At w5 g9 4 (num (A.cnt 4)) := At.of_row row5 rfl
          have x5 : At w5 g9 5 (num (A.cnt 5)) := At.of_row row5 rfl
          obtain ⟨y1, u1⟩ := x1
          obtain ⟨y4, u4⟩ := x4
          obtain ⟨y5, u5⟩ := x5
          clear ok0 ok43 ok40 row5 h5 st5 HE
          rcases hcn.rs with rfl | rfl | rfl | rfl
          · go_wp2_with fail
            exact ⟨⟨k + 1, A5, lab5, by omega, by go_num, HO1.out (.inl rfl)⟩, by simp [intOf]; omega⟩
          · go_wp2_with fail
            exact ⟨⟨k + 1, A5, lab5, by omega, by go_num, HO3.out rfl⟩, by simp [intOf]; omega⟩
          · go_wp2_with fail
            exact ⟨⟨k + 1, A5, lab5, by omega, by go_num, HO1.out (.inr rfl)⟩, by simp [intOf]; omega⟩
          · go_wp2_with fail
            exact ⟨⟨k + 1, A5, lab5, by omega, by go_num, HO2.out rfl⟩, by simp [intOf]; omega⟩
        · have HkE : Hid ((absS kx : Int) % 4 = 3) := by rw [Hid]; omega
          clear hk4
          have HE : Hid (Calls Try.prog 12 #[ptr M.a 0] Wb fun e w' => e = .returned (.tuple #[]) ∧ Arr w' M (A.setOn true) lab' ∧ Stp lab' lab' Wb w') := on_ok hCb.arr
          go_wp2_with (rw [← Hw.out])
          refine (HDx.out _).mono ?_
          rintro e Wb ⟨rfl, rfl⟩
          go_wp2_with (rw [HdE.out])
          refine (HBx.out _).mono ?_
          rintro e Wb ⟨rfl, rfl⟩
          go_wp2_with (rw [HbE.out])
          refine HPw.out.mono ?_
          rintro e Wb ⟨rfl, rfl⟩
          go_wp2_with fail
          refine (HK.out _).mono ?_
          rintro e Wb ⟨rfl, rfl⟩
          go_wp2_with (rw [HkE.out])
          refine HE.out.mono ?_
          rintro e w5 ⟨rfl, h5, st5⟩
          have HO : Hid _ := hCb.on h5 st5
          clear HE h5 st5
          go_wp2_with fail
          exact ⟨⟨k + 1, _, lab', by omega, by go_num, HO.out⟩, by simp [intOf]; omega⟩
      · have hon : A.on = false := by simpa using hon0
        have HPw : Hid (Calls Try.prog 7 #[ptr M.a 0] Wb fun e w' => e = .returned (.bool false) ∧ w' = Wb) := pow_true hCb.arr false hon
        have hk4 : absS kx % 4 = 0 ∨ absS kx % 4 = 1 ∨ absS kx % 4 = 2 ∨ absS kx % 4 = 3 := by omega
        rcases hk4 with hk4 | hk4 | hk4 | hk4
        · have HkE : Hid ((absS kx : Int) % 4 = 0) := by rw [Hid]; omega
          clear hk4
          have HNx : Hid (Calls Try.prog 8 #[ptr M.a 0, num d, num b] Wb fun e w' => e = .returned (num (A.blk d b).next) ∧ w' = Wb) := next_ok hCb.arr d b hD2 hB2
          go_wp2_with (rw [← Hw.out])
          refine (HDx.out _).mono ?_
          rintro e Wb ⟨rfl, rfl⟩
          go_wp2_with (rw [HdE.out])
          refine (HBx.out _).mono ?_
          rintro e Wb ⟨rfl, rfl⟩
          go_wp2_with (rw [HbE.out])
          refine HPw.out.mono ?_
          rintro e Wb ⟨rfl, rfl⟩
          go_wp2_with fail
          refine (HK.out _).mono ?_
          rintro e Wb ⟨rfl, rfl⟩
          go_wp2_with (rw [HkE.out])
          refine HNx.out.mono ?_
          rintro e Wb ⟨rfl, rfl⟩
          clear HNx HkE
          have hnb := hC.bd.nx d b
          rw [hC.dims.2.2.1] at hnb
          by_cases hn0 : 0 ≤ (A.blk d b).next
          case neg =>
            have z0 : decide (0 ≤ (A.blk d b).next) = false := by simpa using hn0
            go_wp2_with fail
            exact ⟨⟨k + 1, A, lab', by omega, by go_num, hCb.mono (by omega)⟩, by simp [intOf]; omega⟩
          by_cases hn3 : (A.blk d b).next < 3
          case neg =>
            have z0 : decide (0 ≤ (A.blk d b).next) = true := by simpa using hn0
            have z1 : decide ((A.blk d b).next < 3) = false := by simpa using hn3
            go_wp2_with fail
            exact ⟨⟨k + 1, A, lab', by omega, by go_num, hCb.mono (by omega)⟩, by simp [intOf]; omega⟩
          have z0 : decide (0 ≤ (A.blk d b).next) = true := by simpa using hn0
          have z1 : decide ((A.blk d b).next < 3) = true := by simpa using hn3
          obtain ⟨q, hq⟩ := Int.eq_ofNat_of_zero_le hn0
          obtain ⟨Wp, hWp⟩ : ∃ Wp, Wp = Wb.alloc (.cells #[.int .u8 1, .int .u8 2] 5) := ⟨_, rfl⟩
          have hgp : Wb.grownBy Wp none := by rw [hWp]; exact World.grownBy_alloc Wb _ none
          have hrp : Wp.heap[Wb.heap.size]? = some (.cells (valsB [1, 2]).toArray 5) := by rw [hWp]; exact heap_alloc_new Wb _
          have hCp := hCb.more hgp
          have Hwp : Hid _ := hWp
          have hE := Program_refused hCp.arr d b q (.slice (some ⟨Wb.heap.size, 0, none⟩) 2 2) (by simp [refS, hon])
          rw [show refS A d b q = 40 by simp [refS, hon]] at hE
          have HE : Hid (Calls Try.prog 9 #[ptr M.a 0, num d, num b, num q, .slice (some ⟨Wb.heap.size, 0, none⟩) 2 2] Wp fun e w' => e = .returned (num 40) ∧ w' = Wp) := hE
          rw [hq]
          have q3 : (q : Int) < 3 := by omega
          clear hE hrp hWp z0 z1 hn0 hn3 hnb
          go_wp2_with (rw [← Hwp.out])
          refine HE.out.mono ?_
          rintro e Wp ⟨rfl, rfl⟩
          go_wp2_with fail
          exact ⟨⟨k + 1, A, lab', by omega, by go_num, hCp.mono (by omega)⟩, by simp [intOf]; omega⟩
        · have HkE : Hid ((absS kx : Int) % 4 = 1) := by rw [Hid]; omega
          clear hk4
          have hE := Erase_refused hCb.arr d b (by simp [refS, hon])
          rw [show refS A d b 0 = 40 by simp [refS, hon]] at hE
          have HE : Hid (Calls Try.prog 10 #[ptr M.a 0, num d, num b] Wb fun e w' => e = .returned (num 40) ∧ w' = Wb) := hE
          clear hE
          go_wp2_with (rw [← Hw.out])
          refine (HDx.out _).mono ?_
          rintro e Wb ⟨rfl, rfl⟩
          go_wp2_with (rw [HdE.out])
          refine (HBx.out _).mono ?_
          rintro e Wb ⟨rfl, rfl⟩
          go_wp2_with (rw [HbE.out])
          refine HPw.out.mono ?_
          rintro e Wb ⟨rfl, rfl⟩
          go_wp2_with fail
          refine (HK.out _).mono ?_
          rintro e Wb ⟨rfl, rfl⟩
          go_wp2_with (rw [HkE.out])
          refine HE.out.mono ?_
          rintro e Wb ⟨rfl, rfl⟩
          go_wp2_with fail
          exact ⟨⟨k + 1, A, lab', by omega, by go_num, hCb.mono (by omega)⟩, by simp [intOf]; omega⟩
        · have HkE : Hid ((absS kx : Int) % 4 = 2) := by rw [Hid]; omega
          clear hk4
          have hE := Read_refused hCb.arr d b 0 (by simp [refS, hon])
          rw [show refS A d b 0 = 40 by simp [refS, hon]] at hE
          have HE : Hid (Calls Try.prog 11 #[ptr M.a 0, num d, num b, num 0] Wb fun e w' => e = .returned (.tuple #[.slice none 0 0, num 40]) ∧ w' = Wb) := hE
          clear hE
          go_wp2_with (rw [← Hw.out])
          refine (HDx.out _).mono ?_
          rintro e Wb ⟨rfl, rfl⟩
          go_wp2_with (rw [HdE.out])
          refine (HBx.out _).mono ?_
          rintro e Wb ⟨rfl, rfl⟩
          go_wp2_with (rw [HbE.out])
          refine HPw.out.mono ?_
          rintro e Wb ⟨rfl, rfl⟩
          go_wp2_with fail
          refine (HK.out _).mono ?_
          rintro e Wb ⟨rfl, rfl⟩
          go_wp2_with (rw [HkE.out])
          refine HE.out.mono ?_
          rintro e Wb ⟨rfl, rfl⟩
          go_wp2_with fail
          exact ⟨⟨k + 1, A, lab', by omega, by go_num, hCb.mono (by omega)⟩, by simp [intOf]; omega⟩
        · have HkE : Hid ((absS kx : Int) % 4 = 3) := by rw [Hid]; omega
          clear hk4
          have HE : Hid (Calls Try.prog 12 #[ptr M.a 0] Wb fun e w' => e = .returned (.tuple #[]) ∧ Arr w' M (A.setOn true) lab' ∧ Stp lab' lab' Wb w') := on_ok hCb.arr
          go_wp2_with (rw [← Hw.out])
          refine (HDx.out _).mono ?_
          rintro e Wb ⟨rfl, rfl⟩
          go_wp2_with (rw [HdE.out])
          refine (HBx.out _).mono ?_
          rintro e Wb ⟨rfl, rfl⟩
          go_wp2_with (rw [HbE.out])
          refine HPw.out.mono ?_
          rintro e Wb ⟨rfl, rfl⟩
          go_wp2_with fail
          refine (HK.out _).mono ?_
          rintro e Wb ⟨rfl, rfl⟩
          go_wp2_with (rw [HkE.out])
          refine HE.out.mono ?_
          rintro e w5 ⟨rfl, h5, st5⟩
          have HO : Hid _ := hCb.on h5 st5
          clear HE h5 st5
          go_wp2_with fail
          exact ⟨⟨k + 1, _, lab', by omega, by go_num, HO.out⟩, by simp [intOf]; omega⟩
    · by_cases h1 : k < len2
      · have q1 : (k : Int) < (len2 : Int) := by omega
        have q2 : ¬ (k : Int) < 80 := by omega
        have HE : Hid (Calls Try.prog 13 #[ptr M.a 0] wr fun e w' => e = .returned (evV A) ∧ wr.grownBy w' none) := events_ok hC.arr
        go_wp2_with fail
        refine HE.out.mono ?_
        rintro e w9 ⟨rfl, hg9'⟩
        unfold evV
        have hC9 := hC.more hg9'
        obtain ⟨Wg, hWg⟩ : ∃ Wg, Wg = w9.alloc (.cells #[num (A.cnt 0), num (A.cnt 1), num (A.cnt 2), num (A.cnt 3), num (A.cnt 4), num (A.cnt 5)] 32) := ⟨_, rfl⟩
        have hgg : w9.grownBy Wg none := by rw [hWg]; exact World.grownBy_alloc w9 _ none
        have hrg : Wg.heap[w9.heap.size]? = some (.cells (wantL A (A.cnt 3)).toArray 32) := by rw [hWg]; exact heap_alloc_new w9 _
        have hCg := hC9.more hgg
        have hne : w9.heap.size ≠ g9 := by have := hC9.lt; omega
        have Hwg : Hid _ := hWg
        have z3 : Wg.cell? ⟨w9.heap.size, 3, none⟩ = some (num (A.cnt 3)) := (At.of_row (o := 3) hrg rfl).1
        obtain ⟨z9, zf⟩ : At Wg g9 3 (num 0) := At.of_row (o := 3) hCg.row rfl
        obtain ⟨Wh, hWh⟩ : ∃ Wh, Wh = Wg.setCell ⟨g9, 3, none⟩ (num (A.cnt 3)) := ⟨_, rfl⟩
        have hrow1 : Wh.heap[g9]? = some (.cells (wantL A (A.cnt 3)).toArray 32) := by rw [hWh, setCell_row hCg.row]; rfl
        have hrow2 : Wh.heap[w9.heap.size]? = some (.cells (wantL A (A.cnt 3)).toArray 32) := by rw [hWh, setCell_else hne]; exact hrg
        have hAh : Arr Wh M A lab' := by rw [hWh]; exact hCg.arr.set (.inl hCg.lg) _
        have hSh : Stp (fun _ => none) lab' w Wh := by rw [hWh]; exact hCg.stp.set (.inr hCg.ge) _
        have Hwh : Hid _ := hWh
        have HS0 : Hid (Wh.drew.cell? ⟨w9.heap.size, 0, none⟩ = some (num (A.cnt 0)) ∧ Wh.drew.cell? ⟨w9.heap.size, 1, none⟩ = some (num (A.cnt 1)) ∧ Wh.drew.cell? ⟨w9.heap.size, 2, none⟩ = some (num (A.cnt 2)) ∧ Wh.drew.cell? ⟨w9.heap.size, 3, none⟩ = some (num (A.cnt 3)) ∧ Wh.drew.cell? ⟨w9.heap.size, 4, none⟩ = some (num (A.cnt 4)) ∧ Wh.drew.cell? ⟨w9.heap.size, 5, none⟩ = some (num (A.cnt 5)) ∧ Wh.drew.cell? ⟨g9, 0, none⟩ = some (num (A.cnt 0)) ∧ Wh.drew.cell? ⟨g9, 1, none⟩ = some (num (A.cnt 1)) ∧ Wh.drew.cell? ⟨g9, 2, none⟩ = some (num (A.cnt 2)) ∧ Wh.drew.cell? ⟨g9, 3, none⟩ = some (num (A.cnt 3)) ∧ Wh.drew.cell? ⟨g9, 4, none⟩ = some (num (A.cnt 4)) ∧ Wh.drew.cell? ⟨g9, 5, none⟩ = some (num (A.cnt 5))) := ⟨(At.of_row (o := 0) hrow2 rfl).1, (At.of_row (o := 1) hrow2 rfl).1, (At.of_row (o := 2) hrow2 rfl).1, (At.of_row (o := 3) hrow2 rfl).1, (At.of_row (o := 4) hrow2 rfl).1, (At.of_row (o := 5) hrow2 rfl).1, (At.of_row (o := 0) hrow1 rfl).1, (At.of_row (o := 1) hrow1 rfl).1, (At.of_row (o := 2) hrow1 rfl).1, (At.of_row (o := 3) hrow1 rfl).1, (At.of_row (o := 4) hrow1 rfl).1, (At.of_row (o := 5) hrow1 rfl).1⟩
        have HOp : Hid (Calls Try.prog 14 #[ptr M.a 0] Wh.drew fun e w'' => e = .returned (num (A.cnt 0 + A.cnt 1 + A.cnt 2)) ∧ Wh.drew.grownBy w'' none) := ops_ok hAh.drew hC.bd (by omega)
        have HEnd : Hid (∀ w6 : World, Wh.drew.grownBy w6 none → w.grownBy w6 none) := fun w6 hg => grownBy_trans hSh.grownBy ⟨hg.os, hg.tape, hg.output, hg.size, hg.block⟩
        have m1 : IntKind.i64.wrap (A.cnt 0 + A.cnt 1) = A.cnt 0 + A.cnt 1 := by rw [IntKind.wrap_i64]; omega
        have m2 : IntKind.i64.wrap (A.cnt 0 + A.cnt 1 + A.cnt 2) = A.cnt 0 + A.cnt 1 + A.cnt 2 := by rw [IntKind.wrap_i64]; omega
        have hee := ev_eq (A.cnt 0) (A.cnt 1) (A.cnt 2) (A.cnt 3) (A.cnt 4) (A.cnt 5)
        clear hWg hWh hrg hCg hC9 hrow1 hrow2 hAh HE hg9' hgg
        go_wp2_with (first | rw [← Hwg.out] | rw [← Hwh.out])
        go_region_held3 (fun w' => w'.cell? ⟨w9.heap.size, 0, none⟩ = some (num (A.cnt 0)) ∧ w'.cell? ⟨w9.heap.size, 1, none⟩ = some (num (A.cnt 1)) ∧ w'.cell? ⟨w9.heap.size, 2, none⟩ = some (num (A.cnt 2)) ∧ w'.cell? ⟨w9.heap.size, 3, none⟩ = some (num (A.cnt 3)) ∧ w'.cell? ⟨w9.heap.size, 4, none⟩ = some (num (A.cnt 4)) ∧ w'.cell? ⟨w9.heap.size, 5, none⟩ = some (num (A.cnt 5)) ∧ w'.cell? ⟨g9, 0, none⟩ = some (num (A.cnt 0)) ∧ w'.cell? ⟨g9, 1, none⟩ = some (num (A.cnt 1)) ∧ w'.cell? ⟨g9, 2, none⟩ = some (num (A.cnt 2)) ∧ w'.cell? ⟨g9, 3, none⟩ = some (num (A.cnt 3)) ∧ w'.cell? ⟨g9, 4, none⟩ = some (num (A.cnt 4)) ∧ w'.cell? ⟨g9, 5, none⟩ = some (num (A.cnt 5))) (first | assumption | exact HS0.out | exact c12_keep ‹_› ‹_›)
          (first | (go_at_call 14; refine HOp.out.mono ?_; rintro e w6 ⟨rfl, hg6⟩))
        all_goals
          have HG : Hid (w.grownBy w6 none) := HEnd.out w6 ‹Wh.drew.grownBy w6 none›
          go_wp2
          go_ret
          exact ⟨ret_bool (by simp), HG.out⟩
      · have q1 : ¬ (k : Int) < (len2 : Int) := by omega
        have HE : Hid (Calls Try.prog 13 #[ptr M.a 0] wr fun e w' => e = .returned (evV A) ∧ wr.grownBy w' none) := events_ok hC.arr
        go_wp2_with fail
        refine HE.out.mono ?_
        rintro e w9 ⟨rfl, hg9'⟩
        unfold evV
        have hC9 := hC.more hg9'
        obtain ⟨Wg, hWg⟩ : ∃ Wg, Wg = w9.alloc (.cells #[num (A.cnt 0), num (A.cnt 1), num (A.cnt 2), num (A.cnt 3), num (A.cnt 4), num (A.cnt 5)] 32) := ⟨_, rfl⟩
        have hgg : w9.grownBy Wg none := by rw [hWg]; exact World.grownBy_alloc w9 _ none
        have hrg : Wg.heap[w9.heap.size]? = some (.cells (wantL A (A.cnt 3)).toArray 32) := by rw [hWg]; exact heap_alloc_new w9 _
        have hCg := hC9.more hgg
        have hne : w9.heap.size ≠ g9 := by have := hC9.lt; omega
        have Hwg : Hid _ := hWg
        have z3 : Wg.cell? ⟨w9.heap.size, 3, none⟩ = some (num (A.cnt 3)) := (At.of_row (o := 3) hrg rfl).1
        obtain ⟨z9, zf⟩ : At Wg g9 3 (num 0) := At.of_row (o := 3) hCg.row rfl
        obtain ⟨Wh, hWh⟩ : ∃ Wh, Wh = Wg.setCell ⟨g9, 3, none⟩ (num (A.cnt 3)) := ⟨_, rfl⟩
        have hrow1 : Wh.heap[g9]? = some (.cells (wantL A (A.cnt 3)).toArray 32) := by rw [hWh, setCell_row hCg.row]; rfl
        have hrow2 : Wh.heap[w9.heap.size]? = some (.cells (wantL A (A.cnt 3)).toArray 32) := by rw [hWh, setCell_else hne]; exact hrg
        have hAh : Arr Wh M A lab' := by rw [hWh]; exact hCg.arr.set (.inl hCg.lg) _
        have hSh : Stp (fun _ => none) lab' w Wh := by rw [hWh]; exact hCg.stp.set (.inr hCg.ge) _
        have Hwh : Hid _ := hWh
        have HS0 : Hid (Wh.drew.cell? ⟨w9.heap.size, 0, none⟩ = some (num (A.cnt 0)) ∧ Wh.drew.cell? ⟨w9.heap.size, 1, none⟩ = some (num (A.cnt 1)) ∧ Wh.drew.cell? ⟨w9.heap.size, 2, none⟩ = some (num (A.cnt 2)) ∧ Wh.drew.cell? ⟨w9.heap.size, 3, none⟩ = some (num (A.cnt 3)) ∧ Wh.drew.cell? ⟨w9.heap.size, 4, none⟩ = some (num (A.cnt 4)) ∧ Wh.drew.cell? ⟨w9.heap.size, 5, none⟩ = some (num (A.cnt 5)) ∧ Wh.drew.cell? ⟨g9, 0, none⟩ = some (num (A.cnt 0)) ∧ Wh.drew.cell? ⟨g9, 1, none⟩ = some (num (A.cnt 1)) ∧ Wh.drew.cell? ⟨g9, 2, none⟩ = some (num (A.cnt 2)) ∧ Wh.drew.cell? ⟨g9, 3, none⟩ = some (num (A.cnt 3)) ∧ Wh.drew.cell? ⟨g9, 4, none⟩ = some (num (A.cnt 4)) ∧ Wh.drew.cell? ⟨g9, 5, none⟩ = some (num (A.cnt 5))) := ⟨(At.of_row (o := 0) hrow2 rfl).1, (At.of_row (o := 1) hrow2 rfl).1, (At.of_row (o := 2) hrow2 rfl).1, (At.of_row (o := 3) hrow2 rfl).1, (At.of_row (o := 4) hrow2 rfl).1, (At.of_row (o := 5) hrow2 rfl).1, (At.of_row (o := 0) hrow1 rfl).1, (At.of_row (o := 1) hrow1 rfl).1, (At.of_row (o := 2) hrow1 rfl).1, (At.of_row (o := 3) hrow1 rfl).1, (At.of_row (o := 4) hrow1 rfl).1, (At.of_row (o := 5) hrow1 rfl).1⟩
        have HOp : Hid (Calls Try.prog 14 #[ptr M.a 0] Wh.drew fun e w'' => e = .returned (num (A.cnt 0 + A.cnt 1 + A.cnt 2)) ∧ Wh.drew.grownBy w'' none) := ops_ok hAh.drew hC.bd (by omega)
        have HEnd : Hid (∀ w6 : World, Wh.drew.grownBy w6 none → w.grownBy w6 none) := fun w6 hg => grownBy_trans hSh.grownBy ⟨hg.os, hg.tape, hg.output, hg.size, hg.block⟩
        have m1 : IntKind.i64.wrap (A.cnt 0 + A.cnt 1) = A.cnt 0 + A.cnt 1 := by rw [IntKind.wrap_i64]; omega
        have m2 : IntKind.i64.wrap (A.cnt 0 + A.cnt 1 + A.cnt 2) = A.cnt 0 + A.cnt 1 + A.cnt 2 := by rw [IntKind.wrap_i64]; omega
        have hee := ev_eq (A.cnt 0) (A.cnt 1) (A.cnt 2) (A.cnt 3) (A.cnt 4) (A.cnt 5)
        clear hWg hWh hrg hCg hC9 hrow1 hrow2 hAh HE hg9' hgg
        go_wp2_with (first | rw [← Hwg.out] | rw [← Hwh.out])
        go_region_held3 (fun w' => w'.cell? ⟨w9.heap.size, 0, none⟩ = some (num (A.cnt 0)) ∧ w'.cell? ⟨w9.heap.size, 1, none⟩ = some (num (A.cnt 1)) ∧ w'.cell? ⟨w9.heap.size, 2, none⟩ = some (num (A.cnt 2)) ∧ w'.cell? ⟨w9.heap.size, 3, none⟩ = some (num (A.cnt 3)) ∧ w'.cell? ⟨w9.heap.size, 4, none⟩ = some (num (A.cnt 4)) ∧ w'.cell? ⟨w9.heap.size, 5, none⟩ = some (num (A.cnt 5)) ∧ w'.cell? ⟨g9, 0, none⟩ = some (num (A.cnt 0)) ∧ w'.cell? ⟨g9, 1, none⟩ = some (num (A.cnt 1)) ∧ w'.cell? ⟨g9, 2, none⟩ = some (num (A.cnt 2)) ∧ w'.cell? ⟨g9, 3, none⟩ = some (num (A.cnt 3)) ∧ w'.cell? ⟨g9, 4, none⟩ = some (num (A.cnt 4)) ∧ w'.cell? ⟨g9, 5, none⟩ = some (num (A.cnt 5))) (first | assumption | exact HS0.out | exact c12_keep ‹_› ‹_›)
          (first | (go_at_call 14; refine HOp.out.mono ?_; rintro e w6 ⟨rfl, hg6⟩))
        all_goals
          have HG : Hid (w.grownBy w6 none) := HEnd.out w6 ‹Wh.drew.grownBy w6 none›
          go_wp2
          go_ret
          exact ⟨ret_bool (by simp), HG.out⟩
end Nd
end Go.Proofs.Ytojamicakkecbab
