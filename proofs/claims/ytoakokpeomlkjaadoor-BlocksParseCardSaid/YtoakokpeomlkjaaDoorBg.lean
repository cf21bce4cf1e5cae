/- Layer 7 (blocks): Take. -/
import Derived.Test.YtoakokpeomlkjaaDoorBq
namespace Go.Proofs.YtoakokpeomlkjaaDoor
open Go.RowKit Go.Maps Go.Shelf
namespace Bk
attribute [local go_sem] Oper.semAt_some
theorem poolM_ownFrom {β : Type} (B : Nat) (P : Lay) (f : Pool) : OwnFrom (β := β) B (fun _ W => PoolM W P f) := fun _ _ _ _ hs hg hr =>
  hs.stp (stp_of_row hg) (not_row hs.box hr) (hs.od.not_row hr) fun i hi => (hs.ob i hi).not_row hr
theorem nil_no (g n : Nat) (w : World) : (binOp .eql 54 (sl0 g n) nilS).run Tryd.prog w = .ok (.bool false) w := by kernel_rfl
theorem nil_yes (w : World) : (binOp .eql 54 nilS nilS).run Tryd.prog w = .ok (.bool true) w := by kernel_rfl
/-- Which of those that came is the one to take. -/
def takeStep {m : Nat} (r : Nat → Blk) (a : Option (Fin m)) (x : Fin m) : Option (Fin m) :=
  if (r x).st = 1 then (match a with
    | none => some x
    | some y => if (r x).er < (r y).er then some x else some y) else a
def pick (r : Nat → Blk) (m : Nat) : Option (Fin m) := (List.finRange m).foldl (takeStep r) none
def bestV {m : Nat} (g : Nat) : Option (Fin m) → Value
  | none => .pointer none
  | some x => ptr g (x.1 * 2)
def numV {m : Nat} : Option (Fin m) → Value
  | none => num 0
  | some x => num (x.1 : Int)
def TakePost (w : World) (P : Lay) (f : Pool) (i : Nat) (e : Ending) (w' : World) : Prop :=
  (pick (f i) P.m = none ∧ e = .returned (.tuple #[num 0, num 70]) ∧ PoolM w' P f ∨ ∃ x, pick (f i) P.m = some x ∧ e = .returned (.tuple #[num (x.1 : Int), num 0]) ∧ PoolM w' P (upd f i x.1 ⟨2, (f i x.1).er⟩)) ∧ Stp P.K w w'
theorem PoolM.low {w : World} {P : Lay} {f : Pool} (h : PoolM w P f) : P.p < w.heap.size ∧ P.d < w.heap.size ∧ ∀ i, i < P.n → P.b i < w.heap.size := ⟨lt_of_heap h.box, h.od.lt, fun i hi => (h.ob i hi).lt⟩
/-- What lies low stays. -/
theorem PoolM.keep {w W W' : World} {P : Lay} {f : Pool} (h0 : PoolM w P f) {g : Pool} (h : PoolM W P g) (s : Stp (fun x => w.heap.size ≤ x) W W') : PoolM W' P g := by
  obtain ⟨l1, l2, l3⟩ := h0.low
  exact h.stp s (by omega) (by omega) fun i hi => by have := l3 i hi; omega
theorem ko_drewN {n : Nat} {W W' : World} (h : KeepsOthers (W.drewN n) W') : KeepsOthers W W' := ⟨h.size, h.same⟩
theorem ko_refl_drewN (n : Nat) (W : World) : KeepsOthers W (W.drewN n) := ko_drewN (KeepsOthers.refl _)
/-- What holds while a die is gone through: the best so far. -/
structure TakeI (w : World) (P : Lay) (f : Pool) (i : Nat) (acc : Option (Fin P.m)) (W : World) : Prop where
  best : Boxed W w.heap.size 56 (bestV (P.b i) acc)
  num : Boxed W (w.heap.size + 1) 3 (numV acc)
  pool : PoolM W P f
  low : Below w.heap.size w W
theorem takeI_ownFrom {w : World} {P : Lay} {f : Pool} {i : Nat} {β : Type} (acc : β → Option (Fin P.m)) {B : Nat} (hB : w.heap.size ≤ B) : OwnFrom B (fun s W => TakeI w P f i (acc s) W) := fun s X Y row hs hg hr =>
  ⟨boxed_own _ _ (fun s => bestV (P.b i) (acc s)) s X Y row hs.best hg fun r e => (hr r e).2, boxed_own _ _ (fun s => numV (acc s)) s X Y row hs.num hg fun r e => (hr r e).2, poolM_ownFrom (β := β) B P f s X Y row hs.pool hg hr, ownFrom_below (β := β) (Nat.le_refl _) hB s X Y row hs.low hg hr⟩
theorem TakeI.drewN {w W : World} {P : Lay} {f : Pool} {i : Nat} {acc : Option (Fin P.m)} (h : TakeI w P f i acc W) (n : Nat) : TakeI w P f i acc (W.drewN n) := ⟨h.best, h.num, h.pool.stp (K := No) ((Stp.refl _ _).drewN n) (fun k => k) (fun k => k) fun _ _ k => k, ⟨h.low.os, h.low.tape, h.low.output, h.low.size, h.low.block⟩⟩
theorem TakeI.put {w W : World} {P : Lay} {f : Pool} {i : Nat} {acc : Option (Fin P.m)} (h0 : PoolM w P f) (h : TakeI w P f i acc W) (x : Fin P.m) :
    TakeI w P f i (some x) ((W.setCell ⟨w.heap.size, 0, none⟩ (ptr (P.b i) (x.1 * 2))).setCell ⟨w.heap.size + 1, 0, none⟩ (Bk.num (x.1 : Int))) :=
  ⟨(h.best.set _).other (by omega) _, (h.num.other (by omega) _).set _, h0.keep h.pool (((Stp.refl _ _).set (.inl (Nat.le_refl _)) _).set (.inl (by omega)) _), (h.low.setCell (p := ⟨w.heap.size, 0, none⟩) (Nat.le_refl _) _).setCell (p := ⟨w.heap.size + 1, 0, none⟩) (by show w.heap.size ≤ w.heap.size + 1; omega) _⟩
set_option maxRecDepth 100000 in
set_option maxHeartbeats 2000000 in
theorem Take_in {w : World} {P : Lay} {f : Pool} (h : PoolM w P f) {i : Nat} (hi : i < P.n) : Calls Tryd.prog 10 #[ptr P.p 0, num i] w (TakePost w P f i) := by
  refine (callsIn_wide (n := 3)).1 ?_
  have h1 : 1 ≤ 3 := by omega
  have hM : (P.m : Int) ≤ 64 := by have := h.m64; omega
  have HDie := hide (callsIn_wide (n := 2).2 (die_in h hi))
  have hno := fun w => nil_no (P.b i) P.m w
  have hb0 := (h.ob i hi).lt
  have HP := hide h
  obtain ⟨V, hV⟩ : ∃ V, V = (w.alloc (.cells #[.pointer none] 56)).alloc (.cells #[num 0] 3) := ⟨_, rfl⟩
  have hg : w.grownBy V none := by rw [hV]; exact grownBy_alloc' (World.grownBy_alloc w _ none) _
  have hsz : V.heap.size = w.heap.size + 2 := by rw [hV]; simp
  have bB : Boxed V w.heap.size 56 (.pointer none) := by rw [hV]; exact (Boxed.new w _ _).alloc _
  have bX : Boxed V (w.heap.size + 1) 3 (num 0) := by rw [hV]; have := Boxed.new (w.alloc (.cells #[.pointer none] 56)) 3 (num 0); rw [World.size_alloc] at this; exact this
  have Hv := hide hV
  clear h hV
  refine callsIn_of_wp_marks Tryd.func10 rfl trivial ?_ rfl
  simp only [Tryd.ntmps10, List.size_toArray, List.length_cons, List.length_nil, Nat.reduceAdd, Nat.reduceSub, Array.replicate_succ, Array.replicate_zero, List.push_toArray, List.append_toArray, List.nil_append, List.cons_append]
  gi_wp2_with (first | (refine ⟨trivial, ?_⟩; gi_at_call 27; refine HDie.out.mono ?_; rintro e w ⟨rfl, rfl⟩) | (rw [← Hv.out]; refine ⟨trivial, ?_⟩; gi_at_call 28; refine (all_in Fence.wide (3 - 1) trivial rfl _ _ _ _).mono ?_; rintro e w' ⟨rfl, rfl⟩))
  have bN := Boxed.new V 54 (sl0 (P.b i) P.m)
  rw [hsz] at bN
  have hB0 : Below w.heap.size w (V.alloc (.cells #[sl0 (P.b i) P.m] 54)) := below_of_grown (grownBy_alloc' hg _)
  have hP0 : PoolM (V.alloc (.cells #[sl0 (P.b i) P.m] 54)) P f := HP.out.grown (grownBy_alloc' hg _)
  have bB0 := bB.alloc (.cells #[sl0 (P.b i) P.m] 54)
  have bX0 := bX.alloc (.cells #[sl0 (P.b i) P.m] 54)
  clear bB bX hg Hv
  have hI0 : TakeI w P f i none (V.alloc (.cells #[sl0 (P.b i) P.m] 54)) := ⟨bB0, bX0, hP0, hB0⟩
  clear bB0 bX0 hP0 hB0
  refine wpIn_rangeFunc_ownG rfl h1 (gf := 42) (lb := #[.pointer (some ⟨w.heap.size + 2, 0, none⟩)]) rfl trivial (enters_of Tryd.func42 (by kernel_rfl) rfl)
    (all_stops Fence.wide (3 - 1) trivial rfl (by omega) (w.heap.size + 2) (P.b i) P.m (by omega) _ (.inl rfl) _ (by simp; omega) bN.cell) keepB_t (keepB_b (by simp; omega)) (Below.refl _ _) (fun _ => rfl)
    (fun pre W => TakeI w P f i (pre.foldl (takeStep (f i)) none) W)
    (fun _ _ _ => False)
    (takeI_ownFrom _ (by simp; omega))
    (fun _ _ _ _ _ hs _ _ => hs)
    hI0
    ?a1 ?assign ?body ?done ?stop
  case assign =>
    intro l x W K hK
    gi_wp2
    exact hK
  case body =>
    rintro l pre x W hT _
    have hxm := x.2
    have c0 := hT.pool.st i x.1 hi hxm
    have c1 := hT.pool.er i x.1 hi hxm
    have hbc := hT.best.cell
    have hbf := hT.best.frozen
    have hxc := hT.num.cell
    have hxf := hT.num.frozen
    have hS := hide (fun y : Fin P.m => hT.pool.er i y.1 hi y.2)
    have hF : (pre ++ [x]).foldl (takeStep (f i)) none = takeStep (f i) (pre.foldl (takeStep (f i)) none) x := by simp
    have HT := hide hT
    have HI : Hid (∀ W', TakeI w P f i (takeStep (f i) (pre.foldl (takeStep (f i)) none) x) W' → TakeI w P f i ((pre ++ [x]).foldl (takeStep (f i)) none) W') := fun W' h => by rw [hF]; exact h
    generalize pre.foldl (takeStep (f i)) none = acc at hbc hxc HT HI
    clear hT hF
    by_cases hst : (f i x.1).st = 1
    · have d1 : ((f i x.1).st == 1) = true := by simpa using hst
      have HS := hide hst
      clear hst
      cases acc with
      | none =>
        have hK : Hid (takeStep (f i) none x = some x) := by unfold Hid takeStep; rw [if_pos HS.out]
        simp only [bestV, numV] at hbc hxc
        clear hS c1
        gi_wp2
        refine wpIn_region_quiet_round rfl (by kernel_rfl) (by kernel_rfl) (by kernel_rfl) ?_
        repeat (gi_big_quiet_step (fail))
        refine wpQuietIn_nil ?_
        intro _ hw'
        obtain ⟨nq, hw''⟩ := hw'
        subst hw''
        gi_wp2
        refine ⟨(ko_drewN ((KeepsOthers.setCell _ _ _).trans (KeepsOthers.setCell _ _ _))).from _, (setCell_else (by omega) _).trans (setCell_else (by omega) _), HI.out _ ?_⟩
        rw [hK.out]
        exact (HT.out.drewN nq).put HP.out x
      | some y =>
        have cy := hS.out y
        simp only [bestV, numV] at hbc hxc
        clear hS
        by_cases hlt : (f i x.1).er < (f i y.1).er
        · have hK : Hid (takeStep (f i) (some y) x = some x) := by unfold Hid takeStep; rw [if_pos HS.out]; simp [hlt]
          generalize (f i x.1).er = ex at c1 hlt
          generalize (f i y.1).er = ey at cy hlt
          have q1 : (ex : Int) < (ey : Int) := by omega
          clear hlt
          gi_wp2
          refine wpIn_region_quiet_round rfl (by kernel_rfl) (by kernel_rfl) (by kernel_rfl) ?_
          repeat (gi_big_quiet_step (fail))
          refine wpQuietIn_nil ?_
          intro _ hw'
          obtain ⟨nq, hw''⟩ := hw'
          subst hw''
          gi_wp2
          refine ⟨(ko_drewN ((KeepsOthers.setCell _ _ _).trans (KeepsOthers.setCell _ _ _))).from _, (setCell_else (by omega) _).trans (setCell_else (by omega) _), HI.out _ ?_⟩
          rw [hK.out]
          exact (HT.out.drewN nq).put HP.out x
        · have hK : Hid (takeStep (f i) (some y) x = some y) := by unfold Hid takeStep; rw [if_pos HS.out]; simp [hlt]
          generalize (f i x.1).er = ex at c1 hlt
          generalize (f i y.1).er = ey at cy hlt
          have q1 : ¬ (ex : Int) < (ey : Int) := by omega
          clear hlt
          gi_wp2
          refine wpIn_region_quiet_round rfl (by kernel_rfl) (by kernel_rfl) (by kernel_rfl) ?_
          repeat (gi_big_quiet_step (fail))
          refine wpQuietIn_nil ?_
          intro _ hw'
          obtain ⟨nq, hw''⟩ := hw'
          subst hw''
          gi_wp2
          refine ⟨(ko_refl_drewN _ _).from _, rfl, HI.out _ ?_⟩
          rw [hK.out]
          exact HT.out.drewN nq
    · have d1 : ((f i x.1).st == 1) = false := by simpa using hst
      have hK : Hid (takeStep (f i) acc x = acc) := by unfold Hid takeStep; rw [if_neg hst]
      clear hst hS hbc hxc c1
      gi_wp2
      refine wpIn_region_quiet_round rfl (by kernel_rfl) (by kernel_rfl) (by kernel_rfl) ?_
      repeat (gi_big_quiet_step (fail))
      refine wpQuietIn_nil ?_
      intro _ hw'
      obtain ⟨nq, hw''⟩ := hw'
      subst hw''
      gi_wp2
      refine ⟨(ko_refl_drewN _ _).from _, rfl, HI.out _ ?_⟩
      rw [hK.out]
      exact HT.out.drewN nq
  case done =>
    rintro D ys W hD rfl hT hK
    have hpk : (List.finRange P.m).foldl (takeStep (f i)) none = pick (f i) P.m := rfl
    rw [hpk] at hT
    generalize hacc : pick (f i) P.m = acc at hT
    have hbc := hT.best.cell
    have hxc := hT.num.cell
    have HT := hide hT
    have HK := hide hK
    have HA := hide hacc
    simp at hD
    clear hT hacc
    cases acc with
    | none =>
      simp only [bestV, numV] at hbc hxc
      gi_wp2
      refine ⟨by simp, .inl ⟨_, _, rfl, run_takeDeferred HK.out, ?_⟩⟩
      have hb := HT.out.low.trans (belowK_b (w := w) (Nat.le_refl _) W D _ (.deferred none) (by omega) HK.out rfl rfl)
      have hp := poolM_ownFrom (β := Unit) w.heap.size P f () _ _ (some D) HT.out.pool (grownBy_putObj' W D (.deferred none)) (fun r e => by cases e; exact ⟨by omega, _, HK.out, rfl⟩)
      refine ⟨_, ?_, .inl ⟨HA.out, rfl, hp⟩, Stp.of_below hb _⟩
      simp [results, Tryd.f10, go_sem]
    | some x =>
      simp only [bestV, numV] at hbc hxc
      have hxm := x.2
      have c0 := HT.out.pool.st i x.1 hi hxm
      have hfr := (HT.out.pool.ob i hi).free (x.1 * 2)
      gi_wp2
      have hK' := (KeepsOthers.setCell W ⟨P.b i, x.1 * 2, none⟩ (num 2)).same D _ HK.out rfl
      refine ⟨by simp, .inl ⟨_, _, rfl, run_takeDeferred hK', ?_⟩⟩
      have hs := HT.out.pool.setSt hi hxm 2 (by decide) (by decide)
      have hp := poolM_ownFrom (β := Unit) w.heap.size P _ () _ _ (some D) hs (grownBy_putObj' _ D (.deferred none)) (fun r e => by cases e; exact ⟨by omega, _, hK', rfl⟩)
      refine ⟨_, ?_, .inr ⟨x, HA.out, rfl, hp⟩, ?_⟩
      · simp [results, Tryd.f10, go_sem]
      · have s1 : Stp P.K w (W.setCell ⟨P.b i, x.1 * 2, none⟩ (num 2)) := (Stp.of_below HT.out.low _).set (.inl ⟨i, hi, rfl⟩) _
        have hg := grownBy_putObj' (W.setCell ⟨P.b i, x.1 * 2, none⟩ (num 2)) D (.deferred none)
        exact ⟨hg.os.trans s1.os, hg.tape.trans s1.tape, hg.output.trans s1.output, Nat.le_trans s1.size hg.size, fun g hl hk => (World.putObj_heap_other (by omega)).trans (s1.same g hl hk)⟩
  case stop =>
    rintro D c pre W _ _ h _
    exact h.elim
end Bk
end Go.Proofs.YtoakokpeomlkjaaDoor
