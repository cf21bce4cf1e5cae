/- Layer 7 (blocks): Count. -/
import Derived.Test.YtoakokpeomlkjaaDoorBs
namespace Go.Proofs.YtoakokpeomlkjaaDoor
open Go.RowKit Go.Maps Go.Shelf
namespace Bk
attribute [local go_sem] Oper.semAt_some
/-- What die answers: a die's row, or none. -/
structure DieRow (w : World) (P : Lay) (d : Int) (sv : Value) (i len : Nat) : Prop where
  call : ∀ V, w.grownBy V none → Calls Tryd.prog 27 #[ptr P.p 0, num d] V fun e w' => e = .returned sv ∧ w' = V
  val : DieV sv (P.b i) len
  row : len = 0 ∨ (i < P.n ∧ len = P.m)
theorem dieRow_in {w : World} {P : Lay} {f : Pool} (h : PoolM w P f) {i : Nat} (hi : i < P.n) : DieRow w P i (sl0 (P.b i) P.m) i P.m := ⟨fun _ hg => die_in (h.grown hg) hi, .inl rfl, .inr ⟨hi, rfl⟩⟩
theorem dieRow_out {w : World} {P : Lay} {f : Pool} (h : PoolM w P f) {d : Int} (hd : ¬ InDie P d) : DieRow w P d nilS 0 0 := ⟨fun _ hg => die_out (h.grown hg) hd, .inr ⟨rfl, rfl⟩, .inl rfl⟩
def cntL {m : Nat} (r : Nat → Blk) (s : Int) (pre : List (Fin m)) : Nat := (pre.filter fun x => decide ((r x.1).st = s)).length
theorem cntL_le {m : Nat} (r : Nat → Blk) (s : Int) (pre : List (Fin m)) : cntL r s pre ≤ pre.length := List.length_filter_le _ _
theorem cntL_snoc {m : Nat} (r : Nat → Blk) (s : Int) (pre : List (Fin m)) (x : Fin m) : cntL r s (pre ++ [x]) = cntL r s pre + (if (r x.1).st = s then 1 else 0) := by
  unfold cntL
  by_cases h : (r x.1).st = s <;> simp [h]
def cnt (r : Nat → Blk) (m : Nat) (s : Int) : Nat := cntL r s (List.finRange m)
structure CountI (w : World) (P : Lay) (f : Pool) (s : Int) (n : Nat) (W : World) : Prop where
  st : Boxed W w.heap.size 3 (num s)
  num : Boxed W (w.heap.size + 1) 3 (num (n : Int))
  pool : PoolM W P f
  low : Below w.heap.size w W
theorem countI_ownFrom {w : World} {P : Lay} {f : Pool} {s : Int} {β : Type} (n : β → Nat) {B : Nat} (hB : w.heap.size ≤ B) : OwnFrom B (fun a W => CountI w P f s (n a) W) := fun a X Y row hs hg hr =>
  ⟨boxed_own _ _ (fun _ => Bk.num s) a X Y row hs.st hg fun r e => (hr r e).2, boxed_own _ _ (fun a => Bk.num (n a : Int)) a X Y row hs.num hg fun r e => (hr r e).2, poolM_ownFrom (β := β) B P f a X Y row hs.pool hg hr, ownFrom_below (β := β) (Nat.le_refl _) hB a X Y row hs.low hg hr⟩
theorem CountI.drewN {w W : World} {P : Lay} {f : Pool} {s : Int} {c : Nat} (h : CountI w P f s c W) (n : Nat) : CountI w P f s c (W.drewN n) := ⟨h.st, h.num, h.pool.stp (K := No) ((Stp.refl _ _).drewN n) (fun k => k) (fun k => k) fun _ _ k => k, ⟨h.low.os, h.low.tape, h.low.output, h.low.size, h.low.block⟩⟩
theorem CountI.put {w W : World} {P : Lay} {f : Pool} {s : Int} {c : Nat} (h0 : PoolM w P f) (h : CountI w P f s c W) (v : Nat) :
    CountI w P f s v (W.setCell ⟨w.heap.size + 1, 0, none⟩ (Bk.num (v : Int))) :=
  ⟨h.st.other (by omega) _, h.num.set _, h0.keep h.pool ((Stp.refl _ _).set (.inl (by omega)) _), h.low.setCell (p := ⟨w.heap.size + 1, 0, none⟩) (by show w.heap.size ≤ w.heap.size + 1; omega) _⟩
set_option maxRecDepth 100000 in
set_option maxHeartbeats 2000000 in
theorem Count_ok {w : World} {P : Lay} {f : Pool} (h : PoolM w P f) {d : Int} {sv : Value} {i len : Nat} (hd : DieRow w P d sv i len) (s : Int) :
    Calls Tryd.prog 32 #[ptr P.p 0, num d, num s] w fun e w' => e = .returned (num (cnt (f i) len s : Nat)) ∧ w.grownBy w' none := by
  refine (callsIn_wide (n := 3)).1 ?_
  have h1 : 1 ≤ 3 := by omega
  have h64 : len ≤ 64 := by rcases hd.row with e | ⟨_, e⟩ <;> have := h.m64 <;> omega
  have hM : (len : Int) ≤ 64 := by omega
  obtain ⟨V, hV⟩ : ∃ V, V = (w.alloc (.cells #[num s] 3)).alloc (.cells #[num 0] 3) := ⟨_, rfl⟩
  have hg : w.grownBy V none := by rw [hV]; exact grownBy_alloc' (World.grownBy_alloc w _ none) _
  have hsz : V.heap.size = w.heap.size + 2 := by rw [hV]; simp
  have bB : Boxed V w.heap.size 3 (num s) := by rw [hV]; exact (Boxed.new w _ _).alloc _
  have bX : Boxed V (w.heap.size + 1) 3 (num 0) := by rw [hV]; have := Boxed.new (w.alloc (.cells #[num s] 3)) 3 (num 0); rw [World.size_alloc] at this; exact this
  have HP := hide h
  have HDie := hide (hd.call V hg)
  obtain ⟨ao, cap, hsv⟩ : ∃ ao cap, sv = .slice ao len cap := by
    rcases hd.val with rfl | ⟨rfl, rfl⟩
    · exact ⟨_, _, rfl⟩
    · exact ⟨_, _, rfl⟩
  subst hsv
  have HD := hide hd
  have Hv := hide hV
  clear h hd hV
  refine callsIn_of_wp_marks Tryd.func32 rfl trivial ?_ rfl
  simp only [Tryd.ntmps32, List.size_toArray, List.length_cons, List.length_nil, Nat.reduceAdd, Nat.reduceSub, Array.replicate_succ, Array.replicate_zero, List.push_toArray, List.append_toArray, List.nil_append, List.cons_append]
  gi_wp2_with (first | (rw [← Hv.out]; refine ⟨trivial, ?_⟩; gi_at_call 27; refine (callsIn_wide.2 HDie.out).mono ?_; rintro e V ⟨rfl, rfl⟩) | (refine ⟨trivial, ?_⟩; gi_at_call 28; refine (all_in Fence.wide (3 - 1) trivial rfl _ _ _ _).mono ?_; rintro e w' ⟨rfl, rfl⟩))
  have bN := Boxed.new V 54 (.slice ao len cap)
  rw [hsz] at bN
  have hI0 : CountI w P f s (cntL (m := len) (f i) s []) (V.alloc (.cells #[.slice ao len cap] 54)) := ⟨bB.alloc _, bX.alloc _, HP.out.grown (grownBy_alloc' hg _), below_of_grown (grownBy_alloc' hg _)⟩
  clear bB bX Hv hg
  refine wpIn_rangeFunc_ownG rfl h1 (gf := 42) (lb := #[.pointer (some ⟨w.heap.size + 2, 0, none⟩)]) rfl trivial (enters_of Tryd.func42 (by kernel_rfl) rfl)
    (all_stops Fence.wide (3 - 1) trivial rfl (by omega) (w.heap.size + 2) (P.b i) len h64 _ HD.out.val _ (by simp; omega) bN.cell) keepB_t (keepB_b (by simp; omega)) (Below.refl _ _) (fun _ => rfl)
    (fun pre W => CountI w P f s (cntL (f i) s pre) W)
    (fun _ _ _ => False)
    (countI_ownFrom _ (by simp; omega))
    (fun _ _ _ _ _ hs _ _ => hs)
    hI0
    ?a1 ?assign ?body ?done ?stop
  case assign =>
    intro l x W K hK
    gi_wp2
    exact hK
  case body =>
    rintro l pre x W hT hpre
    obtain ⟨hi, hm⟩ : i < P.n ∧ len = P.m := HD.out.row.resolve_left (by omega)
    have hxm : x.1 < P.m := by have := x.2; omega
    have c0 := hT.pool.st i x.1 hi hxm
    have hbc := hT.st.cell
    have hxc := hT.num.cell
    have hxf := hT.num.frozen
    have HT := hide hT
    have HC := hide (cntL_snoc (f i) s pre x)
    have hle := cntL_le (f i) s pre
    have HI : Hid (∀ W', CountI w P f s (cntL (f i) s pre + (if (f i x.1).st = s then 1 else 0)) W' → CountI w P f s (cntL (f i) s (pre ++ [x])) W') := fun W' h => by rw [HC.out]; exact h
    generalize cntL (f i) s pre = c at hxc HT HI hle
    have q1 : (c : Int) ≤ 64 := by omega
    clear hT HC hm hle hpre
    by_cases hst : (f i x.1).st = s
    · have d1 : ((f i x.1).st == s) = true := by simpa using hst
      rw [if_pos hst] at HI
      clear hst
      gi_wp2
      refine wpIn_region_quiet_round rfl (by kernel_rfl) (by kernel_rfl) (by kernel_rfl) ?_
      repeat (gi_big_quiet_step (fail))
      refine wpQuietIn_nil ?_
      intro _ hw'
      obtain ⟨nq, hw''⟩ := hw'
      subst hw''
      gi_wp2
      exact ⟨(ko_drewN (KeepsOthers.setCell _ _ _)).from _, setCell_else (by omega) _, HI.out _ ((HT.out.drewN nq).put HP.out (c + 1))⟩
    · have d1 : ((f i x.1).st == s) = false := by simpa using hst
      rw [if_neg hst] at HI
      clear hst
      gi_wp2
      refine wpIn_region_quiet_round rfl (by kernel_rfl) (by kernel_rfl) (by kernel_rfl) ?_
      repeat (gi_big_quiet_step (fail))
      refine wpQuietIn_nil ?_
      intro _ hw'
      obtain ⟨nq, hw''⟩ := hw'
      subst hw''
      gi_wp2
      exact ⟨(ko_refl_drewN _ _).from _, rfl, HI.out _ (HT.out.drewN nq)⟩
  case done =>
    rintro D ys W hD rfl hT hK
    have hxc := hT.num.cell
    have HT := hide hT
    have HK := hide hK
    simp at hD
    clear hT
    gi_wp2
    refine ⟨by simp, .inl ⟨_, _, rfl, run_takeDeferred HK.out, ?_⟩⟩
    exact ⟨_, results_tmp rfl _ _ _, rfl, grown_of_below (HT.out.low.trans (belowK_b (w := w) (Nat.le_refl _) W D _ (.deferred none) (by omega) HK.out rfl rfl))⟩
  case stop =>
    rintro D c pre W _ _ h _
    exact h.elim
/-! ### Spread -/
def spStep {m : Nat} (r : Nat → Blk) (a : Nat × Nat) (x : Fin m) : Nat × Nat := if (r x.1).st ≠ 4 then (min a.1 (r x.1).er, max a.2 (r x.1).er) else a
def spL {m : Nat} (r : Nat → Blk) (pre : List (Fin m)) : Nat × Nat := pre.foldl (spStep r) (4294967295, 0)
def spread (r : Nat → Blk) (m : Nat) : Nat := if (spL r (List.finRange m)).2 < (spL r (List.finRange m)).1 then 0 else (spL r (List.finRange m)).2 - (spL r (List.finRange m)).1
structure SpI (w : World) (P : Lay) (f : Pool) (a : Nat × Nat) (W : World) : Prop where
  lo : Boxed W w.heap.size 60 (q32 a.1)
  hi : Boxed W (w.heap.size + 1) 60 (q32 a.2)
  pool : PoolM W P f
  low : Below w.heap.size w W
  b1 : a.1 ≤ 4294967295
  b2 : a.2 ≤ 4294967295
theorem spI_ownFrom {w : World} {P : Lay} {f : Pool} {β : Type} (n : β → Nat × Nat) {B : Nat} (hB : w.heap.size ≤ B) : OwnFrom B (fun a W => SpI w P f (n a) W) := fun a X Y row hs hg hr =>
  ⟨boxed_own _ _ (fun a => q32 (n a).1) a X Y row hs.lo hg fun r e => (hr r e).2, boxed_own _ _ (fun a => q32 (n a).2) a X Y row hs.hi hg fun r e => (hr r e).2, poolM_ownFrom (β := β) B P f a X Y row hs.pool hg hr, ownFrom_below (β := β) (Nat.le_refl _) hB a X Y row hs.low hg hr, hs.b1, hs.b2⟩
theorem SpI.drewN {w W : World} {P : Lay} {f : Pool} {c : Nat × Nat} (h : SpI w P f c W) (n : Nat) : SpI w P f c (W.drewN n) := ⟨h.lo, h.hi, h.pool.stp (K := No) ((Stp.refl _ _).drewN n) (fun k => k) (fun k => k) fun _ _ k => k, ⟨h.low.os, h.low.tape, h.low.output, h.low.size, h.low.block⟩, h.b1, h.b2⟩
theorem SpI.put {w W : World} {P : Lay} {f : Pool} {c : Nat × Nat} (h0 : PoolM w P f) (h : SpI w P f c W) (a b : Nat) (ha : a ≤ 4294967295) (hb : b ≤ 4294967295) :
    SpI w P f (a, b) ((W.setCell ⟨w.heap.size, 0, none⟩ (q32 a)).setCell ⟨w.heap.size + 1, 0, none⟩ (q32 b)) :=
  ⟨(h.lo.set _).other (by omega) _, (h.hi.other (by omega) _).set _, h0.keep h.pool (((Stp.refl _ _).set (.inl (Nat.le_refl _)) _).set (.inl (by omega)) _), (h.low.setCell (p := ⟨w.heap.size, 0, none⟩) (Nat.le_refl _) _).setCell (p := ⟨w.heap.size + 1, 0, none⟩) (by show w.heap.size ≤ w.heap.size + 1; omega) _, ha, hb⟩
set_option maxRecDepth 100000 in
set_option maxHeartbeats 16000000 in
theorem Spread_ok {w : World} {P : Lay} {f : Pool} (h : PoolM w P f) {d : Int} {sv : Value} {i len : Nat} (hd : DieRow w P d sv i len) :
    Calls Tryd.prog 25 #[ptr P.p 0, num d] w fun e w' => e = .returned (num (spread (f i) len : Nat)) ∧ w.grownBy w' none := by
  refine (callsIn_wide (n := 3)).1 ?_
  have h1 : 1 ≤ 3 := by omega
  have h64 : len ≤ 64 := by rcases hd.row with e | ⟨_, e⟩ <;> have := h.m64 <;> omega
  have hM : (len : Int) ≤ 64 := by omega
  obtain ⟨V, hV⟩ : ∃ V, V = (w.alloc (.cells #[.int .u32 4294967295] 60)).alloc (.cells #[.int .u32 0] 60) := ⟨_, rfl⟩
  have hg : w.grownBy V none := by rw [hV]; exact grownBy_alloc' (World.grownBy_alloc w _ none) _
  have hsz : V.heap.size = w.heap.size + 2 := by rw [hV]; simp
  have bB : Boxed V w.heap.size 60 (q32 4294967295) := by rw [hV]; exact (Boxed.new w 60 (q32 4294967295)).alloc _
  have bX : Boxed V (w.heap.size + 1) 60 (q32 0) := by rw [hV]; have := Boxed.new (w.alloc (.cells #[.int .u32 4294967295] 60)) 60 (q32 0); rw [World.size_alloc] at this; exact this
  have HP := hide h
  have HDie := hide (hd.call V hg)
  obtain ⟨ao, cap, hsv⟩ : ∃ ao cap, sv = .slice ao len cap := by
    rcases hd.val with rfl | ⟨rfl, rfl⟩
    · exact ⟨_, _, rfl⟩
    · exact ⟨_, _, rfl⟩
  subst hsv
  have HD := hide hd
  have Hv := hide hV
  clear h hd hV
  refine callsIn_of_wp_marks Tryd.func25 rfl trivial ?_ rfl
  simp only [Tryd.ntmps25, List.size_toArray, List.length_cons, List.length_nil, Nat.reduceAdd, Nat.reduceSub, Array.replicate_succ, Array.replicate_zero, List.push_toArray, List.append_toArray, List.nil_append, List.cons_append]
  gi_wp2_with (first | (rw [← Hv.out]; refine ⟨trivial, ?_⟩; gi_at_call 27; refine (callsIn_wide.2 HDie.out).mono ?_; rintro e V ⟨rfl, rfl⟩) | (refine ⟨trivial, ?_⟩; gi_at_call 28; refine (all_in Fence.wide (3 - 1) trivial rfl _ _ _ _).mono ?_; rintro e w' ⟨rfl, rfl⟩))
  have bN := Boxed.new V 54 (.slice ao len cap)
  rw [hsz] at bN
  have hI0 : SpI w P f (spL (m := len) (f i) []) (V.alloc (.cells #[.slice ao len cap] 54)) := ⟨bB.alloc _, bX.alloc _, HP.out.grown (grownBy_alloc' hg _), below_of_grown (grownBy_alloc' hg _), Nat.le_refl _, Nat.zero_le _⟩
  clear bB bX Hv hg
  refine wpIn_rangeFunc_ownG rfl h1 (gf := 42) (lb := #[.pointer (some ⟨w.heap.size + 2, 0, none⟩)]) rfl trivial (enters_of Tryd.func42 (by kernel_rfl) rfl)
    (all_stops Fence.wide (3 - 1) trivial rfl (by omega) (w.heap.size + 2) (P.b i) len h64 _ HD.out.val _ (by simp; omega) bN.cell) keepB_t (keepB_b (by simp; omega)) (Below.refl _ _) (fun _ => rfl)
    (fun pre W => SpI w P f (spL (f i) pre) W)
    (fun _ _ _ => False)
    (spI_ownFrom _ (by simp; omega))
    (fun _ _ _ _ _ hs _ _ => hs)
    hI0
    ?a1 ?assign ?body ?done ?stop
  case assign =>
    intro l x W K hK
    gi_wp2
    exact hK
  case body =>
    rintro l pre x W hT hpre
    obtain ⟨hi, hm⟩ : i < P.n ∧ len = P.m := HD.out.row.resolve_left (by omega)
    have hxm : x.1 < P.m := by have := x.2; omega
    have c0 := hT.pool.st i x.1 hi hxm
    have c1 := hT.pool.er i x.1 hi hxm
    have e1 := hT.pool.e1 i x.1 hi hxm
    have hbc := hT.lo.cell
    have hbf := hT.lo.frozen
    have hxc := hT.hi.cell
    have hxf := hT.hi.frozen
    have HT := hide hT
    have HI : Hid (∀ W', SpI w P f (spStep (f i) (spL (f i) pre) x) W' → SpI w P f (spL (f i) (pre ++ [x])) W') := fun W' h => by
      have e : spL (f i) (pre ++ [x]) = spStep (f i) (spL (f i) pre) x := by simp [spL]
      rw [e]; exact h
    generalize spL (f i) pre = c at hbc hxc HT HI
    obtain ⟨lo, hi'⟩ := c
    simp only at hbc hxc
    clear hT hm hpre
    by_cases hst : (f i x.1).st = 4
    · have d1 : ((f i x.1).st != 4) = false := by simpa using hst
      have hK : Hid (spStep (f i) (lo, hi') x = (lo, hi')) := by unfold Hid spStep; rw [if_neg (by simp [hst])]
      clear hst
      gi_wp2
      exact ⟨KeepsFrom.refl _ _, rfl, HI.out _ (by rw [hK.out]; exact HT.out)⟩
    · have d1 : ((f i x.1).st != 4) = true := by simpa using hst
      have hK : Hid (spStep (f i) (lo, hi') x = (min lo (f i x.1).er, max hi' (f i x.1).er)) := by unfold Hid spStep; rw [if_pos hst]
      clear hst
      generalize (f i x.1).er = e at c1 e1 hK
      gi_wp2
      obtain ⟨mn, hmn⟩ : ∃ mn : Nat, mn = min lo e := ⟨_, rfl⟩
      obtain ⟨mx, hmx⟩ : ∃ mx : Nat, mx = max hi' e := ⟨_, rfl⟩
      rw [← hmn, ← hmx] at hK
      have hB1 := HT.out.b1
      have hB2 := HT.out.b2
      simp only at hB1 hB2
      have f1 : (if e < lo then (e : Int) else (lo : Int)) = (mn : Int) := by rw [hmn]; split <;> omega
      have f2 : (if hi' < e then (e : Int) else (hi' : Int)) = (mx : Int) := by rw [hmx]; split <;> omega
      have HFin : Hid (ownPostG (V.alloc (.cells #[.slice ao len cap] 54)).heap.size (KeepB (w.heap.size + 2)) (fun pre W => SpI w P f (spL (f i) pre) W) (fun _ _ _ => False) (pre ++ [x]) W .normal { tmps := #[], defers := [] } ((W.drew.setCell ⟨w.heap.size, 0, none⟩ (q32 mn)).setCell ⟨w.heap.size + 1, 0, none⟩ (q32 mx))) := by
        refine ⟨(((KeepsOthers.drew _).trans (KeepsOthers.setCell _ _ _)).trans (KeepsOthers.setCell _ _ _)).from _, (setCell_else (by omega) _).trans (setCell_else (by omega) _), HI.out _ ?_⟩
        rw [hK.out]
        exact (HT.out.drewN 1).put HP.out _ _ (by omega) (by omega)
      have hn1 : P.b i ≠ w.heap.size := by have := (HP.out.low).2.2 i hi; omega
      have hn2 : P.b i ≠ w.heap.size + 1 := by have := (HP.out.low).2.2 i hi; omega
      exact spread_region (fun h => by obtain ⟨_, _, h⟩ := h; exact h) (fun _ _ _ _ h => h) _ _ _ _ _ _ _ _ _ _ _ _ _ _ _ _ _ _ _ _ _ _ _ _ _ _ _ _ _ _ _ _ _ _ _ _ hbc hbf hxc hxf c1 hn1 hn2 f1 f2 (fun _ => HFin.out)
  case done =>
    rintro D ys W hD rfl hT hK
    have e1 : spread (f i) len = if (spL (f i) (List.finRange len)).2 < (spL (f i) (List.finRange len)).1 then 0 else (spL (f i) (List.finRange len)).2 - (spL (f i) (List.finRange len)).1 := rfl
    generalize spL (f i) (List.finRange len) = c at hT e1
    obtain ⟨lo, hi'⟩ := c
    have HE : Hid (spread (f i) len = if hi' < lo then 0 else hi' - lo) := e1
    have hbc := hT.lo.cell
    have hxc := hT.hi.cell
    have b1 := hT.b1
    have b2 := hT.b2
    have HT := hide hT
    have HK := hide hK
    simp only at hbc hxc b1 b2
    simp at hD
    clear hT e1
    by_cases hlt : hi' < lo
    · have q1 : (hi' : Int) < (lo : Int) := by omega
      gi_wp2
      refine ⟨by simp, .inl ⟨_, _, rfl, run_takeDeferred HK.out, ?_⟩⟩
      refine ⟨_, results_tmp rfl _ _ _, ?_, grown_of_below (HT.out.low.trans (belowK_b (w := w) (Nat.le_refl _) W D _ (.deferred none) (by omega) HK.out rfl rfl))⟩
      exact ret_int (by rw [HE.out, if_pos hlt]; rfl)
    · have q1 : ¬ (hi' : Int) < (lo : Int) := by omega
      gi_wp2
      refine ⟨by simp, .inl ⟨_, _, rfl, run_takeDeferred HK.out, ?_⟩⟩
      refine ⟨_, results_tmp rfl _ _ _, ?_, grown_of_below (HT.out.low.trans (belowK_b (w := w) (Nat.le_refl _) W D _ (.deferred none) (by omega) HK.out rfl rfl))⟩
      refine ret_int ?_
      rw [HE.out, if_neg hlt]
      omega
  case stop =>
    rintro D c pre W _ _ h _
    exact h.elim
end Bk
end Go.Proofs.YtoakokpeomlkjaaDoor
