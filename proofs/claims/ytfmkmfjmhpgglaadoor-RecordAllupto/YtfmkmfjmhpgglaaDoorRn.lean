/- Layer 8 (record): the records that were taken. -/
import Derived.Test.YtfmkmfjmhpgglaaDoorRm
import Derived.Maps.AppendAt
namespace Go.Proofs.YtfmkmfjmhpgglaaDoor
open Go.RowKit Go.Shelf
namespace Rc
open Cr
attribute [local go_sem] Oper.semAt_some
abbrev vals1 (r : Rec) : List Value := [num r.kind, q64 r.seq, q64 r.a, q64 r.b, q64 r.c]
def valsR (l : List Rec) : List Value := l.flatMap vals1
theorem valsR_app (a b : List Rec) : valsR (a ++ b) = valsR a ++ valsR b := by simp [valsR]
theorem valsR_one (r : Rec) : valsR [r] = vals1 r := by simp [valsR]
theorem valsR_len (l : List Rec) : (valsR l).length = l.length * 5 := by
  induction l with
  | nil => rfl
  | cons r l ih => rw [show valsR (r :: l) = vals1 r ++ valsR l by simp [valsR], List.length_append, ih]; simp; omega
def recs (b : List Nat) (k : Nat) : List Rec := (List.range k).map (recK b)
theorem recs_succ (b : List Nat) (k : Nat) : recs b (k + 1) = recs b k ++ [recK b k] := by simp [recs, List.range_succ]
theorem recs_len (b : List Nat) (k : Nat) : (recs b k).length = k := by simp [recs]
theorem infoR : (Tryd.prog.info? 24).map (fun i => (i.zero, i.size, i.bytes)) = some (some (.agg #[.int .i64 0, .int .u64 0, .int .u64 0, .int .u64 0, .int .u64 0]), 5, 40) := by kernel_rfl
theorem own_stp {P : Nat → Prop} {W W' : World} {base : Nat} {e : TypeId} {size : Nat} {v : Value} {n : Nat} {xs : List Value} (h : W.ownsRow base e size v n xs) (hs : Stp P W W') (hp : ∀ g, v.ownBlock = some g → ¬ P g) : W'.ownsRow base e size v n xs :=
  ⟨h.1, h.2.imp id fun ⟨g, cap, cur, a, b, c, d⟩ => ⟨g, cap, cur, a, b, hs.obj (hp g (by rw [a]; rfl)) c, d⟩⟩
theorem own_lt {W : World} {base : Nat} {e : TypeId} {size : Nat} {v : Value} {n : Nat} {xs : List Value} (h : W.ownsRow base e size v n xs) : ∀ g, v.ownBlock = some g → g < W.heap.size ∧ base ≤ g := fun g hg => by
  rcases h.2 with ⟨rfl, _⟩ | ⟨g', cap, cur, rfl, hb, hh, _⟩
  · simp [Value.ownBlock] at hg
  · simp [Value.ownBlock] at hg
    subst hg
    exact ⟨lt_of_heap hh, hb⟩
theorem fn_no (p : Value) (w : World) : (binOp .eql 51 (.func (.func 29) #[] #[p]) .nilFunc).run Tryd.prog w = .ok (.bool false) w := by kernel_rfl
theorem wpListIn_append_at {F : Fence} {n : Nat} (w : World) {ops : Array Oper} {rest : List Oper} {o : Oper} {a : Act} {Q : Exit → Act → World → Prop}
    (hg : o.guard = none) (s x : Operand) (hop : o.op = .call { callee := .builtin .append, args := #[s, x], argTypes := #[34, 34] })
    (base : Nat) (v : Value) (k : Nat) (xs : List Value) (hs : a.eval s = v) (hown : w.ownsRow base 24 5 v k xs) (g : Nat) (r : Rec) (hx : a.eval x = .slice (some ⟨g, 0, none⟩) 1 1) (hh : w.heap[g]? = some (.cells (vals1 r).toArray 24))
    (b1 : k ≤ 1000000000000) (b3 : base ≤ w.heap.size)
    (hK : ∀ v' w', w'.ownsRow base 24 5 v' (k + 1) (xs ++ vals1 r) → w.grownBy w' v.ownBlock → (v'.ownBlock = v.ownBlock ∨ v'.ownBlock = some w.heap.size) → wpListIn F n Tryd.prog ops Q rest (a.put o.dst v') w') :
    wpListIn F n Tryd.prog ops Q (o :: rest) a w := by
  obtain ⟨i0, hi, hz0, hz1, hz2⟩ := info_parts infoR
  refine wpListIn_plain hg fun K hK' => ?_
  obtain ⟨v', w', hrun, r1, r2, _, r4⟩ := run_append_own_at (P := Tryd.prog) w base 34 o.type 24 i0 _ 5 40 Tryd.underlying34 hi hz0 hz1 hz2 rfl (by decide) v k xs hown ⟨g, 0, none⟩ 1 1 (vals1 r) rfl (fun j u hu => by
    rw [addr_add', Nat.zero_add]
    exact cell_at hh (by simpa using hu)) (fun u hu => by simp at hu; rcases hu with rfl | rfl | rfl | rfl | rfl <;> rfl) (by unfold maxLen; omega) (by omega) b3
  unfold Oper.wpIn
  refine ⟨?_, ?_⟩
  · simp [Oper.about, hop, resolve, Target.leads, Sem.run_pure]
  · rw [Oper.semAt_plain F _ _ (by rw [hop]; intro c hc'; cases hc')]
    simp [execOp, hop, resolve, invoke, builtin, hs, hx, hrun, Result.andThen]
    exact hK' _ _ (hK v' w' r1 r2 r4)
theorem grow_below {w Wa w' : World} {base : Nat} {e : TypeId} {size : Nat} {v : Value} {n : Nat} {xs : List Value} (h : w.grownBy Wa none) (hown : Wa.ownsRow base e size v n xs) (hb : w.heap.size ≤ base) (hg : Wa.grownBy w' v.ownBlock) : w.grownBy w' none :=
  ⟨hg.os.trans h.os, hg.tape.trans h.tape, hg.output.trans h.output, Nat.le_trans h.size hg.size, fun x hx _ => by
    rw [hg.block x (Nat.lt_of_lt_of_le hx h.size) (fun e => by have := (own_lt hown x e.symm).2; omega)]; exact h.block x hx (by simp)⟩
theorem own_base {W : World} {base base' : Nat} {e : TypeId} {size : Nat} {v : Value} {n : Nat} {xs : List Value} (h : W.ownsRow base e size v n xs) (hb : base' ≤ base) : W.ownsRow base' e size v n xs :=
  ⟨h.1, h.2.imp id fun ⟨g, cap, cur, a, b, c⟩ => ⟨g, cap, cur, a, Nat.le_trans hb b, c⟩⟩
structure TkI (w0 : World) (most : Int) (b : List Nat) (P : Nat → Prop) (k : Nat) (W : World) : Prop where
  gr : w0.grownBy W none
  mbox : W.heap[w0.heap.size]? = some (.cells #[num most] 3)
  out : ∃ v, W.heap[w0.heap.size + 1]? = some (.cells #[v] 34) ∧ W.ownsRow (w0.heap.size + 2) 24 5 v k (valsR (recs b k)) ∧ ∀ g, v.ownBlock = some g → ¬ P g
  big : w0.heap.size + 2 ≤ W.heap.size
  pge : ∀ g, P g → w0.heap.size + 2 ≤ g
  mo : (k : Int) < most ∨ most < 0
structure TkX (w0 : World) (most : Int) (b : List Nat) (id k : Nat) (W : World) : Prop where
  gr : w0.grownBy W none
  out : ∃ v, W.heap[w0.heap.size + 1]? = some (.cells #[v] 34) ∧ W.ownsRow (w0.heap.size + 2) 24 5 v k (valsR (recs b k))
  mo : (k : Int) = most
  it : id = 0
theorem tkI_abid (w0 : World) (most : Int) (b : List Nat) : Abid (TkI w0 most b) := by
  intro P P' k W W' h hs h1 h2 h3
  obtain ⟨v, o1, o2, o3⟩ := h.out
  have n1 : ∀ g, g < w0.heap.size + 2 → ¬ P g := fun g hg hp => by have := h.pge g hp; omega
  have hsz := hs.size
  have hb := h.big
  refine ⟨⟨hs.os.trans h.gr.os, hs.tape.trans h.gr.tape, hs.output.trans h.gr.output, by omega, fun g hg _ => ?_⟩, hs.obj (n1 _ (by omega)) h.mbox, ⟨v, hs.obj (n1 _ (by omega)) o1, own_stp o2 hs o3, fun g hg hp => ?_⟩, by omega, fun g hp => ?_, h.mo⟩
  · rw [hs.same g (by omega) (n1 g (by omega))]; exact h.gr.block g hg (by simp)
  · have := (own_lt o2 g hg).1
    exact (h2 g hp).elim (o3 g hg) (by omega)
  · exact (h2 g hp).elim (h.pge g) (by omega)
theorem grown_putObj {w0 W : World} (h : w0.grownBy W none) {l : Nat} (hl : w0.heap.size ≤ l) (o : Obj) : w0.grownBy (W.putObj l o) none :=
  ⟨h.os, h.tape, h.output, by have := h.size; simp; omega, fun g hg _ => by rw [World.putObj_heap_other (by omega)]; exact h.block g hg (by simp)⟩
theorem TkI.putObj {w0 : World} {most : Int} {b : List Nat} {P : Nat → Prop} {k : Nat} {W : World} (h : TkI w0 most b P k W) {l : Nat} {o : Obj} (o' : Obj) (hl : w0.heap.size + 2 ≤ l) (hh : W.heap[l]? = some o) (ho : o.isCells = false) : TkI w0 most b P k (W.putObj l o') := by
  obtain ⟨v, o1, o2, o3⟩ := h.out
  refine ⟨grown_putObj h.gr (by omega) _, (World.putObj_heap_other (by omega)).trans h.mbox, ⟨v, (World.putObj_heap_other (by omega)).trans o1, ownsRow_putObj o2 o' hh ho, o3⟩, by simp; exact h.big, h.pge, h.mo⟩
theorem TkX.putObj {w0 : World} {most : Int} {b : List Nat} {id k : Nat} {W : World} (h : TkX w0 most b id k W) {l : Nat} {o : Obj} (o' : Obj) (hl : w0.heap.size + 2 ≤ l) (hh : W.heap[l]? = some o) (ho : o.isCells = false) : TkX w0 most b id k (W.putObj l o') := by
  obtain ⟨v, o1, o2⟩ := h.out
  exact ⟨grown_putObj h.gr (by omega) _, ⟨v, (World.putObj_heap_other (by omega)).trans o1, ownsRow_putObj o2 o' hh ho⟩, h.mo, h.it⟩
structure TkS (w W w' U : World) (most : Int) (b : List Nat) (P : Nat → Prop) (k g5 c5 : Nat) (v : Value) : Prop where
  oc : w'.cell? ⟨w.heap.size + 1, 0, none⟩ = some v
  of : w'.frozen? ⟨w.heap.size + 1, 0, none⟩ = false
  uo : U.cell? ⟨w.heap.size + 1, 0, none⟩ = some (.slice (some ⟨g5, 0, none⟩) (k + 1) c5)
  um : U.cell? ⟨w.heap.size, 0, none⟩ = some (num most)
  kept : ∀ n0, Kept n0 W U
  keep : ∀ g, P g ∨ g = 0 → U.heap[g]? = W.heap[g]?
  gr : w.grownBy U none
  hm : U.heap[w.heap.size]? = some (.cells #[num most] 3)
  ho : U.heap[w.heap.size + 1]? = some (.cells #[.slice (some ⟨g5, 0, none⟩) (k + 1) c5] 34)
  row : U.ownsRow (w.heap.size + 2) 24 5 (.slice (some ⟨g5, 0, none⟩) (k + 1) c5) (k + 1) (valsR (recs b (k + 1)))
  far : ∀ g, (Value.slice (some ⟨g5, 0, none⟩) (k + 1) c5).ownBlock = some g → ¬ P g
  big : w.heap.size + 2 ≤ U.heap.size
theorem tk_step {w W Wa w' U : World} {most : Int} {b : List Nat} {P : Nat → Prop} {k g5 c5 : Nat} {v : Value} (hI : TkI w most b P k W) (hw0 : 0 < w.heap.size) (hPl : ∀ g, P g → g < W.heap.size) (hga : W.grownBy Wa none) (hsa : Wa.heap.size = W.heap.size + 1)
    (o1 : W.heap[w.heap.size + 1]? = some (.cells #[v] 34)) (own : Wa.ownsRow (w.heap.size + 2) 24 5 v k (valsR (recs b k))) (o3 : ∀ g, v.ownBlock = some g → ¬ P g)
    (r1 : w'.ownsRow (w.heap.size + 2) 24 5 (.slice (some ⟨g5, 0, none⟩) (k + 1) c5) (k + 1) (valsR (recs b k) ++ vals1 (recK b k))) (r2 : Wa.grownBy w' v.ownBlock) (r3 : (Value.slice (some ⟨g5, 0, none⟩) (k + 1) c5).ownBlock = v.ownBlock ∨ (Value.slice (some ⟨g5, 0, none⟩) (k + 1) c5).ownBlock = some Wa.heap.size)
    (hU : U = w'.setCell ⟨w.heap.size + 1, 0, none⟩ (.slice (some ⟨g5, 0, none⟩) (k + 1) c5)) : TkS w W w' U most b P k g5 c5 v := by
  have hb := hI.big
  have hs2 := r2.size
  have hge : ∀ g, v.ownBlock = some g → w.heap.size + 2 ≤ g := fun g hg => (own_lt own g hg).2
  have b5 := (own_lt r1 g5 rfl)
  have same : ∀ g, g < W.heap.size → v.ownBlock ≠ some g → w'.heap[g]? = W.heap[g]? := fun g hg hn => by
    rw [r2.block g (by omega) (fun e => hn e.symm), hga.block g hg (by simp)]
  have sU : ∀ g, g ≠ w.heap.size + 1 → U.heap[g]? = w'.heap[g]? := fun g hg => by rw [hU]; exact setCell_else hg _
  have szU : U.heap.size = w'.heap.size := by rw [hU]; simp [World.setCell]
  have hO' : w'.heap[w.heap.size + 1]? = some (.cells #[v] 34) := by
    rw [same _ (by omega) (fun e => by have := hge _ e; omega)]; exact o1
  have hOU : U.heap[w.heap.size + 1]? = some (.cells #[.slice (some ⟨g5, 0, none⟩) (k + 1) c5] 34) := by
    rw [hU]; exact setCell_row (i := 0) (L := [v]) hO' _
  have hMU : U.heap[w.heap.size]? = some (.cells #[num most] 3) := by
    rw [sU _ (by omega), same _ (by omega) (fun e => by have := hge _ e; omega)]; exact hI.mbox
  have hgr : w.grownBy U none := by
    rw [hU]
    exact grownBy_set (grow_below (grownBy_trans hI.gr hga) own (by omega) r2) (by omega) _
  have hS : Stp (fun g => g = w.heap.size + 1) w' U := by rw [hU]; exact (Stp.refl (fun g => g = w.heap.size + 1) w').set (.inl rfl) _
  refine ⟨cell_at hO' rfl, free_at hO', cell_at hOU rfl, cell_at hMU rfl, fun n0 => ⟨by omega, fun l o _ hl ho => ?_⟩, fun g hg => ?_, hgr, hMU, hOU, ?_, fun g hg hp => ?_, by omega⟩
  · have hll := lt_of_heap hl
    have h1 : v.ownBlock ≠ some l := fun e => by
      rcases own.2 with ⟨rfl, _⟩ | ⟨g', cap, cur, rfl, _, hh, _⟩
      · simp [Value.ownBlock] at e
      · simp [Value.ownBlock] at e; subst e
        rw [hga.block _ hll (by simp), hl] at hh
        simp at hh; subst hh; simp [Obj.isCells] at ho
    have h2 : l ≠ w.heap.size + 1 := fun e => by
      subst e; rw [o1] at hl; simp at hl; subst hl; simp [Obj.isCells] at ho
    rw [sU l h2, same l hll h1]; exact hl
  · rcases hg with hg | rfl
    · have h1 := hPl g hg
      have h2 := hI.pge g hg
      rw [sU g (by omega), same g h1 (fun e => o3 g e hg)]
    · rw [sU 0 (by omega), same 0 (by omega) (fun e => by have := hge _ e; omega)]
  · rw [recs_succ, valsR_app, valsR_one]
    exact own_stp r1 hS (fun g hg => by have := (own_lt r1 g hg).2; omega)
  · rcases r3 with e | e
    · exact o3 g (by rw [← e]; exact hg) hp
    · rw [e] at hg
      have := hPl g hp
      have : Wa.heap.size = g := by injection hg
      omega
/-- How many are taken. -/
def kmost (N : Nat) (most : Int) : Nat := if 0 ≤ most ∧ most ≤ N then most.toNat else N
def TakenPost (w : World) (b : List Nat) (K : Nat) (e : Ending) (w' : World) : Prop := ∃ v, e = .returned v ∧ w.grownBy w' none ∧ w'.ownsRow w.heap.size 24 5 v K (valsR (recs b K))
theorem leaves_marks {F : Fence} {n : Nat} {P : Program} {fn : Func} {tmps : Array Value} {R : Ending → World → Prop} {r : Nat} {w : World} (hm : w.heap[r]? = some (.deferred (some []))) (h : LeavesInM F n P fn tmps R [] .returning (w.putObj r (.deferred none))) : LeavesInM F n P fn tmps R [mark r] .returning w :=
  ⟨by simp, .inl ⟨r, _, rfl, run_takeDeferred hm, h⟩⟩
set_option maxRecDepth 100000 in
set_option maxHeartbeats 6400000 in
theorem taken_ok {w : World} (hG : Glob w) (ao : Option Addr) (cap : Nat) (b : List Nat) {N : Nat} (hN1 : ∀ k, k < N → Ok b k) (hN2 : ¬ Ok b N) (hN : N ≤ 1000000000000) (hx : RdB w ao b) (hc : b.length ≤ cap) (hcap : ao = none → cap = 0) (hl : b.length ≤ 140737488355328) (most : Int) :
    Calls Tryd.prog 15 #[.slice ao b.length cap, num most] w (TakenPost w b (kmost N most)) := by
  refine (callsIn_wide (n := 3)).1 ?_
  obtain ⟨V, hV⟩ : ∃ V, V = (w.alloc (.cells #[num most] 3)).alloc (.cells #[.slice none 0 0] 34) := ⟨_, rfl⟩
  have hgV : w.grownBy V none := by rw [hV]; exact grownBy_alloc' (World.grownBy_alloc w _ none) _
  have hsV : V.heap.size = w.heap.size + 2 := by rw [hV]; simp
  have hM : V.heap[w.heap.size]? = some (.cells #[num most] 3) := by rw [hV]; exact obj_more (heap_alloc_new w _) (World.grownBy_alloc _ _ none)
  have hO : V.heap[w.heap.size + 1]? = some (.cells #[.slice none 0 0] 34) := by
    have := heap_alloc_new (w.alloc (.cells #[num most] 3)) (.cells #[.slice none 0 0] 34)
    rw [hV]; simpa using this
  have HAll := hide (All_ok (w := V) ao cap b (hx.more hgV) hc hcap hl)
  have HV := hide hV
  have HM := hide hM
  have HO := hide hO
  have HgV := hide hgV
  have HsV := hide hsV
  have HG := hide hG
  clear hV hgV hM hO hsV hG hx
  refine callsIn_of_wp_marks Tryd.func15 rfl trivial ?_ rfl
  simp only [Tryd.ntmps15, List.size_toArray, List.length_cons, List.length_nil, Nat.reduceAdd, Nat.reduceSub, Array.replicate_succ, Array.replicate_zero, List.push_toArray, List.append_toArray, List.nil_append, List.cons_append]
  gi_wp2_with (rw [← HV.out])
  refine ⟨trivial, (callsIn_wide.2 HAll.out).mono ?_⟩
  rintro e w1 ⟨B, a', c', rfl, hBge, hBx, hcp, hcn, hrd, hg1, hge⟩
  have hM1 := obj_more HM.out hg1
  have hO1 := obj_more HO.out hg1
  have cM : w1.cell? ⟨w.heap.size, 0, none⟩ = some (num most) := cell_at hM1 rfl
  have cO : w1.cell? ⟨w.heap.size + 1, 0, none⟩ = some (.slice none 0 0) := cell_at hO1 rfl
  have hgw1 := grownBy_trans HgV.out hg1
  have hsz1 := hg1.size
  have hsV := HsV.out
  have hfn := fn_no (.pointer (some ⟨B, 0, none⟩))
  by_cases h0 : most = 0
  · have hk0 : kmost N most = 0 := by unfold kmost; rw [if_pos (by omega)]; omega
    have HK := hide hk0
    have HF := hide hgw1
    clear HAll hBx hrd hg1 hge hM1 hO1 cO hgw1 hk0
    subst h0
    gi_wp2
    refine ⟨_, results_tmp rfl _ _ _, ?_⟩
    rw [HK.out]
    exact ⟨_, rfl, HF.out, World.ownsRow_nil _ _ _ _⟩
  · have e0 : (most == 0) = false := by simp [h0]
    have HI0 : Hid (TkI w most b (fun g => ∃ a, a' = some a ∧ g = a.block) 0 w1) := ⟨hgw1, hM1, ⟨_, hO1, World.ownsRow_nil _ _ _ _, fun g hg => by simp [Value.ownBlock] at hg⟩, by omega, fun g hg => by obtain ⟨a, e, rfl⟩ := hg; have := (hge a e).1; omega, by omega⟩
    have HBx := hide hBx
    have Hrd := hide hrd
    have Hge := hide hge
    have HGw := hide (HG.out.more hgw1)
    have hz := HGw.out.pos
    clear HAll hBx hrd hg1 hge hM1 hO1 cO hgw1
    gi_wp2_with fail
    refine range_all1 (B0 := B) (ao := a') (cap := c') (b := b) (N := N) rfl rfl hN1 hN2 HBx.out Hrd.out hcp hcn hl HGw.out (TkI w most b) (TkX w most b) (tkI_abid w most b)
      (fun P k W l o o' h h1 h2 h3 => h.putObj o' (by omega) h2 h3) (fun id k W l o o' h h1 h2 h3 => h.putObj o' (by omega) h2 h3) _ (fun a e => ⟨a, e, rfl⟩) (fun g h => ?_) (fun h => ?_) HI0.out ?a1 ?assign ?body ?done ?stop
    · obtain ⟨a, e, rfl⟩ := h; exact (Hge.out a e).2
    · obtain ⟨a, e, h⟩ := h; have := (Hge.out a e).1; omega
    case assign =>
      intro l k X W K hX hK
      gi_wp2
      rw [← hX]
      exact hK
    case body =>
      intro l P k X W hl2 hkN hI hXr hXw hPl hPX hGW
      obtain ⟨v, o1, o2, o3⟩ := hI.out
      obtain ⟨x0, x1, x2, x3, x4⟩ := cells5 hXr
      have cO : W.cell? ⟨w.heap.size + 1, 0, none⟩ = some v := cell_at o1 rfl
      obtain ⟨R, hR⟩ : ∃ R, R = recK b k := ⟨_, rfl⟩
      have hw0 := HG.out.pos
      rw [← hR] at x0 x1 x2 x3 x4
      obtain ⟨Wa, hWa⟩ : ∃ Wa, Wa = W.alloc (.cells #[num R.kind, q64 R.seq, q64 R.a, q64 R.b, q64 R.c] 24) := ⟨_, rfl⟩
      have hga : W.grownBy Wa none := by rw [hWa]; exact World.grownBy_alloc W _ none
      have hsa : Wa.heap.size = W.heap.size + 1 := by rw [hWa]; simp
      have hta : Wa.heap[W.heap.size]? = some (.cells (vals1 R).toArray 24) := by rw [hWa]; exact heap_alloc_new W _
      have HOw := hide (own_more o2 hga)
      have HTa := hide hta
      have HWa := hide hWa
      have hbig := hI.big
      have HI := hide hI
      have Hga := hide hga
      have HR := hide hR
      clear hI o2 hga hta hWa hR hXr hGW cM
      by_cases hm : (k : Int) + 1 = most
      · have em : ((k : Int) + 1 == most) = true := by simp [hm]
        gi_wp2_with (first | (rw [← HWa.out]) | (refine wpListIn_append_at _ rfl (.tmp 18) (.tmp 20) rfl (w.heap.size + 2) v k (valsR (recs b k)) rfl HOw.out W.heap.size R rfl HTa.out (by omega) (by omega) ?_; intro v' w' r1 r2 r3; obtain ⟨g5, c5, rfl⟩ := ownsRow_succ r1; obtain ⟨U, hU⟩ : ∃ U, U = w'.setCell ⟨w.heap.size + 1, 0, none⟩ (.slice (some ⟨g5, 0, none⟩) (k + 1) c5) := ⟨_, rfl⟩; have T := hide (tk_step HI.out hw0 hPl Hga.out hsa o1 HOw.out o3 (by rw [← HR.out]; exact r1) r2 r3 hU); have HU := hide hU; have t1 := T.out.oc; have t2 := T.out.of; have t3 := T.out.uo; have t4 := T.out.um; clear r1 r2 r3 hU x0 x1 x2 x3 x4 cO HOw HTa) | (rw [← HU.out]))
        exact ⟨T.out.kept _, ⟨T.out.gr, ⟨_, T.out.ho, T.out.row⟩, by omega, rfl⟩⟩
      · have em : ((k : Int) + 1 == most) = false := by simp [hm]
        gi_wp2_with (first | (rw [← HWa.out]) | (refine wpListIn_append_at _ rfl (.tmp 18) (.tmp 20) rfl (w.heap.size + 2) v k (valsR (recs b k)) rfl HOw.out W.heap.size R rfl HTa.out (by omega) (by omega) ?_; intro v' w' r1 r2 r3; obtain ⟨g5, c5, rfl⟩ := ownsRow_succ r1; obtain ⟨U, hU⟩ : ∃ U, U = w'.setCell ⟨w.heap.size + 1, 0, none⟩ (.slice (some ⟨g5, 0, none⟩) (k + 1) c5) := ⟨_, rfl⟩; have T := hide (tk_step HI.out hw0 hPl Hga.out hsa o1 HOw.out o3 (by rw [← HR.out]; exact r1) r2 r3 hU); have HU := hide hU; have t1 := T.out.oc; have t2 := T.out.of; have t3 := T.out.uo; have t4 := T.out.um; clear r1 r2 r3 hU x0 x1 x2 x3 x4 cO HOw HTa) | (rw [← HU.out]))
        exact ⟨T.out.kept _, ⟨T.out.gr, T.out.hm, ⟨_, T.out.ho, T.out.row, T.out.far⟩, T.out.big, HI.out.pge, by have := HI.out.mo; omega⟩, T.out.keep⟩
    case done =>
      intro P W hI hs hD
      obtain ⟨v, o1, o2, _⟩ := hI.out
      have cO : W.cell? ⟨w.heap.size + 1, 0, none⟩ = some v := cell_at o1 rfl
      have hk : kmost N most = N := by unfold kmost; rw [if_neg]; have := hI.mo; omega
      have HK := hide hk
      have HI := hide hI
      have HR := hide o2
      have HD := hide hD
      clear hI hk o2 hD cM
      gi_wp2
      refine leaves_marks HD.out ?_
      refine ⟨_, results_tmp rfl _ _ _, ?_⟩
      rw [HK.out]
      exact ⟨v, rfl, grown_putObj HI.out.gr (by omega) _, own_base (ownsRow_putObj HR.out _ HD.out rfl) (by omega)⟩
    case stop =>
      intro id k W hk hI hs hD
      obtain ⟨v, o1, o2⟩ := hI.out
      have cO : W.cell? ⟨w.heap.size + 1, 0, none⟩ = some v := cell_at o1 rfl
      obtain rfl := hI.it
      have hkm : kmost N most = k := by unfold kmost; have := hI.mo; rw [if_pos (by omega)]; omega
      have HK := hide hkm
      have HI := hide hI
      have HR := hide o2
      have HD := hide hD
      clear hI hkm o2 hD cM
      refine wpIn_exit ?_
      gi_wp2
      refine leaves_marks HD.out ?_
      refine ⟨_, results_tmp rfl _ _ _, ?_⟩
      rw [HK.out]
      exact ⟨v, rfl, grown_putObj HI.out.gr (by omega) _, own_base (ownsRow_putObj HR.out _ HD.out rfl) (by omega)⟩
end Rc
end Go.Proofs.YtfmkmfjmhpgglaaDoor
