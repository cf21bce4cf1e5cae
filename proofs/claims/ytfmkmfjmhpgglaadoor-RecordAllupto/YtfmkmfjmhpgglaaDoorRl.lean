/- Layer 8 (record): the iterator of All: one record behind the other is yielded; what it writes is its own. -/
import Derived.Test.YtfmkmfjmhpgglaaDoorRk
import Derived.RangeFuncNested
import Derived.RangeFuncBound
import Derived.RangeFuncBox
import Derived.RangeFuncCalls
import Derived.RangeFuncLeaves
import Derived.OwnWalkIn
import Derived.TacticsInMore
import Derived.LoopNIn
import Derived.LoopIn
namespace Go.Proofs.YtfmkmfjmhpgglaaDoor
open Go.RowKit
namespace Rc
open Cr
attribute [local go_sem] Oper.semAt_some
/-- What is said of the world abides what the iterator writes: blocks of its own, P. -/
def Abid (J : (Nat → Prop) → Nat → World → Prop) : Prop :=
  ∀ (P P' : Nat → Prop) k W W', J P k W → Stp P W W' → (∀ g, P g → P' g) → (∀ g, P' g → P g ∨ W.heap.size ≤ g) → (∀ g, P' g → g < W'.heap.size) → J P' k W'
theorem RdB.kept {w w' : World} {ao : Option Addr} {b : List Nat} (h : RdB w ao b) (hk : ∀ a, ao = some a → w'.heap[a.block]? = w.heap[a.block]?) : RdB w' ao b :=
  ⟨h.1, h.2.imp id fun ⟨g, off, e, hh⟩ => ⟨g, off, e, fun i hi => by rw [cell_of_block (hk _ e)]; exact hh i hi⟩⟩
def cellN (w : World) (A : Nat) : Nat := match w.cell? ⟨A, 0, none⟩ with | some (.int _ n) => n.toNat | _ => 0
def mu (N A : Nat) (ok : Value) (w : World) : Nat := match ok with | .bool true => 1 + (37 * (N + 1) - cellN w A) | _ => 0
theorem cellN_of {w : World} {A n : Nat} {t : TypeId} (h : w.heap[A]? = some (.cells #[num (n : Nat)] t)) : cellN w A = n := by
  unfold cellN; rw [cell_at h rfl]; simp
/-- The iterator's state behind k yields: the next record is read, if there is one. -/
structure ItS (b : List Nat) (N : Nat) (J : (Nat → Prop) → Nat → World → Prop) (ao : Option Addr) (cap B A C : Nat) (k X : Nat) (P : Nat → Prop) (W : World) : Prop where
  le : k ≤ N
  j : J P k W
  box : W.heap[B]? = some (.cells #[.slice ao b.length cap] 25)
  at_ : k < N → W.heap[A]? = some (.cells #[num (37 * (k + 1) : Nat)] 3)
  last : k < N → W.heap[C]? = some (.cells #[q64 (recK b k).seq] 22)
  rec_ : W.heap[X]? = some (recL (if k < N then recK b k else noR))
  rd : RdB W ao b
  glob : Glob W
  row : ∀ a, ao = some a → P a.block ∧ a.block < B
  z : 0 < B
  pB : P B
  pA : P A
  pC : P C
  pX : P X
  lt : ∀ g, P g → g < W.heap.size
theorem wpListIn_store_recS {F : Fence} {n : Nat} {w : World} {ops : Array Oper} {rest : List Oper} {o : Oper} {a : Act} {Q : Exit → Act → World → Prop} (hgd : o.guard = none) (x y : Operand) (ho : o.op = .store 24 x y)
    (g : Nat) (r0 r : Rec) (hx : a.eval x = .pointer (some ⟨g, 0, none⟩)) (hy : a.eval y = recV r) (hg : w.heap[g]? = some (recL r0))
    (h : ∀ w', w'.heap[g]? = some (recL r) → Stp (fun x => x = g) w w' → wpListIn F n Tryd.prog ops Q rest (a.put o.dst undef) w') : wpListIn F n Tryd.prog ops Q (o :: rest) a w := by
  refine wpListIn_plain hgd fun K hK' => ?_
  have hrun := run_storeVar_row (P := Tryd.prog) w g 24 24 _ #[num r.kind, q64 r.seq, q64 r.a, q64 r.b, q64 r.c] hg info24 rfl (by simp [Value.oneCell'])
  unfold Oper.wpIn
  refine ⟨by simp [Oper.about, ho], ?_⟩
  rw [Oper.semAt_plain F _ _ (by rw [ho]; intro c hc'; cases hc')]
  simp only [execOp, ho, hx, hy, Instr.storeAt, Instr.sureAddr, Sem.run_bind, Sem.run_pure, Result.andThen_ok, hrun]
  exact hK' _ _ (h _ (setRow_heap _ _ _ _ _ _ hg) ((Stp.refl (fun x => x = g) w).row (.inl rfl) _))
theorem StepPost.one {b : List Nat} {k A C N : Nat} {w : World} {e : Ending} {w' : World} (h : StepPost b k A C w e w') (hk : k ≤ N) (hN1 : ∀ k, k < N → Ok b k) (hN2 : ¬ Ok b N) :
    Stp (fun g => g = A ∨ g = C) w w' ∧ e = .returned (.tuple #[recV (if k < N then recK b k else noR), .bool (decide (k < N))]) ∧ (k < N → w'.heap[A]? = some (.cells #[num (37 * (k + 1) : Nat)] 3) ∧ w'.heap[C]? = some (.cells #[q64 (recK b k).seq] 22)) := by
  refine ⟨h.1, ?_⟩
  by_cases hl : k < N
  · rcases h.2 with ⟨_, e1, e2, e3⟩ | ⟨h1, _⟩
    · rw [if_pos hl, decide_eq_true hl]; exact ⟨e1, fun _ => ⟨e2, e3⟩⟩
    · exact absurd (hN1 k hl) h1
  · obtain rfl : k = N := by omega
    rcases h.2 with ⟨h1, _⟩ | ⟨_, e1⟩
    · exact absurd h1 hN2
    · rw [if_neg hl, decide_eq_false hl]; exact ⟨e1, fun h => absurd h hl⟩
set_option maxRecDepth 100000 in
set_option maxHeartbeats 6400000 in
theorem all1_in (n : Nat) (l B0 : Nat) {ao : Option Addr} {cap : Nat} {b : List Nat} {N : Nat} (hN1 : ∀ k, k < N → Ok b k) (hN2 : ¬ Ok b N) (J : (Nat → Prop) → Nat → World → Prop) (Jx : Nat → World → Prop) (hJ : Abid J)
    (hY : ∀ P k W1, k < N → J P k W1 → YieldAt Fence.wide (n - 1) Tryd.prog l #[recV (recK b k)] W1 fun e W' =>
      (e = .returned (.bool true) ∧ J P (k + 1) W' ∧ W1.heap.size ≤ W'.heap.size ∧ ∀ g, P g ∨ g = 0 → W'.heap[g]? = W1.heap[g]?) ∨ (e = .returned (.bool false) ∧ Jx (k + 1) W'))
    (W : World) (hB0 : W.heap[B0]? = some (.cells #[.slice ao b.length cap] 25)) (hx : RdB W ao b) (hc : b.length ≤ cap) (hcap : ao = none → cap = 0) (hl : b.length ≤ 140737488355328) (hG : Glob W)
    (P0 : Nat → Prop) (hP0 : ∀ a, ao = some a → P0 a.block) (hPl : ∀ g, P0 g → g < W.heap.size) (h0 : J P0 0 W) :
    CallsIn Fence.wide n Tryd.prog 29 #[.func (.yield l) #[] #[], .pointer (some ⟨B0, 0, none⟩)] W fun e W' => (∃ v, e = .returned v) ∧
      ((∃ P, J P N W') ∨ (∃ k, k ≤ N ∧ Jx k W')) := by
  have c0 : W.cell? ⟨B0, 0, none⟩ = some (.slice ao b.length cap) := cell_at hB0 rfl
  obtain ⟨W1, hW1⟩ : ∃ W1, W1 = ((W.alloc (.cells #[.slice ao b.length cap] 25)).alloc (.cells #[num 0] 3)).alloc (.cells #[q64 0] 22) := ⟨_, rfl⟩
  have hg1 : W.grownBy W1 none := by rw [hW1]; exact grownBy_alloc' (grownBy_alloc' (World.grownBy_alloc W _ none) _) _
  have hs1 : W1.heap.size = W.heap.size + 3 := by rw [hW1]; simp
  have hB1 : W1.heap[W.heap.size]? = some (.cells #[.slice ao b.length cap] 25) := by
    rw [hW1]; exact obj_more (obj_more (heap_alloc_new W _) (World.grownBy_alloc _ _ none)) (World.grownBy_alloc _ _ none)
  have hA1 : W1.heap[W.heap.size + 1]? = some (.cells #[num (37 * 0 : Nat)] 3) := by
    have := heap_alloc_new (W.alloc (.cells #[.slice ao b.length cap] 25)) (.cells #[num 0] 3)
    rw [hW1]; exact obj_more (by simpa using this) (World.grownBy_alloc _ _ none)
  have hC1 : W1.heap[W.heap.size + 2]? = some (.cells #[q64 0] 22) := by
    have := heap_alloc_new ((W.alloc (.cells #[.slice ao b.length cap] 25)).alloc (.cells #[num 0] 3)) (.cells #[q64 0] 22)
    rw [hW1]; simpa using this
  have HRd := hide (reader_ok (w := W) (.slice ao b.length cap) rfl)
  have HR1 := hide (reader1_ok (hG.more hg1) (k := 0) hB1 hA1 hC1 (hx.more hg1) hc hcap hl (by omega) (fun h => absurd rfl h))
  have HW1 := hide hW1
  have HB1 := hide hB1
  have HX := hide hx
  have HG := hide hG
  have Hg1 := hide hg1
  have HJ0 := hide h0
  have Hs1 := hide hs1
  clear hW1 hB1 hA1 hC1 hx hG hg1 h0 hs1 hB0
  refine callsIn_of_wp Tryd.func29 rfl trivial ?_ rfl
  simp only [Tryd.ntmps29, List.size_toArray, List.length_cons, List.length_nil, Nat.reduceAdd, Nat.reduceSub, Array.replicate_succ, Array.replicate_zero, List.push_toArray, List.append_toArray, List.nil_append, List.cons_append]
  gi_wp2_with (first | (refine ⟨trivial, (fun h => by cases h), ?_⟩; gi_at_call 30; refine (callsIn_wide.2 HRd.out).mono ?_; rintro e w ⟨rfl, rfl⟩; rw [← HW1.out]))
  refine ⟨trivial, (fun h => by cases h), (callsIn_wide.2 HR1.out).mono fun e w2 hp => ?_⟩
  obtain ⟨s2, rfl, hs2⟩ := hp.one (Nat.zero_le N) hN1 hN2
  clear hp
  obtain ⟨R, hR⟩ : ∃ R, R = if 0 < N then recK b 0 else noR := ⟨_, rfl⟩
  rw [← hR]
  obtain ⟨V, hV⟩ : ∃ V, V = w2.alloc (.cells #[.int .i64 R.kind, .int .u64 R.seq, .int .u64 R.a, .int .u64 R.b, .int .u64 R.c] 24) := ⟨_, rfl⟩
  have hgV : w2.grownBy V none := by rw [hV]; exact World.grownBy_alloc w2 _ none
  have hbV : V.heap[w2.heap.size]? = some (recL R) := by rw [hV]; exact heap_alloc_new w2 _
  have hszV : V.heap.size = w2.heap.size + 1 := by rw [hV]; simp
  have hs12 := s2.size
  have hs1 := Hs1.out
  have sV : Stp (fun g => g = W.heap.size + 1 ∨ g = W.heap.size + 2) W1 V := s2.trans (.of_grown hgV)
  have sW : Stp P0 W V := ⟨sV.os.trans Hg1.out.os, sV.tape.trans Hg1.out.tape, sV.output.trans Hg1.out.output, by omega, fun g hg _ => by
    rw [sV.same g (by omega) (by omega)]; exact Hg1.out.block g hg (by simp)⟩
  have hg0 : 0 < W.heap.size := HG.out.pos
  have hlt : ∀ g, P0 g ∨ (W.heap.size ≤ g ∧ g < V.heap.size) → g < V.heap.size := fun g h => by
    rcases h with h | h
    · have := hPl g h; omega
    · exact h.2
  have HS0 : Hid (ItS b N J ao cap W.heap.size (W.heap.size + 1) (W.heap.size + 2) 0 w2.heap.size (fun g => P0 g ∨ (W.heap.size ≤ g ∧ g < V.heap.size)) V) := by
    refine ⟨Nat.zero_le _, hJ P0 _ 0 W V HJ0.out sW (fun g h => .inl h) (fun g h => h.imp id fun h => h.1) hlt, sV.obj (by omega) HB1.out, fun h => obj_more (hs2 h).1 hgV, fun h => obj_more (hs2 h).2 hgV, by rw [hbV, hR], ?_, fun i hi => ?_, fun a e => ⟨.inl (hP0 a e), hPl _ (hP0 a e)⟩, hg0, .inr ⟨?_, ?_⟩, .inr ⟨?_, ?_⟩, .inr ⟨?_, ?_⟩, .inr ⟨?_, ?_⟩, hlt⟩
    · refine RdB.kept HX.out fun a e => ?_
      have hl0 := hPl _ (hP0 a e)
      rw [sV.same _ (by omega) (by omega)]; exact Hg1.out.block _ hl0 (by simp)
    · have h1 := (HG.out.more Hg1.out) i hi
      rw [cell_of_block (sV.same 0 (by omega) (by omega))]; exact h1
    all_goals omega
  have HV := hide hV
  have HR := hide hR
  clear hV hR hgV hbV hszV sV sW hlt s2 hs2 hs12 HB1 HX HRd HR1 HW1 HJ0
  gi_wp2_with (rw [← HV.out])
  gi_loopw [4, 5] (fun rp ok wr => ∃ (k X : Nat) (P : Nat → Prop), rp = .pointer (some ⟨X, 0, none⟩) ∧ ok = .bool (decide (k < N)) ∧ ItS b N J ao cap W.heap.size (W.heap.size + 1) (W.heap.size + 2) k X P wr) (fun _ ok wr => mu N (W.heap.size + 1) ok wr)
  case atStart => exact ⟨0, _, _, rfl, rfl, HS0.out⟩
  case round =>
    clear HS0 HV HR c0
    obtain ⟨k, X, P, rfl, rfl, hI⟩ := hrel
    by_cases hkN : k < N
    · have e1 : decide (k < N) = true := decide_eq_true hkN
      obtain ⟨fn, tmps, assign, body, hy, hR⟩ := hY P k wr hkN hI.j
      have hX := hI.rec_
      rw [if_pos hkN] at hX
      obtain ⟨x0, x1, x2, x3, x4⟩ := cells5 hX
      have HI := hide hI
      have HX' := hide hX
      have HRR := hide hR
      clear hI hX hR
      gi_wp2_with fail
      refine ⟨(fun h => by cases h), HRR.out.mono ?_⟩
      rintro e W4 (⟨rfl, hJ4, hs4, hk4⟩ | ⟨rfl, hx4⟩)
      · have hX4 : W4.heap[X]? = some (recL (recK b k)) := (hk4 X (.inl HI.out.pX)).trans HX'.out
        clear x0 x1 x2 x3 x4
        obtain ⟨x0, x1, x2, x3, x4⟩ := cells5 hX4
        obtain ⟨V5, hV5⟩ : ∃ V5, V5 = W4.alloc (.cells #[.int .i64 (recK b k).kind, .int .u64 (recK b k).seq, .int .u64 (recK b k).a, .int .u64 (recK b k).b, .int .u64 (recK b k).c] 24) := ⟨_, rfl⟩
        have hg5 : W4.grownBy V5 none := by rw [hV5]; exact World.grownBy_alloc W4 _ none
        have hb5 : V5.heap[W4.heap.size]? = some (recL (recK b k)) := by rw [hV5]; exact heap_alloc_new W4 _
        have hz5 : V5.heap.size = W4.heap.size + 1 := by rw [hV5]; simp
        have hG5 : Glob V5 := fun i hi => by
          rw [cell_of_block (hg5.block 0 (by have := HI.out.glob.pos; omega) (by simp)), cell_of_block (hk4 0 (.inr rfl))]
          exact HI.out.glob i hi
        have old : ∀ g, P g → V5.heap[g]? = wr.heap[g]? := fun g hg => by
          have := HI.out.lt g hg
          rw [hg5.block g (by omega) (by simp)]; exact hk4 g (.inl hg)
        have hR1 := reader1_ok hG5 (B := W.heap.size) (A := W.heap.size + 1) (C := W.heap.size + 2) (ao := ao) (cap := cap) (k := k + 1) (last := (recK b k).seq)
          ((old _ HI.out.pB).trans HI.out.box) ((old _ HI.out.pA).trans (HI.out.at_ hkN)) ((old _ HI.out.pC).trans (HI.out.last hkN)) (RdB.kept HI.out.rd fun a e => old _ (HI.out.row a e).1) hc hcap hl (hN1 k hkN).len (fun _ => rfl)
        have HR1 := hide hR1
        have HV5 := hide hV5
        have HB5 := hide hb5
        have HG5 := hide hG5
        have Hg5 := hide hg5
        have HJ4 := hide hJ4
        have HO := hide old
        have hsz4 := HI.out.lt
        clear hR1 hV5 hb5 hG5 hg5 hJ4 old hX4 hk4
        gi_wp2_with (rw [← HV5.out])
        refine ⟨trivial, (fun h => by cases h), (callsIn_wide.2 HR1.out).mono fun e w6 hp => ?_⟩
        obtain ⟨s6, rfl, hs6⟩ := hp.one hkN hN1 hN2
        clear hp HR1
        obtain ⟨R', hR'⟩ : ∃ R', R' = if k + 1 < N then recK b (k + 1) else noR := ⟨_, rfl⟩
        rw [← hR']
        have hl5 := lt_of_heap HB5.out
        have hz5' : V5.heap.size = W4.heap.size + 1 := by rw [HV5.out]; simp
        have pA := HI.out.lt _ HI.out.pA
        have pC := HI.out.lt _ HI.out.pC
        have hb6 := s6.obj (g := W4.heap.size) (by omega) HB5.out
        have HB6 := hide hb6
        have HS6 := hide s6
        have HR' := hide hR'
        clear hb6 s6 hR'
        gi_wp2_with (refine wpListIn_store_recS rfl (.tmp 4) (.tmp 22) rfl W4.heap.size (recK b k) R' rfl rfl HB6.out ?_; intro w7 h7 s7)
        have oB : V5.heap[W.heap.size]? = _ := HO.out _ HI.out.pB
        have eR := HR'.out
        have hz : W.heap.size + 1 < W4.heap.size := by omega
        have hz2 : W.heap.size + 2 < W4.heap.size := by omega
        have s6 := HS6.out
        have l6 := s6.size
        have sP : Stp P W4 w7 := ((Stp.of_grown Hg5.out).trans (s6.more fun g h => by rcases h with rfl | rfl; exact HI.out.pA; exact HI.out.pC)).new s7 (Nat.le_refl _)
        have l7 := s7.size
        have keep : ∀ g, g < W4.heap.size → g ≠ W.heap.size + 1 → g ≠ W.heap.size + 2 → w7.heap[g]? = V5.heap[g]? := fun g hg h1 h2 => by
          rw [s7.same g (by omega) (by omega), s6.same g (by omega) (by omega)]
        have hlt7 : ∀ g, P g ∨ g = W4.heap.size → g < w7.heap.size := fun g h => by
          rcases h with h | rfl
          · have := hsz4 g h; omega
          · omega
        have hz0 := HI.out.z
        have hBl := HI.out.lt _ HI.out.pB
        refine ⟨⟨k + 1, W4.heap.size, fun g => P g ∨ g = W4.heap.size, rfl, rfl, ⟨hkN, hJ P _ (k + 1) W4 w7 HJ4.out sP (fun g h => .inl h) (fun g h => h.imp id fun e => by omega) hlt7, ?_, fun h => ?_, fun h => ?_, ?_, ?_, fun i hi => ?_, fun a e => ⟨.inl (HI.out.row a e).1, (HI.out.row a e).2⟩, hz0, .inl HI.out.pB, .inl HI.out.pA, .inl HI.out.pC, .inr rfl, hlt7⟩⟩, ?_⟩
        · rw [keep _ (by omega) (by omega) (by omega), oB]; exact HI.out.box
        · rw [s7.same _ (by omega) (by omega)]; exact (hs6 h).1
        · rw [s7.same _ (by omega) (by omega)]; exact (hs6 h).2
        · rw [h7, eR]
        · refine RdB.kept HI.out.rd fun a e => ?_
          have hr := HI.out.row a e
          rw [keep _ (by omega) (by omega) (by omega)]; exact HO.out _ hr.1
        · rw [cell_of_block (keep 0 (by omega) (by omega) (by omega))]; exact HG5.out i hi
        · have q1 := cellN_of (HI.out.at_ hkN)
          rw [e1]
          by_cases hk1 : k + 1 < N
          · rw [decide_eq_true hk1]
            have q2 : cellN w7 (W.heap.size + 1) = 37 * (k + 1 + 1) := cellN_of (by rw [s7.same _ (by omega) (by omega)]; exact (hs6 hk1).1)
            simp only [mu, q1, q2]; omega
          · rw [decide_eq_false hk1]
            simp only [mu]; omega
      · gi_wp2
        go_end0
        exact ⟨⟨_, rfl⟩, .inr ⟨k + 1, hkN, hx4⟩⟩
    · have e1 : decide (k < N) = false := decide_eq_false hkN
      obtain rfl : k = N := by have := hI.le; omega
      have hj := hI.j
      clear hI
      gi_wp2_with (refine ⟨(fun f h => by cases h), ?_⟩)
      go_end0
      exact ⟨⟨_, rfl⟩, .inl ⟨_, hj⟩⟩
end Rc
end Go.Proofs.YtfmkmfjmhpgglaaDoor
