/- Layer 7 (blocks): Bytes. -/
import Derived.Test.YtoakokpeomlkjaaDoorBp
import Derived.Test.YtoakokpeomlkjaaDoorXf
namespace Go.Proofs.YtoakokpeomlkjaaDoor
open Go.RowKit Go.Maps Go.Shelf
namespace Bk
open Cr (valsB RdB Glob)
attribute [local go_sem] Oper.semAt_some
/-- A block's bytes. -/
def blkB (x : Blk) : List Nat := [x.st.toNat, x.er % 256, x.er / 256 % 256, x.er / 65536 % 256, x.er / 16777216 % 256]
def dieB {m : Nat} (r : Nat → Blk) (pre : List (Fin m)) : List Nat := pre.flatMap fun x => blkB (r x.1)
def poolB (f : Pool) (n m k : Nat) : List Nat := [n, m] ++ (List.range k).flatMap fun i => dieB (f i) (List.finRange m)
theorem dieB_snoc {m : Nat} (r : Nat → Blk) (pre : List (Fin m)) (x : Fin m) : dieB r (pre ++ [x]) = dieB r pre ++ blkB (r x.1) := by simp [dieB]
theorem poolB_succ (f : Pool) (n m k : Nat) : poolB f n m (k + 1) = poolB f n m k ++ dieB (f k) (List.finRange m) := by simp [poolB, List.range_succ]
theorem dieB_len {m : Nat} (r : Nat → Blk) (pre : List (Fin m)) : (dieB r pre).length = 5 * pre.length := by
  induction pre with
  | nil => rfl
  | cons z l ih =>
    have : dieB r (z :: l) = blkB (r z.1) ++ dieB r l := by simp [dieB]
    rw [this, List.length_append, ih]
    simp [blkB]; omega
theorem poolB_len (f : Pool) (n m : Nat) : ∀ k, (poolB f n m k).length = 2 + k * (5 * m)
  | 0 => by simp [poolB]
  | k + 1 => by rw [poolB_succ, List.length_append, poolB_len f n m k, dieB_len, List.length_finRange, Nat.add_mul, Nat.one_mul]; omega
theorem rowB_ownFrom {β : Type} (base B C : Nat) (S : β → List Nat) : OwnFrom C (fun s W => RowB base B (S s) W) := fun s X Y row hs hg hr => by
  obtain ⟨v, h1, h2⟩ := (holdsRow_own base B 43 5 1 (fun s => (S s).length) (fun s => valsB (S s)) (fun (_ : β) (_ : Value) => True)).from C s X Y row (by obtain ⟨v, h1, h2⟩ := hs; exact ⟨v, h1, h2, trivial⟩) hg hr
  exact ⟨v, h1, h2.1⟩
theorem blkB_le {x : Blk} (h : x.st ≤ 4) : ∀ y ∈ blkB x, y ≤ 255 := fun y hy => by
  simp [blkB] at hy
  rcases hy with rfl | rfl | rfl | rfl | rfl <;> omega
theorem poolB_le {w : World} {P : Lay} {f : Pool} (h : PoolM w P f) : ∀ x ∈ poolB f P.n P.m P.n, x ≤ 255 := fun x hx => by
  have h1 := h.n8
  have h2 := h.m64
  unfold poolB at hx
  rcases List.mem_append.1 hx with hx | hx
  · simp at hx; rcases hx with rfl | rfl <;> omega
  · obtain ⟨i, hi, hx⟩ := List.mem_flatMap.1 hx
    unfold dieB at hx
    obtain ⟨y, _, hx⟩ := List.mem_flatMap.1 hx
    exact blkB_le (h.s4 i y.1 (List.mem_range.1 hi) y.2) x hx
structure BytesI (w : World) (P : Lay) (f : Pool) (k : Nat) (rs : List Nat) (W : World) : Prop where
  row : RowB w.heap.size (w.heap.size + 1) (poolB f P.n P.m k) W
  pool : PoolM W P f
  low : Below w.heap.size w W
  marks : Marked rs W
  ge : ∀ r, r ∈ rs → w.heap.size + 2 ≤ r
abbrev bytesAct (w : World) (P : Lay) (k : Nat) (rs : List Nat) (v6 v29 v30 v31 v32 v33 v67 : Value) : Act :=
  { tmps := #[ptr P.p 0, undef, nilS, sl0 (P.b 0) P.m, .pointer (some ⟨w.heap.size + 1, 0, none⟩), undef, v6, undef, undef, ptr P.p 0, sl0 (P.b 0) P.m, sl0 (P.b 0) P.m, .bool false, ptr P.p 0, ptr P.p 0, ptr P.p 0, sl0 P.d P.n, num P.n, q8 P.n, sl0 (P.b 0) P.m, num P.m, q8 P.m, .slice (some ⟨w.heap.size, 0, none⟩) 2 2, ptr P.p 0, ptr P.p 0, ptr P.p 0, sl0 P.d P.n, num P.n, num k, v29, v30, v31, v32, v33, undef, undef, undef, undef, undef, undef, undef, undef, undef, undef, undef, undef, undef, undef, undef, undef, undef, undef, undef, undef, undef, undef, undef, undef, undef, undef, undef, undef, undef, undef, undef, undef, undef, v67, undef, undef], defers := rs.map mk }
set_option maxRecDepth 100000 in
set_option maxHeartbeats 4000000 in
theorem Bytes_ok {w : World} {P : Lay} {f : Pool} (h : PoolM w P f) (hG : Glob w) : Calls Tryd.prog 22 #[ptr P.p 0] w fun e w' => Cr.SealPost w (poolB f P.n P.m P.n) e w' := by
  refine (callsIn_wide (n := 3)).1 ?_
  have h1 : 1 ≤ 3 := by omega
  have hp0 : 0 < P.n := by have := h.n1; omega
  have hm1 := h.m1
  have hno := fun w => nil_no (P.b 0) P.m w
  have hN : (P.n : Int) ≤ 8 := by have := h.n8; omega
  have hM : (P.m : Int) ≤ 64 := by have := h.m64; omega
  have HDie := hide (die_in h hp0)
  have hbc := h.boxCell
  obtain ⟨V, hV⟩ : ∃ V, V = (w.alloc (.cells #[q8 P.n, q8 P.m] 5)).alloc (.cells #[.slice (some ⟨w.heap.size, 0, none⟩) 2 2] 43) := ⟨_, rfl⟩
  have hg : w.grownBy V none := by rw [hV]; exact grownBy_alloc' (World.grownBy_alloc w _ none) _
  have hbV : V.cell? ⟨P.p, 0, none⟩ = some (sl0 P.d P.n) := (cell_of_block (hg.block _ (lt_of_heap h.box) (by simp))).trans hbc
  have hI0 : BytesI w P f 0 [] V := by
    have hb := Boxed.new (w.alloc (.cells #[q8 P.n, q8 P.m] 5)) 43 (.slice (some ⟨w.heap.size, 0, none⟩) 2 2)
    rw [World.size_alloc, ← hV] at hb
    have hr : V.heap[w.heap.size]? = some (.cells #[q8 P.n, q8 P.m] 5) := by rw [hV, Below.heap_alloc _ _ _ (by simp)]; exact heap_alloc_new w _
    refine ⟨⟨_, hb, rfl, .inr ⟨w.heap.size, 2, _, rfl, Nat.le_refl _, hr, Nat.le_refl _, by unfold maxLen; omega, rfl, rfl⟩⟩, h.grown hg, below_of_grown hg, Marked.nil _, fun _ hh => absurd hh List.not_mem_nil⟩
  have HV := hide hV
  have HI0 := hide hI0
  have HP := hide h
  have HG := hide hG
  clear h hG hV hI0 hg
  refine callsIn_of_wp_marks Tryd.func22 rfl trivial ?_ rfl
  simp only [Tryd.ntmps22, List.size_toArray, List.length_cons, List.length_nil, Nat.reduceAdd, Nat.reduceSub, Array.replicate_succ, Array.replicate_zero, List.push_toArray, List.append_toArray, List.nil_append, List.cons_append]
  gi_wp2_with (first | (refine ⟨trivial, ?_⟩; gi_at_call 27; refine (callsIn_wide.2 HDie.out).mono ?_; rintro e w ⟨rfl, rfl⟩) | (rw [← HV.out]))
  refine wpIn_loop (fun a W => ∃ (k : Nat) (rs : List Nat) (v6 v29 v30 v31 v32 v33 v67 : Value), k ≤ P.n ∧ a = bytesAct w P k rs v6 v29 v30 v31 v32 v33 v67 ∧ BytesI w P f k rs W) (fun a _ => P.n - (intOf (a.tmps.getD 28 undef)).toNat) ?h0 ?round
  case h0 => exact ⟨0, [], undef, undef, undef, undef, undef, undef, undef, Nat.zero_le _, rfl, HI0.out⟩
  case round =>
    clear HI0 HV hbV hbc HDie hno
    rintro a W ⟨k, rs, v6, v29, v30, v31, v32, v33, v67, hk, rfl, hI⟩
    by_cases hkn : k < P.n
    · have q1 : (k : Int) < (P.n : Int) := by omega
      have c1 := hI.pool.die k hkn
      have hlw := HP.out.low
      have HI := hide hI
      have bN := Boxed.new W 54 (sl0 (P.b k) P.m)
      have hsz := hI.low.size
      have hrow := hI.row.elim fun v hv => hv.1.lt
      clear hI
      gi_wp2_with (first | (refine ⟨trivial, ?_⟩; gi_at_call 28; refine (all_in Fence.wide (3 - 1) trivial rfl _ _ _ _).mono ?_; rintro e w' ⟨rfl, rfl⟩))
      refine wpIn_rangeFunc_ownG rfl h1 (gf := 42) (lb := #[.pointer (some ⟨W.heap.size, 0, none⟩)]) rfl trivial (enters_of Tryd.func42 (by kernel_rfl) rfl)
        (all_stops Fence.wide (3 - 1) trivial rfl (by omega) W.heap.size (P.b k) P.m (by omega) _ (.inl rfl) _ (by simp) bN.cell) keepB_t (keepB_b (by simp)) (Below.refl _ _) (fun _ => rfl)
        (fun pre W' => RowB w.heap.size (w.heap.size + 1) (poolB f P.n P.m k ++ dieB (f k) pre) W' ∧ (PoolM W' P f ∧ (Below w.heap.size w W' ∧ (KeepsFrom 0 W W' ∧ Boxed W' W.heap.size 54 (sl0 (P.b k) P.m)))))
        (fun _ _ _ => False)
        ?hown
        (fun _ _ _ _ _ hs _ _ => hs)
        ⟨by
          obtain ⟨v, hv1, hv2⟩ := HI.out.row
          have e : poolB f P.n P.m k ++ dieB (f k) ([] : List (Fin P.m)) = poolB f P.n P.m k := by simp [dieB]
          rw [e]
          exact ⟨v, hv1.alloc _, hv2.alloc _⟩, HI.out.pool.grown (World.grownBy_alloc _ _ none), HI.out.low.alloc hsz _, (KeepsOthers.alloc _ _).from _, bN⟩
        ?a1 ?assign ?body ?done ?stop
      case hown =>
        refine OwnFrom.and (rowB_ownFrom _ _ _ _) (OwnFrom.and (poolM_ownFrom _ _ _) (OwnFrom.and (ownFrom_below (Nat.le_refl _) (by simp; omega)) (OwnFrom.and ?_ (Own.from (boxed_own _ _ (fun _ => sl0 (P.b k) P.m)) _))))
        exact ownFrom_keepsFrom (by simp)
      case assign =>
        intro l x W' K hK
        gi_wp2
        exact hK
      case body =>
        rintro l pre x W' ⟨⟨v, hb, hown⟩, hP, hB, hM, hbx⟩ hpre
        have c0 := hP.st k x.1 hkn x.2
        have ce := hP.er k x.1 hkn x.2
        have hs1 := hP.s1 k x.1 hkn x.2
        have hs4 := hP.s4 k x.1 hkn x.2
        have he1 := hP.e1 k x.1 hkn x.2
        obtain ⟨s, hs⟩ : ∃ s : Nat, (f k x.1).st = (s : Int) := ⟨(f k x.1).st.toNat, by omega⟩
        have hblk : blkB (f k x.1) = [s, (f k x.1).er % 256, (f k x.1).er / 256 % 256, (f k x.1).er / 65536 % 256, (f k x.1).er / 16777216 % 256] := by unfold blkB; rw [hs]; rfl
        rw [hs] at c0
        generalize (f k x.1).er = e at ce he1 hblk
        have HQ : ∀ (a' : Act) W4, RowB w.heap.size (w.heap.size + 1) ((poolB f P.n P.m k ++ dieB (f k) pre) ++ [s, e % 256, e / 256 % 256, e / 65536 % 256, e / 16777216 % 256]) W4 → KeepsOthers W' W4 → Below w.heap.size W' W4 → (∀ x t u, Boxed W' x t u → t ≠ 5 → x ≠ w.heap.size + 1 → W4.heap[x]? = W'.heap[x]?) →
            ownPostG (W.alloc (.cells #[sl0 (P.b k) P.m] 54)).heap.size (KeepB W.heap.size) (fun pre W' => RowB w.heap.size (w.heap.size + 1) (poolB f P.n P.m k ++ dieB (f k) pre) W' ∧ (PoolM W' P f ∧ (Below w.heap.size w W' ∧ (KeepsFrom 0 W W' ∧ Boxed W' W.heap.size 54 (sl0 (P.b k) P.m))))) (fun _ _ _ => False) (pre ++ [x]) W' .normal a' W4 := fun a' W4 h1 h2 h3 h4 => by
          have h5 := h4 W.heap.size _ _ hbx (by decide) (by omega)
          refine ⟨h2.from _, h5, ?_, HP.out.keep hP ⟨h3.os, h3.tape, h3.output, h3.size, fun g _ hk => h3.block g (by omega)⟩, hB.trans h3, hM.trans (h2.from _), h5.trans hbx⟩
          rw [dieB_snoc, hblk, ← List.append_assoc]; exact h1
        have hbl := hlw.2.2 k hkn
        have hSl : (poolB f P.n P.m k ++ dieB (f k) pre).length ≤ 100000 := by
          rw [List.length_append, poolB_len, dieB_len]
          have : k * (5 * P.m) ≤ 8 * (5 * P.m) := Nat.mul_le_mul_right _ (by omega)
          omega
        have f0 : IntKind.u8.wrap (e : Int) = ((e % 256 : Nat) : Int) := by rw [IntKind.wrap_u8]; omega
        have f1 : IntKind.u8.wrap ((e : Int) / 256) = ((e / 256 % 256 : Nat) : Int) := by rw [IntKind.wrap_u8]; omega
        have f2 : IntKind.u8.wrap ((e : Int) / 65536) = ((e / 65536 % 256 : Nat) : Int) := by rw [IntKind.wrap_u8]; omega
        have f3 : IntKind.u8.wrap ((e : Int) / 16777216) = ((e / 16777216 % 256 : Nat) : Int) := by rw [IntKind.wrap_u8]; omega
        have fs : IntKind.u8.wrap (s : Int) = (s : Int) := by rw [IntKind.wrap_u8]; omega
        have HH := hide HQ
        have hbs := hB.size
        have hb64 : w.heap.size ≤ w.heap.size + 1 := by omega
        clear HQ hblk hs hs1 hs4 he1 hM hbx hpre
        gi_wp2
        exact bytes_region (fun h => by obtain ⟨_, _, h⟩ := h; exact h) (fun _ _ _ _ h => h) _ _ _ _ _ _ _ _ _ _ _ _ _ _ _ _ _ _ _ _ _ _ _ _ _ _ _ _ _ _ _ _ _ _ _ _ _ _ _ _ _ _ _ _ _ _ _ _ _ _ _ _ _ _ _ _ _ _ _ _ _ _ _ _ _ _ _ _ c0 ce f0 f1 f2 f3 fs hb hown hbs hb64 hbl hSl HH.out
      case done =>
        rintro D ys W' hD rfl ⟨hr, hP, hB, hM, hbx⟩ hK
        have HF := hide (show RowB w.heap.size (w.heap.size + 1) (poolB f P.n P.m (k + 1)) W' by rw [poolB_succ]; exact hr)
        have HK := hide hK
        have HM := hide hM
        have HPP := hide hP
        have HBB := hide hB
        simp at hD
        clear hr hP hB hM hbx hK
        gi_wp2
        refine ⟨⟨k + 1, D :: rs, _, _, _, _, _, _, _, by omega, rfl, ⟨HF.out, HPP.out, HBB.out, ⟨List.nodup_cons.2 ⟨fun h => ?_, HI.out.marks.one⟩, fun r hr => ?_⟩, fun r hr => ?_⟩⟩, ?_⟩
        · have := lt_of_heap (HI.out.marks.at_ D h); omega
        · rcases List.mem_cons.1 hr with rfl | hr
          · exact HK.out
          · exact HM.out.same r _ (Nat.zero_le _) (HI.out.marks.at_ r hr) rfl
        · rcases List.mem_cons.1 hr with rfl | hr
          · omega
          · exact HI.out.ge r hr
        · simp [intOf]; omega
      case stop =>
        rintro D c pre W' _ _ h _
        exact h.elim
    · obtain rfl : k = P.n := by omega
      have q1 : ¬ (P.n : Int) < (P.n : Int) := by omega
      obtain ⟨v, hb, hown⟩ := hI.row
      obtain ⟨ao, cap, rfl, hrd⟩ := Cr.rd_own hown (poolB_le HP.out)
      have hbl : (poolB f P.n P.m P.n).length ≤ 140737488355328 := by
        rw [poolB_len]
        have : P.n * (5 * P.m) ≤ 8 * (5 * P.m) := Nat.mul_le_mul_right _ (by omega)
        omega
      have hGW : Glob W := HG.out.more (grown_of_below hI.low)
      have hbc := hb.cell
      have HI := hide hI
      clear hI hown hb
      obtain ⟨bs, hbs⟩ : ∃ bs, poolB f P.n P.m P.n = bs := ⟨_, rfl⟩
      rw [hbs] at hbc hrd hbl
      have HBS := hide hbs
      have HS := hide (Cr.seal_ok hGW ao cap bs hrd hbl)
      clear hrd hbl hGW hbs
      gi_wp2_with (first | (refine ⟨trivial, ?_⟩; gi_at_call 41; refine (callsIn_wide.2 HS.out).mono ?_; rintro e w6 ⟨g, rfl, hg1, hg2, hg3⟩))
      have hm6 : Marked rs w6 := HI.out.marks.kept fun g hg => hg2.block g (lt_of_heap (HI.out.marks.at_ g hg)) (by simp)
      refine leaves_marks rs w6 hm6 fun w7 s7 => ?_
      refine ⟨_, results_tmp rfl _ _ _, ?_⟩
      rw [HBS.out]
      refine ⟨g, rfl, ?_, ?_, ?_⟩
      · have := HI.out.low.size; omega
      · have hle := HI.out.low.size
        refine grown_of_below (HI.out.low.trans ((below_of_grown hg2).mono hle |>.trans (s7.below (by have := hg2.size; omega) fun r hr => by have := HI.out.ge r hr; omega)))
      · exact ⟨s7.obj (fun hr => by have := lt_of_heap (HI.out.marks.at_ g hr); omega) hg3.1, hg3.2⟩
end Bk
end Go.Proofs.YtoakokpeomlkjaaDoor
