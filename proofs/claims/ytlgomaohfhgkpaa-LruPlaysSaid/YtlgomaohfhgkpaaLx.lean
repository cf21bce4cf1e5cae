/- Layer 10 (lru): Clean. -/
import Derived.Test.YtlgomaohfhgkpaaLw
namespace Go.Proofs.Ytlgomaohfhgkpaa
open Go.RowKit Go.Maps Go.Shelf
namespace Lr
attribute [local go_sem] Oper.semAt_some
def CleanPost (w : World) (c : Nat) (most : Int) (S : Nat → Prop) (L : List Ent) (lo hi : Int) (e : Ending) (w' : World) : Prop :=
  ∃ v X, e = .returned v ∧ X.Perm (L.filter (isD lo hi)) ∧ Rise X ∧ w'.ownsRow w.heap.size 37 3 v X.length (entC X) ∧ CL w' c most (fun g => S g ∧ g < w.heap.size) (L.map (wash lo hi)) ∧ Stp S w w'
set_option maxRecDepth 100000 in
set_option maxHeartbeats 4000000 in
theorem Clean_ok {w : World} {c : Nat} {most : Int} {S : Nat → Prop} {L : List Ent} (h : CL w c most S L) (hL : L.length ≤ 1000000) (lo hi : Int) : Calls Try.prog 17 #[ptr c, num lo, num hi] w (CleanPost w c most S L lo hi) := by
  obtain ⟨m, e, bs, ent, pv, nx, K, hM, rfl, hs, hB⟩ := h
  have hcl := lt_of_heap hM.box
  have hMlt := hM.lt
  rw [List.length_map] at hL
  refine (callsIn_wide (n := 3)).1 ?_
  have h1 : 1 ≤ 3 := by omega
  obtain ⟨V0, hV0⟩ : ∃ V0, V0 = w.alloc (.cells #[num lo] 3) := ⟨_, rfl⟩
  have hg0 : w.grownBy V0 none := by rw [hV0]; exact World.grownBy_alloc w _ none
  have hs0 : V0.heap.size = w.heap.size + 1 := by rw [hV0]; simp
  have hl0 : Boxed V0 w.heap.size 3 (num lo) := by rw [hV0]; exact Boxed.new w _ _
  obtain ⟨V1, hV1⟩ : ∃ V1, V1 = V0.alloc (.cells #[num hi] 3) := ⟨_, rfl⟩
  have hg1 : V0.grownBy V1 none := by rw [hV1]; exact World.grownBy_alloc V0 _ none
  have hs1 : V1.heap.size = w.heap.size + 2 := by rw [hV1]; simp [hs0]
  have hl1 : Boxed V1 w.heap.size 3 (num lo) := hl0.kept hg1 (by simp)
  have hh1 : Boxed V1 (w.heap.size + 1) 3 (num hi) := by rw [hV1, ← hs0]; exact Boxed.new V0 _ _
  obtain ⟨V, hV⟩ : ∃ V, V = V1.alloc (.cells #[nilS] 47) := ⟨_, rfl⟩
  have hgV : V1.grownBy V none := by rw [hV]; exact World.grownBy_alloc V1 _ none
  have hsV : V.heap.size = w.heap.size + 3 := by rw [hV]; simp [hs1]
  have hbV : Boxed V (w.heap.size + 2) 47 nilS := by rw [hV, ← hs1]; exact Boxed.new V1 _ _
  have hlV := hl1.kept hgV (by simp)
  have hhV := hh1.kept hgV (by simp)
  obtain ⟨U, hU⟩ : ∃ U, U = V.alloc (.cells #[ptr c] 24) := ⟨_, rfl⟩
  have hgU : V.grownBy U none := by rw [hU]; exact World.grownBy_alloc V _ none
  have hsU : U.heap.size = w.heap.size + 4 := by rw [hU]; simp [hsV]
  have hbU : Boxed U (w.heap.size + 2) 47 nilS := hbV.kept hgU (by simp)
  have hlU := hlV.kept hgU (by simp)
  have hhU := hhV.kept hgU (by simp)
  have hiU : Boxed U (w.heap.size + 3) 24 (ptr c) := by rw [hU, ← hsV]; exact Boxed.new V _ _
  have hgAll := grownBy_trans (grownBy_trans hg0 hg1) (grownBy_trans hgV hgU)
  have hMU : CacheM U c m e most bs ent pv nx K := hM.stp (T := No) (.of_grown hgAll) (fun k => k) (fun _ _ k => k)
  have hStU : Stp (In bs) w U := (show Stp No w U from .of_grown hgAll).more (fun _ k => False.elim k)
  have H0 := hide hV0
  have Hs0 := hide hs0
  have H1 := hide hV1
  have Hs1 := hide hs1
  have HV := hide hV
  have HU := hide hU
  have HsV := hide hsV
  clear hV0 hV1 hV hU hgV hgU hbV hsV hM hg0 hg1 hl0 hl1 hh1 hlV hhV hs0 hs1 hgAll
  refine callsIn_of_wp_marks Try.func17 rfl trivial ?_ rfl
  simp only [Try.ntmps17, List.size_toArray, List.length_cons, List.length_nil, Nat.reduceAdd, Nat.reduceSub, Array.replicate_succ, Array.replicate_zero, List.push_toArray, List.append_toArray, List.nil_append, List.cons_append]
  gi_wp2_with (first | (rw [← H0.out]) | (rw [← H1.out]) | (rw [← HV.out]) | (refine ⟨trivial, ?_⟩; gi_at_call 32; refine (all_in Fence.wide (3 - 1) trivial rfl _ _).mono ?_; rintro r U' ⟨rfl, hw'⟩; rw [← HU.out] at hw'; subst hw'))
  rw [HsV.out, Hs0.out, Hs1.out]
  have HM := hide hMU
  have HC := hide hcl
  have hC : w.heap.size ≤ U'.heap.size := by omega
  refine wpIn_rangeFunc_ownG rfl h1 (gf := 38) (lb := #[.pointer (some ⟨w.heap.size + 3, 0, none⟩)]) rfl trivial (enters_of Try.func38 (by kernel_rfl) rfl)
    (all_stops (3 - 1) (by omega) (B := w.heap.size + 3) hMU (by omega) hiU.cell) keepR_t (keepR_b (by omega) (by omega) (fun b hb => by have := hMlt b (List.mem_cons_of_mem _ hb); omega)) (Below.refl _ _) (fun _ => rfl)
    (fun pre W' => ClI w c m e most bs ent pv nx K lo hi pre W')
    (fun _ _ _ => False)
    ?hown
    (fun _ _ _ _ _ hs _ _ => hs)
    ⟨⟨nilS, hbU, World.ownsRow_nil _ _ _ _⟩, hMU, hStU, hiU, hlU, hhU⟩
    ?a1 ?assign ?body ?done ?stop
  case hown => exact clI_own hcl hMlt hC
  case assign =>
    intro l x W' K hK
    gi_wp2
    exact hK
  case body =>
    rintro l pre x W' hI hpre
    have hws := hI.stp.size
    have hxm : bs[x] ∈ e :: bs := List.mem_cons_of_mem _ (List.getElem_mem x.2)
    have hxl : bs[x] < w.heap.size := hMlt _ (List.mem_cons_of_mem _ hxm)
    have hlk := hI.cache.links bs[x] hxm
    obtain ⟨E, hE⟩ : ∃ E, E = (clF lo hi bs ent pre).1 bs[x] := ⟨_, rfl⟩
    rw [← hE] at hlk
    obtain ⟨Wa, hWa⟩ : ∃ Wa, Wa = W'.alloc (entO E) := ⟨_, rfl⟩
    have hga : W'.grownBy Wa none := by rw [hWa]; exact World.grownBy_alloc _ _ none
    have hsa : Wa.heap.size = W'.heap.size + 1 := by rw [hWa]; simp
    have hea : Wa.heap[W'.heap.size]? = some (entO E) := by rw [hWa]; exact heap_alloc_new _ _
    obtain ⟨a0, a1, a2⟩ := cells3 hea
    have alo := (hI.lob.kept hga (by simp)).cell
    have ahi := (hI.hib.kept hga (by simp)).cell
    obtain ⟨v, hb, hown⟩ := hI.row
    have hba : Boxed Wa (w.heap.size + 2) 47 v := hb.kept hga (by simp)
    have howna : Wa.ownsRow w.heap.size 37 3 v (clF lo hi bs ent pre).2.length (entC (clF lo hi bs ent pre).2) := by rw [hWa]; exact hown.alloc _
    have hlka : LinkM Wa bs[x] E (pv bs[x]) (nx bs[x]) := hlk.of_heap (hga.block _ (by omega) (by simp))
    have hpl : (clF lo hi bs ent pre).2.length ≤ 1000000 := by have := clF_len lo hi bs ent pre; omega
    have c0 := hlk.key
    have c1 := hlk.val
    have c2 := hlk.dirty
    have cb := hba.cell
    have HI := hide hI
    have HWa := hide hWa
    have HE := hide hE
    have Hskip : isD lo hi E = false → ∀ a', ownPostG U'.heap.size (KeepR (w.heap.size + 3) c e bs) (fun pre W' => ClI w c m e most bs ent pv nx K lo hi pre W') (fun _ _ _ => False) (pre ++ [x]) W' .normal a' Wa := fun hD a' => by
      obtain ⟨k1, k2⟩ := hI.skip (by rw [← hE]; exact hD) (entO E)
      rw [hWa]
      exact ⟨(KeepsOthers.alloc W' _).from _, k1, k2⟩
    have Htake : isD lo hi E = true → ∀ W4, ApPost Wa w.heap.size (w.heap.size + 2) (clF lo hi bs ent pre).2 E W4 → LinkM W4 bs[x] E (pv bs[x]) (nx bs[x]) ∧ ∀ a', ownPostG U'.heap.size (KeepR (w.heap.size + 3) c e bs) (fun pre W' => ClI w c m e most bs ent pv nx K lo hi pre W') (fun _ _ _ => False) (pre ++ [x]) W' .normal a' (W4.setCell ⟨bs[x], 2, none⟩ (.bool false)) := fun hD W4 h4 => by
      refine ⟨hlka.of_heap (h4.old _ (by omega) (by omega) (fun v2 hv2 e1 => ?_)), fun a' => ?_⟩
      · have : v2 = v := by
          have := hv2.symm.trans hba
          simpa [Boxed] using this
        rw [this] at e1
        have := (howna.lt _ e1.symm).1
        omega
      · rw [hWa, hE] at h4
        obtain ⟨k0, k1, k2⟩ := hI.take hcl hMlt _ h4 (by rw [← hE]; exact hD)
        exact ⟨k0.from _, k1, k2⟩
    have Hsk := hide Hskip
    have Htk := hide Htake
    have hOW := hide howna
    have hBA := hide hba
    have hPL := hide hpl
    have hSA := hide hsa
    have hWS := hide hws
    clear hI hE hWa Hskip Htake hlk hlka hown howna hb hba hpl hsa hws hxl hga hea hpre HI HE hxm
    generalize bs[x] = b at *
    by_cases hD : E.dirty = true
    · rw [hD] at a2 c2
      by_cases hl : lo ≤ E.key
      · have hld : decide (lo ≤ E.key) = true := by simp [hl]
        by_cases hh : E.key < hi
        · have hhd : decide (E.key < hi) = true := by simp [hh]
          have hisD : isD lo hi E = true := by simp [isD, hD, hl, hh]
          clear hl hh
          obtain ⟨Wb, hWb⟩ : ∃ Wb, Wb = Wa.alloc (entO E) := ⟨_, rfl⟩
          have HWb : Hid (Wb = Wa.alloc (.cells #[num E.key, u64v E.val, .bool true] 37)) := by rw [Hid, hWb, entO, hD]
          have HWb2 := hide hWb
          clear hWb
          gi_wp2_with (first
            | (refine wpListIn_store_new rfl (.tmp 9) (.tmp 16) rfl zeroE E rfl (by simp only [entV, hD]; rfl) ?_)
            | (rw [← HWa.out])
            | (rw [← HWb.out])
            | (gi_at_builtin; refine wpListIn_append_ent HWb2.out rfl (.tmp 31) (.tmp 33) rfl hBA.out hOW.out (by have := hSA.out; have := hWS.out; omega) (by omega) hPL.out rfl rfl ?_; intro p k2 cp W2 W4 hc2 hf2 hW4 hp4; obtain ⟨hl4, hK4⟩ := Htk.out hisD W4 hp4; have q2 := hl4.dirty; have qf := hl4.free 2; have HW4 := hide hW4; have HK4 := hide hK4; clear hW4 hp4 hl4 hK4)
            | (rw [← HW4.out]))
          exact HK4.out _
        · have hhd : decide (E.key < hi) = false := by simp [hh]
          have hno := Hsk.out (by simp [isD, hh])
          clear hl hh
          gi_wp2_with (first
            | (refine wpListIn_store_new rfl (.tmp 9) (.tmp 16) rfl zeroE E rfl (by simp only [entV, hD]; rfl) ?_)
            | (rw [← HWa.out]))
          exact hno _
      · have hld : decide (lo ≤ E.key) = false := by simp [hl]
        have hno := Hsk.out (by simp [isD, hl])
        clear hl
        gi_wp2_with (first
          | (refine wpListIn_store_new rfl (.tmp 9) (.tmp 16) rfl zeroE E rfl (by simp only [entV, hD]; rfl) ?_)
          | (rw [← HWa.out]))
        exact hno _
    · have hD' : E.dirty = false := by simpa using hD
      rw [hD'] at a2 c2
      have hno := Hsk.out (by simp [isD, hD'])
      clear hD
      gi_wp2_with (first
        | (refine wpListIn_store_new rfl (.tmp 9) (.tmp 16) rfl zeroE E rfl (by simp only [entV, hD']; rfl) ?_)
        | (rw [← HWa.out]))
      exact hno _
  case done =>
    rintro D ys W' hD rfl hI hK
    have hF := clF_all lo hi (List.nodup_cons.1 HM.out.nd).2 ent
    obtain ⟨v, hb, hown⟩ := hI.row
    have hlen : (clF lo hi bs ent (List.finRange bs.length)).2.length ≤ 1000000 := by have := clF_len lo hi bs ent (List.finRange bs.length); simp at this; omega
    have hbc := hb.cell
    have hDs : w.heap.size ≤ D := by omega
    have hnB : v.ownBlock ≠ some (w.heap.size + 2) := fun e1 => hb.not_row (by decide) hown e1.symm
    have hnD : v.ownBlock ≠ some D := fun e1 => by
      rcases hown.2 with ⟨rfl, _⟩ | ⟨g, cap, cur, rfl, _, hg, _⟩
      · simp [Value.ownBlock] at e1
      · simp [Value.ownBlock] at e1
        subst e1
        rw [hg] at hK
        cases hK
    have hnl : ∀ g, g < w.heap.size → v.ownBlock ≠ some g := fun g hg e1 => by have := (hown.lt g e1).1; omega
    have HS := hide ((callsIn_wide (n := 3 - 1)).2 (Sort_ok hown hlen))
    have HI := hide hI
    have HK := hide hK
    have HF := hide hF
    have HB := hide hb
    have HnB := hide hnB
    have HnD := hide hnD
    have Hnl := hide hnl
    clear hI hK HM hb hown hF hnB hnD hnl hlen
    gi_wp2_with (first | (refine ⟨trivial, ?_⟩; gi_at_call 33; refine (HS.out).mono ?_; rintro r W8 ⟨rfl, X, hp, hr, ho8, hg8⟩; have hb8 : W8.cell? ⟨w.heap.size + 2, 0, none⟩ = some v := (cell_of_block (hg8.block _ HB.out.lt (fun e1 => HnB.out e1.symm))).trans hbc; have HX := hide hp; have HR := hide hr; have HO := hide ho8; have HG := hide hg8; clear hp hr ho8 hg8))
    have hm : Marked [D] W8 := ⟨by simp, fun r hr => by
      rw [List.mem_singleton.1 hr]
      exact (HG.out.block D (lt_of_heap HK.out) (fun e1 => HnD.out e1.symm)).trans HK.out⟩
    refine leaves_marks [D] W8 hm fun w7 s7 => ?_
    have h8s := HG.out.size
    have hws := HI.out.stp.size
    have eo : ∀ g, g < w.heap.size → w7.heap[g]? = W'.heap[g]? := fun g hg => (s7.same g (by omega) (fun h => by have := List.mem_singleton.1 h; omega)).trans (HG.out.block g (by omega) (fun e1 => Hnl.out g hg e1.symm))
    have hst : Stp (fun g => w.heap.size ≤ g) W' w7 := ⟨s7.os.trans HG.out.os, s7.tape.trans HG.out.tape, s7.output.trans HG.out.output, Nat.le_trans h8s s7.size, fun g _ hn => eo g (by omega)⟩
    have hM7 := HI.out.cache.stp hst (by have := HC.out; omega) (fun b hb => by have := hMlt b hb; omega)
    refine ⟨_, results_tmp rfl _ _ _, v, X, rfl, ?_, HR.out, ?_, ⟨m, e, bs, _, pv, nx, K, hM7, HF.out.1.symm, ⟨hs, HC.out⟩, fun b hb => ⟨hB b hb, hMlt b hb⟩⟩, ?_⟩
    · rw [← HF.out.2]; exact HX.out
    · exact HO.out.kept (row := some D) ⟨s7.os, s7.tape, s7.output, s7.size, fun g hg hn => s7.same g hg (fun h => hn (by rw [List.mem_singleton.1 h]))⟩ (.inr HnD.out)
    · have h1 := HI.out.stp
      exact ⟨hst.os.trans h1.os, hst.tape.trans h1.tape, hst.output.trans h1.output, Nat.le_trans h1.size hst.size, fun g hg hn => (eo g hg).trans (h1.same g hg (fun hb => hn (hB g (List.mem_cons_of_mem _ (List.mem_cons_of_mem _ hb)))))⟩
  case stop =>
    rintro D c2 pre W' _ _ h _
    exact h.elim
end Lr
end Go.Proofs.Ytlgomaohfhgkpaa
