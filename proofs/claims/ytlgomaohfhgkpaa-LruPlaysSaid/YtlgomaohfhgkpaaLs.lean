/- Layer 10 (lru): All. -/
import Derived.Test.YtlgomaohfhgkpaaLq
namespace Go.Proofs.Ytlgomaohfhgkpaa
open Go.RowKit Go.Maps Go.Shelf
namespace Lr
attribute [local go_sem] Oper.semAt_some
theorem cacheM_ownFrom {β : Type} {C c m e : Nat} {most : Int} {bs : List Nat} {ent : Nat → Ent} {pv nx : Nat → Nat} {K : Int → Option Nat} (hc : c < C) (hb : ∀ b ∈ m :: e :: bs, b < C) : OwnFrom (β := β) C (fun _ W => CacheM W c m e most bs ent pv nx K) := fun _ _ _ _ hs hg hr =>
  hs.stp (stp_of_row hg) (fun h => by have := (hr c h).1; omega) (fun b hbm h => by have := (hr b h).1; have := hb b hbm; omega)
theorem map_finRange {α : Type} (l : List Nat) (f : Nat → α) : (List.finRange l.length).map (fun x => f l[x]) = l.map f := by
  apply List.ext_getElem
  · simp
  · intro i h1 h2; simp
def AllPost (w : World) (L : List Ent) (e : Ending) (w' : World) : Prop := ∃ v, e = .returned v ∧ w'.ownsRow w.heap.size 37 3 v L.length (entC L) ∧ w.grownBy w' none
abbrev nilS : Value := .slice none 0 0
set_option maxRecDepth 100000 in
set_option maxHeartbeats 4000000 in
theorem All_ok {w : World} {c : Nat} {most : Int} {S : Nat → Prop} {L : List Ent} (h : CL w c most S L) (hL : L.length ≤ 1000000) : Calls Try.prog 22 #[ptr c] w (AllPost w L) := by
  obtain ⟨m, e, bs, ent, pv, nx, K, hM, rfl, -, -⟩ := h
  have hcl := lt_of_heap hM.box
  have hMlt := hM.lt
  rw [List.length_map] at hL
  refine (callsIn_wide (n := 3)).1 ?_
  have h1 : 1 ≤ 3 := by omega
  obtain ⟨V, hV⟩ : ∃ V, V = w.alloc (.cells #[nilS] 47) := ⟨_, rfl⟩
  have hgV : w.grownBy V none := by rw [hV]; exact World.grownBy_alloc w _ none
  have hsV : V.heap.size = w.heap.size + 1 := by rw [hV]; simp
  have hbV : Boxed V w.heap.size 47 nilS := by rw [hV]; exact Boxed.new w _ _
  obtain ⟨U, hU⟩ : ∃ U, U = V.alloc (.cells #[ptr c] 24) := ⟨_, rfl⟩
  have hgU : V.grownBy U none := by rw [hU]; exact World.grownBy_alloc V _ none
  have hsU : U.heap.size = w.heap.size + 2 := by rw [hU]; simp [hsV]
  have hbU : Boxed U w.heap.size 47 nilS := hbV.kept hgU (by simp)
  have hiU : Boxed U (w.heap.size + 1) 24 (ptr c) := by rw [hU, ← hsV]; exact Boxed.new V _ _
  have hMU : CacheM U c m e most bs ent pv nx K := hM.stp (T := No) (.of_grown (grownBy_trans hgV hgU)) (fun k => k) (fun _ _ k => k)
  have HV := hide hV
  have HU := hide hU
  have HsV := hide hsV
  have hlU : Below w.heap.size w U := below_of_grown (grownBy_trans hgV hgU)
  clear hV hU hgV hgU hbV hsV hM
  refine callsIn_of_wp_marks Try.func22 rfl trivial ?_ rfl
  simp only [Try.ntmps22, List.size_toArray, List.length_cons, List.length_nil, Nat.reduceAdd, Nat.reduceSub, Array.replicate_succ, Array.replicate_zero, List.push_toArray, List.append_toArray, List.nil_append, List.cons_append]
  gi_wp2_with (first | (rw [← HV.out]) | (refine ⟨trivial, ?_⟩; gi_at_call 32; refine (all_in Fence.wide (3 - 1) trivial rfl _ _).mono ?_; rintro r U' ⟨rfl, hw'⟩; rw [← HU.out] at hw'; subst hw'))
  rw [HsV.out]
  have HM := hide hMU
  refine wpIn_rangeFunc_ownG rfl h1 (gf := 38) (lb := #[.pointer (some ⟨w.heap.size + 1, 0, none⟩)]) rfl trivial (enters_of Try.func38 (by kernel_rfl) rfl)
    (all_stops (3 - 1) (by omega) (B := w.heap.size + 1) hMU (by omega) hiU.cell) keepR_t (keepR_b (by omega) (by omega) (fun b hb => by have := hMlt b (List.mem_cons_of_mem _ hb); omega)) (Below.refl _ _) (fun _ => rfl)
    (fun pre W' => RowE w.heap.size w.heap.size (pre.map fun x => ent bs[x]) W' ∧ (CacheM W' c m e most bs ent pv nx K ∧ (Below w.heap.size w W' ∧ Boxed W' (w.heap.size + 1) 24 (ptr c))))
    (fun _ _ _ => False)
    ?hown
    (fun _ _ _ _ _ hs _ _ => hs)
    ⟨⟨nilS, hbU, by simp; exact World.ownsRow_nil _ _ _ _⟩, hMU, hlU, hiU⟩
    ?a1 ?assign ?body ?done ?stop
  case hown =>
    exact OwnFrom.and (rowE_ownFrom _ _ _ _) (OwnFrom.and (cacheM_ownFrom (by omega) (fun b hb => by have := hMlt b hb; omega)) (OwnFrom.and (ownFrom_below (Nat.le_refl _) (by omega)) (Own.from (boxed_own _ _ (fun _ => ptr c)) _)))
  case assign =>
    intro l x W' K hK
    gi_wp2
    exact hK
  case body =>
    rintro l pre x W' ⟨⟨v, hb, hown⟩, hM, hB, hbx⟩ hpre
    have hlk := hM.links bs[x] (List.mem_cons_of_mem _ (List.getElem_mem x.2))
    have hxl : bs[x] < w.heap.size := hMlt _ (by simp)
    have hnv : ∀ g, g < w.heap.size → some g ≠ v.ownBlock := fun g hg e1 => by have := (hown.lt g e1.symm).1; omega
    have hbs := hB.size
    have hpl : (pre.map fun x => ent bs[x]).length ≤ 1000000 := by rw [List.length_map]; omega
    have HQ : ∀ (a' : Act) W4, ApPost W' w.heap.size w.heap.size (pre.map fun x => ent bs[x]) (ent bs[x]) W4 →
        ownPostG U'.heap.size (KeepR (w.heap.size + 1) c e bs) (fun pre W' => RowE w.heap.size w.heap.size (pre.map fun x => ent bs[x]) W' ∧ (CacheM W' c m e most bs ent pv nx K ∧ (Below w.heap.size w W' ∧ Boxed W' (w.heap.size + 1) 24 (ptr c)))) (fun _ _ _ => False) (pre ++ [x]) W' .normal a' W4 := fun a' W4 h4 => by
      have eo : ∀ g, g < w.heap.size → W4.heap[g]? = W'.heap[g]? := fun g hg => h4.old g (by omega) (by omega) (fun v2 hv2 => by
        have : v2 = v := by
          have := hv2.symm.trans hb
          simpa [Boxed] using this
        rw [this]; exact hnv g hg)
      have ei : W4.heap[w.heap.size + 1]? = W'.heap[w.heap.size + 1]? := h4.old _ hbx.lt (by omega) (fun v2 hv2 => by
        have : v2 = v := by
          have := hv2.symm.trans hb
          simpa [Boxed] using this
        rw [this]
        exact hbx.not_row (by decide) hown)
      have hs : Stp (fun g => w.heap.size ≤ g) W' W4 := ⟨h4.low.os, h4.low.tape, h4.low.output, h4.low.size, fun g _ hg => eo g (by omega)⟩
      refine ⟨h4.keep.from _, ⟨ei, eo c hcl, fun b hbm => ?_⟩, ?_, hM.stp hs (by omega) (fun b hbm => by have := hMlt b hbm; omega), hB.trans h4.low, ei.trans hbx⟩
      · have := eo b (hMlt b (List.mem_cons_of_mem _ hbm))
        exact ⟨cell_of_block this, fun ⟨L, hL⟩ => ⟨L, this.trans hL⟩⟩
      · rw [List.map_append]; exact h4.row
    gi_wp2
    exact apa_region (fun h => by obtain ⟨_, _, h⟩ := h; exact h) (fun _ _ _ _ h => h) _ _ _ _ _ _ _ _ _ _ _ _ _ _ hlk.key hlk.val hlk.dirty (Nat.lt_of_lt_of_le hxl hbs) (Nat.ne_of_lt hxl) (hnv _ hxl) hb hown (by omega) (Nat.le_refl _) hpl HQ
  case done =>
    rintro D ys W' hD rfl ⟨⟨v, hb, hown⟩, hM, hB, hbx⟩ hK
    have hbc := hb.cell
    have hown' : W'.ownsRow w.heap.size 37 3 v (bs.map ent).length (entC (bs.map ent)) := by
      have := map_finRange bs ent
      rw [this] at hown
      exact hown
    have HO := hide hown'
    have HB := hide hB
    have hK' := hide hK
    have hDs : w.heap.size ≤ D := by omega
    clear hown hown' hM hB hbx hK HM hb
    gi_wp2
    have hm : Marked [D] W' := ⟨by simp, fun r hr => by rw [List.mem_singleton.1 hr]; exact hK'.out⟩
    refine leaves_marks [D] W' hm fun w7 s7 => ?_
    refine ⟨_, results_tmp rfl _ _ _, v, rfl, ?_, ?_⟩
    · have hnD : v.ownBlock ≠ some D := fun e1 => by
        rcases HO.out.2 with ⟨rfl, _⟩ | ⟨g, cap, cur, rfl, _, hg, _⟩
        · simp [Value.ownBlock] at e1
        · simp [Value.ownBlock] at e1
          subst e1
          have := hK'.out
          rw [hg] at this
          cases this
      exact HO.out.kept (row := some D) ⟨s7.os, s7.tape, s7.output, s7.size, fun g hg hn => s7.same g hg (fun h => hn (by rw [List.mem_singleton.1 h]))⟩ (.inr hnD)
    · exact grown_of_below (HB.out.trans (s7.below (by have := HB.out.size; omega) fun r hr => by have := List.mem_singleton.1 hr; omega))
  case stop =>
    rintro D c pre W' _ _ h _
    exact h.elim
end Lr
end Go.Proofs.Ytlgomaohfhgkpaa
