/- Layer 10 (lru): the range in Clean: what was changed is collected, and changed no more. -/
import Derived.Test.YtlgomaohfhgkpaaLs
namespace Go.Proofs.Ytlgomaohfhgkpaa
open Go.RowKit Go.Maps Go.Shelf
namespace Lr
attribute [local go_sem] Oper.semAt_some
/-- Is it to be cleaned? .. cleaned. -/
def isD (lo hi : Int) (x : Ent) : Bool := x.dirty && (decide (lo ≤ x.key) && decide (x.key < hi))
def wash (lo hi : Int) (x : Ent) : Ent := if isD lo hi x then ⟨x.key, x.val, false⟩ else x
theorem wash_key (lo hi : Int) (x : Ent) : (wash lo hi x).key = x.key := by unfold wash; split <;> rfl
/-- A round: the entries as they are, and what was collected. -/
def clStep (lo hi : Int) (bs : List Nat) (s : (Nat → Ent) × List Ent) (x : Fin bs.length) : (Nat → Ent) × List Ent :=
  if isD lo hi (s.1 bs[x]) then (upE s.1 bs[x] ⟨(s.1 bs[x]).key, (s.1 bs[x]).val, false⟩, s.2 ++ [s.1 bs[x]]) else s
def clF (lo hi : Int) (bs : List Nat) (ent : Nat → Ent) (pre : List (Fin bs.length)) : (Nat → Ent) × List Ent := pre.foldl (clStep lo hi bs) (ent, [])
theorem clF_snoc (lo hi : Int) (bs : List Nat) (ent : Nat → Ent) (pre : List (Fin bs.length)) (x : Fin bs.length) : clF lo hi bs ent (pre ++ [x]) = clStep lo hi bs (clF lo hi bs ent pre) x := by simp [clF]
theorem clStep_key (lo hi : Int) (bs : List Nat) (s : (Nat → Ent) × List Ent) (x : Fin bs.length) (b : Nat) : ((clStep lo hi bs s x).1 b).key = (s.1 b).key := by
  unfold clStep
  split
  · by_cases e : b = bs[x]
    · subst e; simp only; rw [upE_same]
    · simp only; rw [upE_other e]
  · rfl
theorem clStep_len (lo hi : Int) (bs : List Nat) (s : (Nat → Ent) × List Ent) (x : Fin bs.length) : (clStep lo hi bs s x).2.length ≤ s.2.length + 1 := by
  unfold clStep
  split
  · simp
  · omega
theorem clF_len (lo hi : Int) (bs : List Nat) (ent : Nat → Ent) (pre : List (Fin bs.length)) : (clF lo hi bs ent pre).2.length ≤ pre.length := by
  suffices h : ∀ (pre : List (Fin bs.length)) (s : (Nat → Ent) × List Ent), (pre.foldl (clStep lo hi bs) s).2.length ≤ s.2.length + pre.length by
    have := h pre (ent, []); simpa [clF] using this
  intro pre
  induction pre with
  | nil => intro s; simp
  | cons x l ih => intro s; have h1 := ih (clStep lo hi bs s x); have h2 := clStep_len lo hi bs s x; simp only [List.foldl_cons, List.length_cons]; omega
theorem clNext (lo hi : Int) (ent : Nat → Ent) {T : List Nat} {z : Nat} (hz : z ∉ T) :
    (if isD lo hi (ent z) then (upE (fun b => if b ∈ T then wash lo hi (ent b) else ent b) z ⟨(ent z).key, (ent z).val, false⟩, (T.map ent).filter (isD lo hi) ++ [ent z]) else ((fun b => if b ∈ T then wash lo hi (ent b) else ent b), (T.map ent).filter (isD lo hi))) =
      (((fun b => if b ∈ T ++ [z] then wash lo hi (ent b) else ent b), ((T ++ [z]).map ent).filter (isD lo hi)) : (Nat → Ent) × List Ent) := by
  have hm : ∀ b, b ∈ T ++ [z] ↔ b ∈ T ∨ b = z := fun b => by rw [List.mem_append, List.mem_singleton]
  by_cases hD : isD lo hi (ent z) = true
  · rw [if_pos hD, List.map_append, List.filter_append]
    congr 1
    · funext b
      by_cases e : b = z
      · subst e
        rw [upE_same, if_pos ((hm b).2 (.inr rfl)), wash, if_pos hD]
      · rw [upE_other e]
        simp only [hm, e, or_false]
    · simp only [List.map_cons, List.map_nil, List.filter_cons, List.filter_nil, hD, if_true]
  · rw [if_neg hD, List.map_append, List.filter_append]
    congr 1
    · funext b
      by_cases e : b = z
      · subst e
        rw [if_neg hz, if_pos ((hm b).2 (.inr rfl)), wash, if_neg hD]
      · simp only [hm, e, or_false]
    · simp only [List.map_cons, List.map_nil, List.filter_cons, List.filter_nil, hD, if_false, List.append_nil, Bool.false_eq_true]
theorem clF_ups (lo hi : Int) {bs : List Nat} (hd : bs.Nodup) (ent : Nat → Ent) : ∀ k, k ≤ bs.length → clF lo hi bs ent (ups bs.length k) = (fun b => if b ∈ bs.take k then wash lo hi (ent b) else ent b, ((bs.take k).map ent).filter (isD lo hi))
  | 0, _ => by simp [clF, ups]
  | k + 1, hk => by
    have hlt : k < bs.length := by omega
    rw [ups_succ hlt, clF_snoc, clF_ups lo hi hd ent k (by omega)]
    have hnm : bs[k] ∉ bs.take k := fun hc => by
      obtain ⟨i, hi, e⟩ := List.mem_iff_getElem.1 hc
      rw [List.length_take] at hi
      rw [List.getElem_take] at e
      have h1 := hd.idxOf_getElem k hlt
      have h2 := hd.idxOf_getElem i (by omega)
      rw [e, h1] at h2
      omega
    have ht : bs.take (k + 1) = bs.take k ++ [bs[k]] := List.take_succ_eq_append_getElem hlt
    have hb : bs[(⟨k, hlt⟩ : Fin bs.length)] = bs[k] := rfl
    rw [ht]
    generalize bs.take k = T at hnm ⊢
    unfold clStep
    simp only [hb, if_neg hnm]
    exact clNext lo hi ent hnm
theorem clF_all (lo hi : Int) {bs : List Nat} (hd : bs.Nodup) (ent : Nat → Ent) : bs.map (clF lo hi bs ent (List.finRange bs.length)).1 = (bs.map ent).map (wash lo hi) ∧ (clF lo hi bs ent (List.finRange bs.length)).2 = (bs.map ent).filter (isD lo hi) := by
  rw [← ups_all, clF_ups lo hi hd ent bs.length (Nat.le_refl _), List.take_length]
  refine ⟨?_, rfl⟩
  rw [List.map_map]
  apply List.map_congr_left
  intro b hb
  simp [hb]
theorem stp_ownFrom {β : Type} {T : Nat → Prop} {C : Nat} {w : World} (hC : w.heap.size ≤ C) : OwnFrom (β := β) C (fun _ W => Stp T w W) := fun _ X Y row hs hg hr =>
  ⟨hg.os.trans hs.os, hg.tape.trans hs.tape, hg.output.trans hs.output, Nat.le_trans hs.size hg.size, fun g hgl hn => (hg.block g (Nat.lt_of_lt_of_le hgl hs.size) (fun e => by have := (hr g e.symm).1; omega)).trans (hs.same g hgl hn)⟩
theorem cacheMs_ownFrom {β : Type} {C c m e : Nat} {most : Int} {bs : List Nat} (E : β → Nat → Ent) {pv nx : Nat → Nat} {K : Int → Option Nat} (hc : c < C) (hb : ∀ b ∈ m :: e :: bs, b < C) : OwnFrom C (fun s W => CacheM W c m e most bs (E s) pv nx K) := fun _ X Y row hs hg hr =>
  cacheM_ownFrom (β := Unit) hc hb () X Y row hs hg hr
/-- What holds in the range. -/
structure ClI (w : World) (c m e : Nat) (most : Int) (bs : List Nat) (ent : Nat → Ent) (pv nx : Nat → Nat) (K : Int → Option Nat) (lo hi : Int) (pre : List (Fin bs.length)) (W' : World) : Prop where
  row : RowE w.heap.size (w.heap.size + 2) (clF lo hi bs ent pre).2 W'
  cache : CacheM W' c m e most bs (clF lo hi bs ent pre).1 pv nx K
  stp : Stp (In bs) w W'
  itb : Boxed W' (w.heap.size + 3) 24 (ptr c)
  lob : Boxed W' w.heap.size 3 (num lo)
  hib : Boxed W' (w.heap.size + 1) 3 (num hi)
variable {w : World} {c m e : Nat} {most : Int} {bs : List Nat} {ent : Nat → Ent} {pv nx : Nat → Nat} {K : Int → Option Nat} {lo hi : Int}
theorem clI_own {C : Nat} (hc : c < w.heap.size) (hb : ∀ b ∈ m :: e :: bs, b < w.heap.size) (hC : w.heap.size ≤ C) : OwnFrom C (ClI w c m e most bs ent pv nx K lo hi) := fun s X Y row hs hg hr =>
  ⟨rowE_ownFrom (β := Unit) _ _ _ (fun _ => (clF lo hi bs ent s).2) () X Y row hs.row hg hr,
    cacheMs_ownFrom (β := Unit) (fun _ => (clF lo hi bs ent s).1) (by omega) (fun b hbm => by have := hb b hbm; omega) () X Y row hs.cache hg hr,
    stp_ownFrom (β := Unit) hC () X Y row hs.stp hg hr,
    Own.from (boxed_own (β := Unit) _ _ (fun _ => ptr c)) C () X Y row hs.itb hg hr,
    Own.from (boxed_own (β := Unit) _ _ (fun _ => num lo)) C () X Y row hs.lob hg hr,
    Own.from (boxed_own (β := Unit) _ _ (fun _ => num hi)) C () X Y row hs.hib hg hr⟩
theorem grown_cell (W : World) (g o : Nat) (v : Value) : W.grownBy (W.setCell ⟨g, o, none⟩ v) (some g) := ⟨rfl, rfl, rfl, by simp [World.setCell], fun k _ hk => setCell_else (fun e => hk (by rw [e])) _⟩
theorem keepR_of {W W' : World} {B : Nat} (hB : W'.heap[B]? = W.heap[B]?) (hc : W'.heap[c]? = W.heap[c]?) (hb : ∀ b ∈ e :: bs, W'.heap[b]? = W.heap[b]?) : KeepR B c e bs W W' :=
  ⟨hB, hc, fun b hbm => ⟨cell_of_block (hb b hbm), fun ⟨L, h⟩ => ⟨L, (hb b hbm).trans h⟩⟩⟩
/-- A round that passes by. -/
theorem ClI.skip {pre : List (Fin bs.length)} {x : Fin bs.length} {W' : World} (h : ClI w c m e most bs ent pv nx K lo hi pre W') (hD : isD lo hi ((clF lo hi bs ent pre).1 bs[x]) = false) (o : Obj) :
    KeepR (w.heap.size + 3) c e bs W' (W'.alloc o) ∧ ClI w c m e most bs ent pv nx K lo hi (pre ++ [x]) (W'.alloc o) := by
  have hg := World.grownBy_alloc W' o none
  have eb : ∀ g, g < W'.heap.size → (W'.alloc o).heap[g]? = W'.heap[g]? := fun g hg2 => hg.block g hg2 (by simp)
  have es : clF lo hi bs ent (pre ++ [x]) = clF lo hi bs ent pre := by rw [clF_snoc]; unfold clStep; rw [hD]; rfl
  refine ⟨keepR_of (eb _ h.itb.lt) (eb _ (lt_of_heap h.cache.box)) (fun b hb => eb b (h.cache.links b hb).lt), ?_⟩
  obtain ⟨v, hv1, hv2⟩ := h.row
  refine ⟨?_, ?_, h.stp.alloc o, (eb _ h.itb.lt).trans h.itb, (eb _ h.lob.lt).trans h.lob, (eb _ h.hib.lt).trans h.hib⟩
  · rw [es]; exact ⟨v, hv1.alloc o, hv2.alloc o⟩
  · rw [es]; exact h.cache.stp (T := No) (.of_grown hg) (fun k => k) (fun _ _ k => k)
set_option maxHeartbeats 1000000 in
/-- A round that cleans. -/
theorem ClI.take (hcl : c < w.heap.size) (hMlt : ∀ b ∈ m :: e :: bs, b < w.heap.size) {pre : List (Fin bs.length)} {x : Fin bs.length} {W' W4 : World} (h : ClI w c m e most bs ent pv nx K lo hi pre W') (o : Obj)
    (h4 : ApPost (W'.alloc o) w.heap.size (w.heap.size + 2) (clF lo hi bs ent pre).2 ((clF lo hi bs ent pre).1 bs[x]) W4) (hD : isD lo hi ((clF lo hi bs ent pre).1 bs[x]) = true) :
    KeepsOthers W' (W4.setCell ⟨bs[x], 2, none⟩ (.bool false)) ∧ KeepR (w.heap.size + 3) c e bs W' (W4.setCell ⟨bs[x], 2, none⟩ (.bool false)) ∧ ClI w c m e most bs ent pv nx K lo hi (pre ++ [x]) (W4.setCell ⟨bs[x], 2, none⟩ (.bool false)) := by
  have hg := World.grownBy_alloc W' o none
  have eb : ∀ g, g < W'.heap.size → (W'.alloc o).heap[g]? = W'.heap[g]? := fun g hg2 => hg.block g hg2 (by simp)
  have hws := h.stp.size
  obtain ⟨v, hv1, hv2⟩ := h.row
  have hv1a := hv1.alloc o
  have hv2a := hv2.alloc o
  have huniq : ∀ v2, Boxed (W'.alloc o) (w.heap.size + 2) 47 v2 → v2 = v := fun v2 hv => by
    have := hv.symm.trans hv1a
    simpa [Boxed] using this
  have hnv : ∀ g, g < w.heap.size → some g ≠ v.ownBlock := fun g hgl e1 => by have := (hv2.lt g e1.symm).1; omega
  have e4 : ∀ g, g < W'.heap.size → g ≠ w.heap.size + 2 → some g ≠ v.ownBlock → W4.heap[g]? = W'.heap[g]? := fun g hgl hg2 hg3 =>
    (h4.old g (by simp; omega) hg2 (fun v2 hv => by rw [huniq v2 hv]; exact hg3)).trans (eb g hgl)
  have elow : ∀ g, g < w.heap.size → W4.heap[g]? = W'.heap[g]? := fun g hgl => e4 g (by omega) (by omega) (hnv g hgl)
  have ei : W4.heap[w.heap.size + 3]? = W'.heap[w.heap.size + 3]? := e4 _ h.itb.lt (by omega) (h.itb.not_row (by decide) hv2)
  have elo : W4.heap[w.heap.size]? = W'.heap[w.heap.size]? := e4 _ h.lob.lt (by omega) (h.lob.not_row (by decide) hv2)
  have ehi : W4.heap[w.heap.size + 1]? = W'.heap[w.heap.size + 1]? := e4 _ h.hib.lt (by omega) (h.hib.not_row (by decide) hv2)
  have hxm : bs[x] ∈ e :: bs := List.mem_cons_of_mem _ (List.getElem_mem x.2)
  have hxl : bs[x] < w.heap.size := hMlt _ (List.mem_cons_of_mem _ hxm)
  have hM4 : CacheM W4 c m e most bs (clF lo hi bs ent pre).1 pv nx K := h.cache.stp (T := fun g => w.heap.size ≤ g) ⟨h4.low.os, h4.low.tape, h4.low.output, by have := h4.low.size; simp at this; omega, fun g _ hn => elow g (by omega)⟩ (by omega) (fun b hb => by have := hMlt b hb; omega)
  have hl5 := hM4.links.setD hxm false
  have hs5 : Stp (In (e :: bs)) W4 (W4.setCell ⟨bs[x], 2, none⟩ (.bool false)) := (Stp.refl _ _).set (.inl hxm) _
  have hM5 := hM4.ents hl5 (fun b _ => by
    by_cases e1 : b = bs[x]
    · subst e1; rw [upE_same]
    · rw [upE_other e1]) hs5
  have el5 : ∀ g, g ≠ bs[x] → (W4.setCell ⟨bs[x], 2, none⟩ (.bool false)).heap[g]? = W4.heap[g]? := fun g hgn => setCell_else hgn _
  have es : clF lo hi bs ent (pre ++ [x]) = (upE (clF lo hi bs ent pre).1 bs[x] ⟨((clF lo hi bs ent pre).1 bs[x]).key, ((clF lo hi bs ent pre).1 bs[x]).val, false⟩, (clF lo hi bs ent pre).2 ++ [(clF lo hi bs ent pre).1 bs[x]]) := by rw [clF_snoc]; unfold clStep; rw [hD]; rfl
  have hk4 : KeepsOthers W' W4 := (KeepsOthers.alloc W' o).trans h4.keep
  refine ⟨hk4.trans (KeepsOthers.setCell _ _ _), ⟨(el5 _ (by omega)).trans ei, ?_, fun b hb => ⟨?_, fun hx => ?_⟩⟩, ?_, ?_, ?_, ?_, ?_, ?_⟩
  · exact (el5 _ (fun e1 => hM4.cne (by rw [e1]; exact hxm))).trans (elow c hcl)
  · have h1 := hM4.links b hb
    have h2 := h.cache.links b hb
    have h3 := hl5 b hb
    rw [h3.behind, h2.behind]
  · exact ⟨_, hl5 b hb⟩
  · rw [es]
    obtain ⟨v', hb', ho'⟩ := h4.row
    have hne : some bs[x] ≠ v'.ownBlock := fun e1 => by have := (ho'.lt _ e1.symm).1; omega
    have hbn : w.heap.size + 2 ≠ bs[x] := by omega
    exact ⟨v', (el5 _ hbn).trans hb', ho'.kept (grown_cell W4 bs[x] 2 _) (.inr hne.symm)⟩
  · rw [es]; exact hM5
  · have h5 : Stp (In bs) w W4 := ⟨h4.low.os.trans h.stp.os, h4.low.tape.trans h.stp.tape, h4.low.output.trans h.stp.output, by have := h4.low.size; simp at this; omega, fun g hgl hn => (elow g hgl).trans (h.stp.same g hgl hn)⟩
    exact h5.set (.inl (List.getElem_mem x.2)) _
  · exact ((el5 _ (by omega)).trans ei).trans h.itb
  · exact ((el5 _ (by omega)).trans elo).trans h.lob
  · exact ((el5 _ (by omega)).trans ehi).trans h.hib
end Lr
end Go.Proofs.Ytlgomaohfhgkpaa
