/- Layer 10 (lru): an entry of a new key becomes the first one. -/
import Derived.Test.YtlgomaohfhgkpaaLh
namespace Go.Proofs.Ytlgomaohfhgkpaa
open Go.RowKit Go.Maps
namespace Lr
theorem map_upE {ent : Nat → Ent} {l : Nat} {x : Ent} {bs : List Nat} (h : l ∉ bs) : bs.map (upE ent l x) = bs.map ent := by
  apply List.map_congr_left
  intro b hb
  exact upE_other (by rintro rfl; exact h hb)
theorem look_mem {L : List Ent} {k : Int} (h : look L k = none) : ∀ x ∈ L, x.key ≠ k := by
  unfold look at h
  rw [List.find?_eq_none] at h
  intro x hx
  simpa using h x hx
/-- Put with a new key. -/
theorem CacheM.more {w w1 w2 : World} {c m e : Nat} {most : Int} {bs : List Nat} {ent : Nat → Ent} {pv nx pv' nx' : Nat → Nat} {K : Int → Option Nat} {l : Nat} {x : Ent} (h : CacheM w c m e most bs ent pv nx K) (hl : l ∉ m :: e :: bs) (hc : c ≠ l)
    (hlk : LinksM w1 (e :: l :: bs) (upE ent l x) pv' nx') (hr : Chn nx' pv' e (l :: bs) e) (hs : Stp (In (l :: e :: bs)) w w1) (hx : I64 x.key) (hn : K x.key = none)
    (hm : MapM w2 m (fun i => if i = x.key then some l else K i) (bs.length + 1)) (hg : w1.grownBy w2 (some m)) :
    CacheM w2 c m e most (l :: bs) (upE ent l x) pv' nx' (fun i => if i = x.key then some l else K i) := by
  have hlm : l ≠ m := fun e1 => hl (by simp [e1])
  have hle : l ≠ e := fun e1 => hl (by simp [e1])
  have hlb : l ∉ bs := fun e1 => hl (by simp [e1])
  have hme := h.mne
  have hce := h.cne
  simp only [List.mem_cons, not_or] at hme hce
  have hc1 := hs.obj (g := c) (by simp; exact ⟨hc, hce.1, hce.2⟩) h.box
  have hnd := h.nd
  simp only [List.nodup_cons] at hnd
  refine ⟨(hg.block c (lt_of_heap hc1) (fun e1 => h.cm (Option.some.inj e1))).trans hc1, hm, fun b hb => ?_, hr, ?_, fun i b => ?_, fun b hb => ?_, ?_, ?_, h.cm⟩
  · have := hlk b hb
    refine this.of_heap (hg.block b this.lt (fun e1 => ?_))
    have e2 := Option.some.inj e1
    subst e2
    simp only [List.mem_cons] at hb
    rcases hb with h1 | h1 | h1
    · exact hme.1 h1
    · exact hlm h1.symm
    · exact hme.2 h1
  · simp only [List.nodup_cons, List.mem_cons, not_or]
    exact ⟨⟨hle.symm, hnd.1⟩, hlb, hnd.2⟩
  · by_cases e1 : i = x.key
    · subst e1
      rw [if_pos rfl]
      constructor
      · intro h1
        obtain rfl := Option.some.inj h1
        exact ⟨by simp, by rw [upE_same]⟩
      · rintro ⟨h1, h2⟩
        rcases List.mem_cons.1 h1 with rfl | h3
        · rfl
        · rw [upE_other (by rintro rfl; exact hlb h3)] at h2
          have := (h.keys _ b).2 ⟨h3, h2⟩
          rw [hn] at this
          cases this
    · rw [if_neg e1, h.keys]
      constructor
      · rintro ⟨h1, h2⟩
        exact ⟨List.mem_cons_of_mem _ h1, by rw [upE_other (by rintro rfl; exact hlb h1)]; exact h2⟩
      · rintro ⟨h1, h2⟩
        rcases List.mem_cons.1 h1 with rfl | h3
        · rw [upE_same] at h2
          exact absurd h2.symm e1
        · rw [upE_other (by rintro rfl; exact hlb h3)] at h2
          exact ⟨h3, h2⟩
  · rcases List.mem_cons.1 hb with rfl | h3
    · rw [upE_same]; exact hx
    · rw [upE_other (by rintro rfl; exact hlb h3)]; exact h.i64 b h3
  · simp only [List.mem_cons, not_or]
    exact ⟨hme.1, hlm.symm, hme.2⟩
  · simp only [List.mem_cons, not_or]
    exact ⟨hce.1, hc, hce.2⟩
abbrev linkO (x : Ent) (v3 v4 : Value) : Obj := .cells [num x.key, u64v x.val, .bool x.dirty, v3, v4].toArray 68
set_option maxRecDepth 8000 in
set_option maxHeartbeats 1600000 in
theorem add_ok {w : World} {c : Nat} {most : Int} {S : Nat → Prop} {L : List Ent} (h : CL w c most S L) (hU : ∀ g, w.heap.size ≤ g → S g) {x : Ent} (hx : I64 x.key) (hn : look L x.key = none) (hl : L.length ≤ 1000000) :
    Calls Try.prog 28 #[ptr c, entV x] w fun r w' => (∃ v, r = .returned v) ∧ CL w' c most S (x :: L) ∧ Stp S w w' := by
  obtain ⟨wA, hwA⟩ : ∃ wA, wA = w.alloc (entO x) := ⟨_, rfl⟩
  have hgA : w.grownBy wA none := by rw [hwA]; exact World.grownBy_alloc w _ none
  have hsA : wA.heap.size = w.heap.size + 1 := by rw [hwA]; simp
  have hrA : wA.heap[w.heap.size]? = some (entO x) := by rw [hwA]; exact heap_alloc_new w _
  obtain ⟨wB, hwB⟩ : ∃ wB, wB = wA.alloc (linkO x nil0 nil0) := ⟨_, rfl⟩
  have hgB : wA.grownBy wB none := by rw [hwB]; exact World.grownBy_alloc wA _ none
  obtain ⟨l, hll⟩ : ∃ l, l = wA.heap.size := ⟨_, rfl⟩
  have hlB : wB.heap[l]? = some (linkO x nil0 nil0) := by rw [hwB, hll]; exact heap_alloc_new wA _
  have hrB : wB.heap[w.heap.size]? = some (entO x) := (hgB.block _ (lt_of_heap hrA) (by simp)).trans hrA
  obtain ⟨m, e, bs, ent, pv, nx, K, hM, hL, hs, hB⟩ := h
  have hcl := lt_of_heap hM.box
  have hMlt := hM.lt
  have hMB : CacheM wB c m e most bs ent pv nx K := hM.stp (T := No) (.of_grown (grownBy_trans hgA hgB)) (fun k => k) (fun _ _ k => k)
  have hKn : K x.key = none := by
    cases hK : K x.key with
    | none => rfl
    | some b =>
      obtain ⟨h1, h2⟩ := (hM.keys _ b).1 hK
      exact absurd h2 (look_mem hn _ (by rw [hL]; exact List.mem_map_of_mem h1))
  have hln : l ∉ m :: e :: bs := fun hx => by have := hMlt l hx; omega
  have hcn : c ≠ l := by omega
  have hrn : w.heap.size ∉ l :: e :: bs := fun hx => by
    rcases List.mem_cons.1 hx with h1 | h1
    · omega
    · have := hMlt _ (List.mem_cons_of_mem _ h1); omega
  have c2 := hMB.cend
  have hlen : bs.length = L.length := by rw [hL]; simp
  have H1 : Hid (Calls Try.prog 37 #[ptr l, ptr e] wB fun r w1 => (∃ v, r = .returned v) ∧ w1.cell? ⟨c, 1, none⟩ = some (.map (some m)) ∧ w1.heap[w.heap.size]? = some (entO x) ∧
      ∃ w2, (Instr.mapUpdate 61 (.map (some m)) (num x.key) (ptr l)).run Try.prog w1.drew = .ok () w2 ∧ (CL w2 c most S (x :: L) ∧ Stp S w w2)) := by
    refine (put_ok hMB.links hMB.ring hMB.nd (fun hx => hln (List.mem_cons_of_mem _ hx)) hlB).mono ?_
    rintro r w1 ⟨hv, pv', nx', hl1, hr1, hs1⟩
    have hme := hM.mne
    have hce := hM.cne
    have hm1 : MapM w1.drew m K bs.length := (hMB.map.of_heap (hs1.same m hMB.map.lt (fun hx => by
      rcases List.mem_cons.1 hx with h1 | h1
      · exact hln (by simp [h1])
      · exact hme h1))).of_heap rfl
    obtain ⟨w2, hrun, hm2, hg2⟩ := hm1.put (b := l) hx (by omega) hKn
    have hcs : c ∉ l :: e :: bs := fun hx => by
      rcases List.mem_cons.1 hx with h1 | h1
      · exact hcn h1
      · exact hce h1
    have hg2' : w1.grownBy w2 (some m) := ⟨hg2.os, hg2.tape, hg2.output, hg2.size, hg2.block⟩
    refine ⟨hv, hs1.cell hcs hMB.cmap, hs1.obj hrn hrB, w2, hrun, ⟨m, e, l :: bs, upE ent l x, pv', nx', _, hMB.more hln hcn hl1 hr1 hs1 hx hKn hm2 hg2', ?_, hs, fun b hb => ?_⟩, ?_⟩
    · rw [List.map_cons, upE_same, map_upE (fun hx => hln (by simp [hx])), hL]
    · simp only [List.mem_cons] at hb
      rcases hb with h1 | h1 | h1 | h1
      · exact hB b (by simp [h1])
      · exact hB b (by simp [h1])
      · exact hU b (by omega)
      · exact hB b (by simp [h1])
    · refine (Stp.of_grown (grownBy_trans hgA hgB)).trans (Stp.trans (hs1.more fun g hg => ?_) ⟨hg2'.os, hg2'.tape, hg2'.output, hg2'.size, fun g hg hn => hg2'.block g hg fun e1 => hn (Option.some.inj e1 ▸ hB m (by simp))⟩)
      rcases List.mem_cons.1 hg with h1 | h1
      · exact hU g (by omega)
      · exact hB g (List.mem_cons_of_mem _ h1)
  have hwa : Hid (wA = w.alloc (.cells #[num x.key, u64v x.val, .bool x.dirty] 37)) := hwA
  have hwb : Hid (wB = wA.alloc (.cells #[num x.key, u64v x.val, .bool x.dirty, nil0, nil0] 68)) := hwB
  have hll' := hide hll
  obtain ⟨x0, x1, x2⟩ := cells3 hrA
  have HFo : Hid (Try.prog.follows .mixedOrders = true) := follows_mixed
  clear hwA hwB hll hMB hlB hrB hM hB hMlt hcl hL hgA hgB hsA hs hU hKn hln hcn hrn hlen hn hl hrA
  unfold entV
  go_enter Try.func28, Try.ntmps28
  go_wp2_with (first | rw [← hwa.out] | rw [← hwb.out, ← hll'.out])
  refine H1.out.mono ?_
  rintro r w1 ⟨⟨v, rfl⟩, c1, hr1, w2, hrun, HP0⟩
  have HP := hide HP0
  obtain ⟨z0, z1, z2⟩ := cells3 hr1
  have hrun' := hide hrun
  clear HP0 hr1 H1 hrun x0 x1 x2 z1 z2
  go_wp2_with fail
  go_still_tail 7, HFo.out
  change wpList _ _ _ _ _ (w1.drew)
  go_wp2_with fail
  rw [hrun'.out]
  go_wp2_with fail
  go_end0
  exact ⟨⟨_, rfl⟩, HP.out⟩
end Lr
end Go.Proofs.Ytlgomaohfhgkpaa
