/- Layer 10 (lru): Put. -/
import Derived.Test.YtlgomaohfhgkpaaLi
namespace Go.Proofs.Ytlgomaohfhgkpaa
open Go.RowKit Go.Maps
namespace Lr
def putL (most : Int) (x : Ent) (L : List Ent) : List Ent := match look L x.key with | some y => ⟨x.key, x.val, y.dirty || x.dirty⟩ :: rest L x.key | none => x :: roomL most L
def putE (most : Int) (x : Ent) (L : List Ent) : Ent := if (look L x.key).isSome then zeroE else roomE most L
def putB (most : Int) (x : Ent) (L : List Ent) : Bool := if (look L x.key).isSome then false else decide (most ≤ (L.length : Int))
def PutPost (w : World) (c : Nat) (most : Int) (S : Nat → Prop) (L : List Ent) (x : Ent) (r : Ending) (w' : World) : Prop :=
  r = .returned (.tuple #[entV (putE most x L), .bool (putB most x L)]) ∧ CL w' c most S (putL most x L) ∧ Stp S w w'
theorem CacheM.ents {w w' : World} {c m e : Nat} {most : Int} {bs : List Nat} {ent ent' : Nat → Ent} {pv nx : Nat → Nat} {K : Int → Option Nat} (h : CacheM w c m e most bs ent pv nx K) (hl : LinksM w' (e :: bs) ent' pv nx) (hk : ∀ b ∈ bs, (ent' b).key = (ent b).key) (hs : Stp (In (e :: bs)) w w') : CacheM w' c m e most bs ent' pv nx K :=
  ⟨hs.obj h.cne h.box, h.map.of_heap (hs.same m h.map.lt h.mne), hl, h.ring, h.nd, fun k b => by
    rw [h.keys]
    constructor
    · rintro ⟨h1, h2⟩; exact ⟨h1, by rw [hk b h1]; exact h2⟩
    · rintro ⟨h1, h2⟩; exact ⟨h1, by rw [hk b h1] at h2; exact h2⟩, fun b hb => by rw [hk b hb]; exact h.i64 b hb, h.mne, h.cne, h.cm⟩
theorem roomL_sub {most : Int} {L : List Ent} : ∀ x ∈ roomL most L, x ∈ L := fun x hx => by
  unfold roomL at hx
  split at hx
  · exact hx
  · exact List.dropLast_subset _ hx
theorem roomL_len {most : Int} {L : List Ent} : (roomL most L).length ≤ L.length := by
  unfold roomL
  split
  · exact Nat.le_refl _
  · simp
abbrev But2 (S : Nat → Prop) (r : Nat) : Nat → Prop := fun g => S g ∧ g ≠ r ∧ g ≠ r + 1
set_option maxRecDepth 8000 in
set_option maxHeartbeats 3200000 in
theorem Put_ok {w : World} {c : Nat} {most : Int} {S : Nat → Prop} {L : List Ent} (h : CL w c most S L) (h1 : 1 ≤ most) (hU : ∀ g, w.heap.size ≤ g → S g) {x : Ent} (hx : I64 x.key) (hl : L.length ≤ 1000000) :
    Calls Try.prog 11 #[ptr c, entV x] w (PutPost w c most S L x) := by
  obtain ⟨w0, hw0⟩ : ∃ w0, w0 = w.alloc (entO x) := ⟨_, rfl⟩
  have hg0 : w.grownBy w0 none := by rw [hw0]; exact World.grownBy_alloc w _ none
  have hs0 : w0.heap.size = w.heap.size + 1 := by rw [hw0]; simp
  have hr0 : w0.heap[w.heap.size]? = some (entO x) := by rw [hw0]; exact heap_alloc_new w _
  obtain ⟨wA, hwA⟩ : ∃ wA, wA = w0.alloc zeroO := ⟨_, rfl⟩
  have hgB : w0.grownBy wA none := by rw [hwA]; exact World.grownBy_alloc w0 _ none
  have hsA : wA.heap.size = w.heap.size + 2 := by rw [hwA]; simp [hs0]
  have hgA := grownBy_trans hg0 hgB
  have hr1 : wA.heap[w.heap.size]? = some (entO x) := (hgB.block _ (lt_of_heap hr0) (by simp)).trans hr0
  have hr2 : wA.heap[w.heap.size + 1]? = some (entO zeroE) := by rw [hwA, ← hs0]; exact heap_alloc_new w0 _
  have hC2 : CL wA c most (But2 S w.heap.size) L := (h.less fun g hg hs => ⟨hs, by omega, by omega⟩).grown hgA
  have hon := h.once
  have h0 := h
  obtain ⟨m, e, bs, ent, pv, nx, K, hM, hL, hs, hB⟩ := h
  have hcl := lt_of_heap hM.box
  have hMlt := hM.lt
  have hMA : CacheM wA c m e most bs ent pv nx K := hM.stp (T := No) (.of_grown hgA) (fun k => k) (fun _ _ k => k)
  have H0 := hide (made_ok hMA)
  have H1 := hide (find_ok hMA hx)
  have hw0' : Hid (w0 = w.alloc (.cells #[num x.key, u64v x.val, .bool x.dirty] 37)) := hw0
  have hwA' := hide hwA
  have hs0' := hide hs0
  obtain ⟨x0, x1, x2⟩ := cells3 hr1
  cases hK : K x.key with
  | some b =>
    subst hL
    obtain ⟨xs, ys, rfl, q1, q2, q3⟩ := hM.hit hK
    rw [hK] at H1
    have hbm : b ∈ e :: (xs ++ b :: ys) := by simp
    have hln : ∀ r, w.heap.size ≤ r → r ∉ m :: e :: (xs ++ b :: ys) := fun r hr hx => by have := hMlt r hx; omega
    have hbl : b < w.heap.size := hMlt b (by simp)
    obtain ⟨W1, hW1⟩ : ∃ W1, W1 = wA.setCell ⟨b, 1, none⟩ (u64v x.val) := ⟨_, rfl⟩
    have hl1 : LinksM W1 (e :: (xs ++ b :: ys)) (upE ent b ⟨(ent b).key, x.val, (ent b).dirty⟩) pv nx := by rw [hW1]; exact hMA.links.setV hbm _
    have y1 := (hMA.links b hbm).val
    have y1f := (hMA.links b hbm).free 1
    have y2 := (hl1 b hbm).dirty
    have y2f := (hl1 b hbm).free 2
    rw [upE_same] at y2
    simp only at y2
    have hs1 : Stp (In (e :: (xs ++ b :: ys))) wA W1 := by rw [hW1]; exact (Stp.refl _ _).set (.inl hbm) _
    have z2 : W1.cell? ⟨w.heap.size, 2, none⟩ = some (.bool x.dirty) := hs1.cell (fun hx => hln _ (Nat.le_refl _) (List.mem_cons_of_mem _ hx)) x2
    have H2 : Hid (∀ W2, W2 = W1.setCell ⟨b, 2, none⟩ (.bool ((ent b).dirty || x.dirty)) → Calls Try.prog 26 #[ptr c, ptr b] W2 fun r w3 => (∃ v, r = .returned v) ∧ w3.heap[w.heap.size + 1]? = some (entO zeroE) ∧
        ∀ w4, Stp (In [w.heap.size + 1]) w3 w4 → PutPost w c most S ((xs ++ b :: ys).map ent) x (.returned (.tuple #[entV zeroE, .bool false])) w4) := fun W2 hW2 => by
      have hl2 : LinksM W2 (e :: (xs ++ b :: ys)) (upE ent b ⟨x.key, x.val, (ent b).dirty || x.dirty⟩) pv nx := by
        have hq := hl1.setD hbm ((ent b).dirty || x.dirty)
        rw [upE_same, ← hW2] at hq
        have e1 : upE (upE ent b ⟨(ent b).key, x.val, (ent b).dirty⟩) b ⟨(ent b).key, x.val, (ent b).dirty || x.dirty⟩ = upE ent b ⟨x.key, x.val, (ent b).dirty || x.dirty⟩ := by
          funext y
          unfold upE
          split
          · rw [q3]
          · rfl
        rw [← e1]; exact hq
      have hs2 : Stp (In (e :: (xs ++ b :: ys))) wA W2 := by rw [hW2]; exact hs1.set (.inl hbm) _
      have hM2 := hMA.ents hl2 (fun y hy => by
        by_cases e1 : y = b
        · subst e1; rw [upE_same]; exact q3.symm
        · rw [upE_other e1]) hs2
      refine (makeFirst_ok hM2).mono ?_
      rintro r w3 ⟨hv, pv', nx', hM3, hs3⟩
      have hs23 := hs2.trans hs3
      refine ⟨hv, hs23.obj (fun hx => hln _ (Nat.le_succ _) (List.mem_cons_of_mem _ hx)) hr2, fun w4 h4 => ?_⟩
      have hnb := (nodup_less hM.nd).2
      have hsub : ∀ y ∈ m :: e :: b :: (xs ++ ys), y ∈ m :: e :: (xs ++ b :: ys) := fun y hy => by
        simp at hy ⊢
        rcases hy with h | h | h | h | h
        · exact .inl h
        · exact .inr (.inl h)
        · exact .inr (.inr (.inr (.inl h)))
        · exact .inr (.inr (.inl h))
        · exact .inr (.inr (.inr (.inr h)))
      refine ⟨by rw [putE, putB, q1]; rfl, ⟨m, e, _, _, pv', nx', K, hM3.stp h4 (by simp; omega) (fun y hy hy2 => hln y (by have := List.mem_singleton.1 hy2; omega) (hsub y hy)), ?_, hs, fun y hy => hB y (hsub y hy)⟩, ?_⟩
      · rw [putL, q1, List.map_cons, upE_same, map_upE (fun hx => hnb (List.mem_cons_of_mem _ hx)), q2]
      · exact Stp.new ((Stp.of_grown hgA).trans (hs23.more fun g hg => hB g (List.mem_cons_of_mem _ hg))) h4 (Nat.le_succ _)
    have HW1 := hide hW1
    generalize (ent b).dirty = d at *
    clear h0 hM hB hK hs hMA hgA hMlt hcl hC2 hon hl1 hs1 hW1 hw0 hwA hg0 hgB hsA hs0 hr0 hr1 hr2 hln hbl hbm q1 q2 q3
    unfold entV
    go_enter Try.func11, Try.ntmps11
    go_wp2_with (first | rw [← hw0'.out] | rw [← hwA'.out, hs0'.out])
    refine H0.out.mono ?_
    rintro r w1 ⟨rfl, rfl⟩
    go_wp2_with fail
    refine H1.out.mono ?_
    rintro r w1 ⟨rfl, rfl⟩
    clear H1 H0
    simp only [ptrV]
    cases d
    all_goals
      simp only [Bool.true_or, Bool.false_or] at H2
      go_wp2_with (first | rw [← HW1.out])
      refine (H2.out _ rfl).mono ?_
      rintro r w3 ⟨⟨v, rfl⟩, hr3, HP0⟩
      have HP := hide HP0
      have Hr3 := hide hr3
      clear HP0 hr3 H2
      go_wp2_with (first | (refine wpList_store_ent rfl (.tmp 4) (.tmp 41) rfl (w.heap.size + 1) zeroE zeroE rfl rfl Hr3.out fun w4 h4 hs4 => ?_))
      have HD := HP.out w4 hs4
      obtain ⟨u0, u1, u2⟩ := cells3 h4
      exact bodyPost_ret (v := .tuple #[.agg #[num 0, u64v 0, .bool false], .bool false]) (by simp [results, Try.f11, go_sem, u0, u1, u2, zeroE]) rfl HD
  | none =>
    obtain ⟨q1, q2⟩ := hM.miss hK
    rw [← hL] at q1 q2
    rw [hK] at H1
    have H3 : Hid (Calls Try.prog 27 #[ptr c] wA fun r w1 => r = .returned (.tuple #[.agg #[num (roomE most L).key, u64v (roomE most L).val, .bool (roomE most L).dirty], .bool (decide (most ≤ (L.length : Int)))]) ∧
        ∀ w2, w2 = w1.alloc (entO (roomE most L)) → w2.heap[w.heap.size]? = some (entO x) ∧ Calls Try.prog 28 #[ptr c, .agg #[num x.key, u64v x.val, .bool x.dirty]] w2 fun r w3 => (∃ v, r = .returned v) ∧ w3.heap[w1.heap.size]? = some (entO (roomE most L)) ∧ w3.heap[w.heap.size + 1]? = some (entO zeroE) ∧
          ∀ w4, Stp (In [w.heap.size + 1]) w3 w4 → PutPost w c most S L x (.returned (.tuple #[entV (roomE most L), .bool (decide (most ≤ (L.length : Int)))])) w4) := by
      refine (makeRoom_ok hC2 h1).mono ?_
      rintro r w1 ⟨rfl, hC1, hs1⟩
      refine ⟨rfl, fun w2 hw2 => ?_⟩
      have hg2 : w1.grownBy w2 none := by rw [hw2]; exact World.grownBy_alloc w1 _ none
      have hs2 : w2.heap.size = w1.heap.size + 1 := by rw [hw2]; simp
      have hr3 : w2.heap[w1.heap.size]? = some (entO (roomE most L)) := by rw [hw2]; exact heap_alloc_new w1 _
      have hsz := hs1.size
      have hrx := (Stp.of_grown (K := But2 S w.heap.size) hg2).obj (fun hx => hx.2.1 rfl) (hs1.obj (fun hx => hx.2.1 rfl) hr1)
      have hrz := (Stp.of_grown (K := But2 S w.heap.size) hg2).obj (fun hx => hx.2.2 rfl) (hs1.obj (fun hx => hx.2.2 rfl) hr2)
      have hC2' : CL w2 c most (But (But2 S w.heap.size) w1.heap.size) (roomL most L) := hC1.but hg2 (Nat.le_refl _)
      refine ⟨hrx, ?_⟩
      have hnr : look (roomL most L) x.key = none := look_none fun y hy => look_mem q1 y (roomL_sub y hy)
      refine (add_ok hC2' (fun g hg => ⟨⟨hU g (by omega), by omega, by omega⟩, by omega⟩) hx hnr (Nat.le_trans roomL_len hl)).mono ?_
      rintro r w3 ⟨hv, hC3, hs3⟩
      refine ⟨hv, hs3.obj (fun hx => hx.2 rfl) hr3, hs3.obj (fun hx => hx.1.2.2 rfl) hrz, fun w4 h4 => ?_⟩
      refine ⟨by rw [putE, putB, q1]; rfl, ?_, ?_⟩
      · rw [putL, q1]
        exact (hC3.stp h4 (fun g hg hx => hx.1.2.2 (List.mem_singleton.1 hg))).less fun g _ hx => hx.1.1
      · exact Stp.new ((Stp.of_grown hgA).trans ((hs1.more fun g hg => hg.1).trans ((Stp.of_grown hg2).trans (hs3.more fun g hg => hg.1.1)))) h4 (Nat.le_succ _)
    generalize decide (most ≤ (L.length : Int)) = dd at *
    generalize roomE most L = gg at *
    clear h0 hM hB hK hs hMA hgA hMlt hcl hC2 hon hw0 hwA hg0 hgB hsA hs0 hr0 hr1 hr2 q1 q2 hL
    unfold entV
    go_enter Try.func11, Try.ntmps11
    go_wp2_with (first | rw [← hw0'.out] | rw [← hwA'.out, hs0'.out])
    refine H0.out.mono ?_
    rintro r w1 ⟨rfl, rfl⟩
    go_wp2_with fail
    refine H1.out.mono ?_
    rintro r w1 ⟨rfl, rfl⟩
    clear H1 H0
    simp only [ptrV]
    go_wp2_with fail
    refine H3.out.mono ?_
    rintro r w1 ⟨rfl, HW⟩
    obtain ⟨w2, hw2⟩ : ∃ w2, w2 = w1.alloc (entO gg) := ⟨_, rfl⟩
    obtain ⟨hx2, hCa⟩ := HW w2 hw2
    have hw2' : Hid (w2 = w1.alloc (.cells #[num gg.key, u64v gg.val, .bool gg.dirty] 37)) := hw2
    have H4 := hide hCa
    obtain ⟨s0, s1, s2⟩ := cells3 hx2
    clear hx2 hCa HW H3 hw2
    go_wp2_with (first | rw [← hw2'.out])
    refine H4.out.mono ?_
    rintro r w3 ⟨⟨v, rfl⟩, hr3, hr4, HP0⟩
    have HP := hide HP0
    obtain ⟨p0, p1, p2⟩ := cells3 hr3
    have Hr4 := hide hr4
    clear HP0 hr3 hr4 H4 s0 s1 s2
    go_wp2_with (first | (refine wpList_store_ent rfl (.tmp 4) (.tmp 50) rfl (w.heap.size + 1) zeroE gg rfl rfl Hr4.out fun w4 h4 hs4 => ?_))
    have HD := HP.out w4 hs4
    obtain ⟨u0, u1, u2⟩ := cells3 h4
    exact bodyPost_ret (v := .tuple #[entV gg, .bool dd]) (by simp [results, Try.f11, go_sem, u0, u1, u2, entV]) rfl HD
end Lr
end Go.Proofs.Ytlgomaohfhgkpaa
