/- Layer 10 (lru): an entry is brought ahead of all; one is taken out; one is put in. -/
import Derived.Test.YtlgomaohfhgkpaaLd
namespace Go.Proofs.Ytlgomaohfhgkpaa
open Go.RowKit Go.Maps
namespace Lr
/-- The entry of a key; the others. -/
def look (L : List Ent) (k : Int) : Option Ent := L.find? (fun x => x.key == k)
def rest (L : List Ent) (k : Int) : List Ent := L.filter (fun x => !(x.key == k))
theorem look_none {L : List Ent} {k : Int} (h : ∀ x ∈ L, x.key ≠ k) : look L k = none := by
  unfold look
  rw [List.find?_eq_none]
  intro x hx
  simpa using h x hx
theorem rest_same {L : List Ent} {k : Int} (h : ∀ x ∈ L, x.key ≠ k) : rest L k = L := by
  unfold rest
  rw [List.filter_eq_self]
  intro x hx
  simpa using h x hx
theorem look_mid {X Y : List Ent} {x : Ent} {k : Int} (hX : ∀ y ∈ X, y.key ≠ k) (hx : x.key = k) : look (X ++ x :: Y) k = some x := by
  have h := look_none hX
  unfold look at h ⊢
  rw [List.find?_append, h]
  simp [hx]
theorem rest_mid {X Y : List Ent} {x : Ent} {k : Int} (hX : ∀ y ∈ X, y.key ≠ k) (hY : ∀ y ∈ Y, y.key ≠ k) (hx : x.key = k) : rest (X ++ x :: Y) k = X ++ Y := by
  have h1 := rest_same hX
  have h2 := rest_same hY
  unfold rest at h1 h2 ⊢
  rw [List.filter_append, List.filter_cons, h1, h2]
  simp [hx]
variable {w : World} {c m e : Nat} {most : Int} {bs : List Nat} {ent : Nat → Ent} {pv nx : Nat → Nat} {K : Int → Option Nat}
theorem CacheM.hit (h : CacheM w c m e most bs ent pv nx K) {k : Int} {b : Nat} (hK : K k = some b) :
    ∃ xs ys, bs = xs ++ b :: ys ∧ look (bs.map ent) k = some (ent b) ∧ rest (bs.map ent) k = (xs ++ ys).map ent ∧ (ent b).key = k := by
  obtain ⟨hb, hk⟩ := (h.keys k b).1 hK
  have hkeys := h.keys
  have hnd := (List.nodup_cons.1 h.nd).2
  obtain ⟨xs, ys, rfl⟩ := List.append_of_mem hb
  clear h
  have hd := List.nodup_append.1 hnd
  have hne : ∀ x ∈ xs ++ ys, (ent x).key ≠ k := by
    intro x hx e
    have hK2 := (hkeys k x).2 ⟨by simp at hx ⊢; rcases hx with h | h; exact .inl h; exact .inr (.inr h), e⟩
    rw [hK] at hK2
    obtain rfl := Option.some.inj hK2
    rcases List.mem_append.1 hx with h | h
    · exact hd.2.2 b h b (by simp) rfl
    · exact (List.nodup_cons.1 hd.2.1).1 h
  have hX : ∀ y ∈ xs.map ent, y.key ≠ k := fun y hy => by
    obtain ⟨x, hx, rfl⟩ := List.mem_map.1 hy
    exact hne x (List.mem_append_left _ hx)
  have hY : ∀ y ∈ ys.map ent, y.key ≠ k := fun y hy => by
    obtain ⟨x, hx, rfl⟩ := List.mem_map.1 hy
    exact hne x (List.mem_append_right _ hx)
  exact ⟨xs, ys, rfl, by rw [List.map_append, List.map_cons]; exact look_mid hX hk, by rw [List.map_append, List.map_cons, List.map_append]; exact rest_mid hX hY hk, hk⟩
theorem CacheM.miss (h : CacheM w c m e most bs ent pv nx K) {k : Int} (hK : K k = none) : look (bs.map ent) k = none ∧ rest (bs.map ent) k = bs.map ent := by
  have hne : ∀ y ∈ bs.map ent, y.key ≠ k := fun y hy e => by
    obtain ⟨x, hx, rfl⟩ := List.mem_map.1 hy
    have := (h.keys k x).2 ⟨hx, e⟩
    rw [hK] at this
    cases this
  exact ⟨look_none hne, rest_same hne⟩
theorem take_ok {xs ys : List Nat} {b : Nat} (hl : LinksM w (e :: (xs ++ b :: ys)) ent pv nx) (hr : Chn nx pv e (xs ++ b :: ys) e) (hd : (e :: (xs ++ b :: ys)).Nodup) :
    Calls Try.prog 36 #[ptr b] w fun r w' => (∃ v, r = .returned v) ∧ ∃ pv' nx', LinksM w' (e :: (xs ++ b :: ys)) ent pv' nx' ∧ Chn nx' pv' e (xs ++ ys) e ∧ Stp (In (e :: (xs ++ b :: ys))) w w' := by
  obtain ⟨h1, h2⟩ := hr.split
  have hp := h1.last
  have hn := h2.first
  have d2 : (xs ++ b :: ys ++ [e]).Nodup := by
    have hp : (e :: (xs ++ b :: ys)).Perm (xs ++ b :: ys ++ [e]) := List.perm_append_comm (l₁ := [e])
    exact hp.nodup_iff.1 hd
  have hpb : pv b ≠ b := by
    intro he
    rw [he] at hp
    have : (e :: xs ++ b :: ys).Nodup := by simpa using hd
    exact (List.nodup_append.1 this).2.2 b hp b (by simp) rfl
  refine (takeOut_ok hl (by simp) (l := b) ?_ ?_ hpb).mono ?_
  · simp at hp ⊢; rcases hp with h | h
    · exact .inl h
    · exact .inr (.inl h)
  · simp at hn ⊢; rcases hn with h | h
    · exact .inr (.inr (.inr h))
    · exact .inl h
  · rintro r w' ⟨hv, hl', hs⟩
    exact ⟨hv, _, _, hl', Chn.out h1 h2 (by simpa using hd) d2, hs⟩
theorem put_ok (hl : LinksM w (e :: bs) ent pv nx) (hr : Chn nx pv e bs e) (hd : (e :: bs).Nodup) {l : Nat} (hn : l ∉ e :: bs) {x : Ent} {v3 v4 : Value}
    (hb : w.heap[l]? = some (.cells [num x.key, u64v x.val, .bool x.dirty, v3, v4].toArray 68)) :
    Calls Try.prog 37 #[ptr l, ptr e] w fun r w' => (∃ v, r = .returned v) ∧ ∃ pv' nx', LinksM w' (e :: l :: bs) (upE ent l x) pv' nx' ∧ Chn nx' pv' e (l :: bs) e ∧ Stp (In (l :: e :: bs)) w w' := by
  have hf := hr.first
  refine (hang_ok hl (by simp) hn (by simp at hf ⊢; rcases hf with h | h; exact .inr h; exact .inl h) hb).mono ?_
  rintro r w' ⟨hv, hl', hs⟩
  refine ⟨hv, _, _, fun b hb' => hl' b ?_, Chn.hang hr (List.nodup_cons.1 hd).1 (fun e1 => hn (by simp [e1])) (fun e1 => hn (by simp [e1])) (fun e1 => hn (by simp [e1])) ?_, hs⟩
  · simp at hb' ⊢; rcases hb' with h | h | h
    · exact .inr (.inl h)
    · exact .inl h
    · exact .inr (.inr h)
  · have hp : (e :: bs).Perm (bs ++ [e]) := List.perm_append_comm (l₁ := [e])
    exact hp.nodup_iff.1 hd
theorem upE_id (b : Nat) : upE ent b (ent b) = ent := by
  funext x
  unfold upE
  split
  · next h => rw [h]
  · rfl
theorem perm_front {xs ys : List Nat} {b : Nat} : ∀ x, x ∈ b :: (xs ++ ys) ↔ x ∈ xs ++ b :: ys := fun x => by
  simp
  constructor
  · rintro (h | h | h)
    · exact .inr (.inl h)
    · exact .inl h
    · exact .inr (.inr h)
  · rintro (h | h | h)
    · exact .inr (.inl h)
    · exact .inl h
    · exact .inr (.inr h)
theorem nodup_front {xs ys : List Nat} {b : Nat} (h : (e :: (xs ++ b :: ys)).Nodup) : (e :: b :: (xs ++ ys)).Nodup := by
  have hp : (e :: (xs ++ b :: ys)).Perm (e :: b :: (xs ++ ys)) := List.Perm.cons _ List.perm_middle
  exact hp.nodup_iff.1 h
theorem nodup_less {xs ys : List Nat} {b : Nat} (h : (e :: (xs ++ b :: ys)).Nodup) : (e :: (xs ++ ys)).Nodup ∧ b ∉ e :: (xs ++ ys) := by
  have h2 := nodup_front h
  simp only [List.nodup_cons] at h2
  simp only [List.nodup_cons, List.mem_cons, not_or]
  refine ⟨⟨fun hc => h2.1 (List.mem_cons_of_mem _ hc), h2.2.2⟩, fun hc => h2.1 (by simp [hc]), h2.2.1⟩
set_option maxRecDepth 8000 in
set_option maxHeartbeats 1600000 in
theorem makeFirst_ok {xs ys : List Nat} {b : Nat} (h : CacheM w c m e most (xs ++ b :: ys) ent pv nx K) :
    Calls Try.prog 26 #[ptr c, ptr b] w fun r w' => (∃ v, r = .returned v) ∧ ∃ pv' nx', CacheM w' c m e most (b :: (xs ++ ys)) ent pv' nx' K ∧ Stp (In (e :: (xs ++ b :: ys))) w w' := by
  have H1 := hide (take_ok h.links h.ring h.nd)
  have hnl := nodup_less h.nd
  have hnf := nodup_front h.nd
  have hsub : ∀ x, x ∈ b :: e :: (xs ++ ys) → x ∈ e :: (xs ++ b :: ys) := fun x hx => by
    simp at hx ⊢
    rcases hx with h | h | h | h
    · exact .inr (.inr (.inl h))
    · exact .inl h
    · exact .inr (.inl h)
    · exact .inr (.inr (.inr h))
  have H2 : Hid (∀ (w1 : World) (pv1 nx1 : Nat → Nat), LinksM w1 (e :: (xs ++ b :: ys)) ent pv1 nx1 → Chn nx1 pv1 e (xs ++ ys) e → Stp (In (e :: (xs ++ b :: ys))) w w1 →
      w1.cell? ⟨c, 2, none⟩ = some (ptr e) ∧ Calls Try.prog 37 #[ptr b, ptr e] w1 fun r w' => (∃ v, r = .returned v) ∧ ∃ pv' nx', CacheM w' c m e most (b :: (xs ++ ys)) ent pv' nx' K ∧ Stp (In (e :: (xs ++ b :: ys))) w w') := by
    intro w1 pv1 nx1 hl1 hr1 hs1
    refine ⟨hs1.cell h.cne h.cend, ?_⟩
    have hlb := hl1 b (by simp)
    refine (put_ok (fun x hx => hl1 x (hsub x (List.mem_cons_of_mem _ hx))) hr1 hnl.1 hnl.2 hlb).mono ?_
    rintro r w2 ⟨hv, pv2, nx2, hl2, hr2, hs2⟩
    rw [upE_id] at hl2
    have hs : Stp (In (e :: (xs ++ b :: ys))) w w2 := hs1.trans (hs2.more hsub)
    refine ⟨hv, pv2, nx2, ⟨hs.obj h.cne h.box, ?_, hl2, hr2, hnf, fun k x => by rw [perm_front]; exact h.keys k x, fun x hx => h.i64 x ((perm_front x).1 hx), fun hx => h.mne ?_, fun hx => h.cne ?_, h.cm⟩, hs⟩
    · have hm := h.map.of_heap (hs.same m h.map.lt h.mne)
      have el : (b :: (xs ++ ys)).length = (xs ++ b :: ys).length := by simp; omega
      rw [el]; exact hm
    · rcases List.mem_cons.1 hx with h1 | h1
      · simp [h1]
      · exact List.mem_cons_of_mem _ ((perm_front _).1 h1)
    · rcases List.mem_cons.1 hx with h1 | h1
      · simp [h1]
      · exact List.mem_cons_of_mem _ ((perm_front _).1 h1)
  clear h hnl hnf hsub
  go_enter Try.func26, Try.ntmps26
  go_wp2_with fail
  refine H1.out.mono ?_
  rintro r w1 ⟨⟨v, rfl⟩, pv1, nx1, hl1, hr1, hs1⟩
  obtain ⟨q1, q2⟩ := H2.out w1 pv1 nx1 hl1 hr1 hs1
  have H3 := hide q2
  clear q2 H2 H1 hl1 hr1 hs1
  go_wp2_with fail
  refine H3.out.mono ?_
  rintro r w2 ⟨⟨v2, rfl⟩, HP0⟩
  have HP := hide HP0
  clear HP0 H3
  go_wp2_with fail
  go_end0
  exact ⟨⟨_, rfl⟩, HP.out⟩
end Lr
end Go.Proofs.Ytlgomaohfhgkpaa
