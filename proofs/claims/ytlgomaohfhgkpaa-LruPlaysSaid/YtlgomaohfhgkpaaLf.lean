/- Layer 10 (lru): a cache with its entries, by the one that was asked for last; Get, Drop, Len. -/
import Derived.Test.YtlgomaohfhgkpaaLe
namespace Go.Proofs.Ytlgomaohfhgkpaa
open Go.RowKit Go.Maps
namespace Lr
variable {w : World} {c m e : Nat} {most : Int} {bs : List Nat} {ent : Nat → Ent} {pv nx : Nat → Nat} {K : Int → Option Nat}
/-- A cache whose entries are L; it lies within S. -/
def CL (w : World) (c : Nat) (most : Int) (S : Nat → Prop) (L : List Ent) : Prop :=
  ∃ m e bs ent pv nx K, CacheM w c m e most bs ent pv nx K ∧ L = bs.map ent ∧ S c ∧ ∀ b ∈ m :: e :: bs, S b
theorem CacheM.stp {w' : World} {T : Nat → Prop} (h : CacheM w c m e most bs ent pv nx K) (s : Stp T w w') (hc : ¬ T c) (hm : ∀ b ∈ m :: e :: bs, ¬ T b) : CacheM w' c m e most bs ent pv nx K :=
  ⟨s.obj hc h.box, h.map.of_heap (s.same _ h.map.lt (hm _ (by simp))), fun b hb => (h.links b hb).of_heap (s.same _ (h.links b hb).lt (hm _ (List.mem_cons_of_mem _ hb))), h.ring, h.nd, h.keys, h.i64, h.mne, h.cne, h.cm⟩
theorem CL.stp {w w' : World} {c : Nat} {most : Int} {S T : Nat → Prop} {L : List Ent} (h : CL w c most S L) (s : Stp T w w') (hT : ∀ g, T g → ¬ S g) : CL w' c most S L := by
  obtain ⟨m, e, bs, ent, pv, nx, K, hM, hL, hS, hB⟩ := h
  exact ⟨m, e, bs, ent, pv, nx, K, hM.stp s (fun t => hT _ t hS) (fun b hb t => hT _ t (hB b hb)), hL, hS, hB⟩
theorem CL.grown {w w' : World} {c : Nat} {most : Int} {S : Nat → Prop} {L : List Ent} (h : CL w c most S L) (s : w.grownBy w' none) : CL w' c most S L := h.stp (T := No) (.of_grown s) fun _ k => k.elim
theorem CL.less {w : World} {c : Nat} {most : Int} {S S' : Nat → Prop} {L : List Ent} (h : CL w c most S L) (hS : ∀ g, g < w.heap.size → S g → S' g) : CL w c most S' L := by
  obtain ⟨m, e, bs, ent, pv, nx, K, hM, hL, hs, hB⟩ := h
  refine ⟨m, e, bs, ent, pv, nx, K, hM, hL, hS _ (lt_of_heap hM.box) hs, fun b hb => hS _ ?_ (hB b hb)⟩
  rcases List.mem_cons.1 hb with rfl | h1
  · exact hM.map.lt
  · exact (hM.links b h1).lt
theorem CL.i64 {w : World} {c : Nat} {most : Int} {S : Nat → Prop} {L : List Ent} (h : CL w c most S L) : ∀ x ∈ L, I64 x.key := by
  obtain ⟨m, e, bs, ent, pv, nx, K, hM, rfl, hs, hB⟩ := h
  intro x hx
  obtain ⟨b, hb, rfl⟩ := List.mem_map.1 hx
  exact hM.i64 b hb
theorem CL.once {w : World} {c : Nat} {most : Int} {S : Nat → Prop} {L : List Ent} (h : CL w c most S L) : (L.map Ent.key).Nodup := by
  obtain ⟨m, e, bs, ent, pv, nx, K, hM, rfl, hs, hB⟩ := h
  rw [List.map_map, List.nodup_iff_pairwise_ne, List.pairwise_map]
  refine ((List.nodup_cons.1 hM.nd).2).imp_of_mem fun {a b} ha hb hab he => hab ?_
  have h1 := (hM.keys _ a).2 ⟨ha, rfl⟩
  have h2 := (hM.keys _ b).2 ⟨hb, rfl⟩
  simp only [Function.comp_apply] at he
  rw [he, h2] at h1
  exact (Option.some.inj h1).symm
def entV (x : Ent) : Value := .agg #[num x.key, u64v x.val, .bool x.dirty]
def zeroE : Ent := ⟨0, 0, false⟩
def getV (L : List Ent) (k : Int) : Int := ((look L k).getD zeroE).val
def getL (L : List Ent) (k : Int) : List Ent := match look L k with | some x => x :: rest L k | none => L
theorem getL_none {L : List Ent} {k : Int} (h : look L k = none) : getL L k = L := by simp [getL, h]
theorem getL_some {L : List Ent} {k : Int} {x : Ent} (h : look L k = some x) : getL L k = x :: rest L k := by simp [getL, h]
set_option maxRecDepth 8000 in
set_option maxHeartbeats 1600000 in
theorem Get_ok {w : World} {c : Nat} {most : Int} {S : Nat → Prop} {L : List Ent} (h : CL w c most S L) {k : Int} (hk : I64 k) :
    Calls Try.prog 14 #[ptr c, num k] w fun r w' => r = .returned (.tuple #[u64v (getV L k), .bool (look L k).isSome]) ∧ CL w' c most S (getL L k) ∧ Stp S w w' := by
  have h0 := h
  obtain ⟨m, e, bs, ent, pv, nx, K, hM, rfl, hs, hB⟩ := h
  have H1 := hide (find_ok hM hk)
  cases hK : K k with
  | none =>
    obtain ⟨q1, q2⟩ := hM.miss hK
    rw [hK] at H1
    have HP : Hid ((Ending.returned (.tuple #[u64v 0, .bool false]) = .returned (.tuple #[u64v (getV (bs.map ent) k), .bool (look (bs.map ent) k).isSome])) ∧ CL w c most S (getL (bs.map ent) k) ∧ Stp S w w) := by
      rw [getL_none q1, getV, q1]
      exact ⟨rfl, h0, Stp.refl _ _⟩
    clear h0 hM hB q1 q2 hK hs
    go_enter Try.func14, Try.ntmps14
    go_wp2_with fail
    refine H1.out.mono ?_
    rintro r w1 ⟨rfl, rfl⟩
    clear H1
    simp only [ptrV]
    go_wp2_with fail
    go_ret2
    exact HP.out
  | some b =>
    obtain ⟨xs, ys, rfl, q1, q2, q3⟩ := hM.hit hK
    rw [hK] at H1
    have H2 : Hid (Calls Try.prog 26 #[ptr c, ptr b] w fun r w' => (∃ v, r = .returned v) ∧ w'.cell? ⟨b, 1, none⟩ = some (u64v (ent b).val) ∧ ((Ending.returned (.tuple #[u64v (ent b).val, .bool true]) = .returned (.tuple #[u64v (getV ((xs ++ b :: ys).map ent) k), .bool (look ((xs ++ b :: ys).map ent) k).isSome])) ∧ CL w' c most S (getL ((xs ++ b :: ys).map ent) k) ∧ Stp S w w')) := by
      refine (makeFirst_ok hM).mono ?_
      rintro r w' ⟨hv, pv', nx', hM', hs'⟩
      refine ⟨hv, (hM'.links b (by simp)).val, by rw [getV, q1]; rfl, ⟨m, e, _, ent, pv', nx', K, hM', by rw [getL_some q1, q2]; simp, hs, fun x hx => ?_⟩, hs'.more fun g hg => hB g (List.mem_cons_of_mem _ hg)⟩
      refine hB x ?_
      simp at hx ⊢
      rcases hx with h | h | h | h | h
      · exact .inl h
      · exact .inr (.inl h)
      · exact .inr (.inr (.inr (.inl h)))
      · exact .inr (.inr (.inl h))
      · exact .inr (.inr (.inr (.inr h)))
    clear h0 hM hB q1 q2 q3 hK hs
    go_enter Try.func14, Try.ntmps14
    go_wp2_with fail
    refine H1.out.mono ?_
    rintro r w1 ⟨rfl, rfl⟩
    clear H1
    simp only [ptrV]
    go_wp2_with fail
    refine H2.out.mono ?_
    rintro r w2 ⟨⟨v, rfl⟩, q4, HP0⟩
    have HP := hide HP0
    clear HP0 H2
    go_wp2_with fail
    go_ret2
    exact HP.out
theorem Len_ok {w : World} {c : Nat} {most : Int} {S : Nat → Prop} {L : List Ent} (h : CL w c most S L) : Calls Try.prog 21 #[ptr c] w fun r w' => r = .returned (num L.length) ∧ w' = w := by
  obtain ⟨m, e, bs, ent, pv, nx, K, hM, rfl, hs, hB⟩ := h
  have c1 := hM.cmap
  have hl := fun ty => hM.map.len ty
  rw [List.length_map]
  generalize bs.length = n at *
  clear hM hB hs
  go_enter Try.func21, Try.ntmps21
  go_wp2_with fail
  go_ret
  exact ⟨rfl, rfl⟩
end Lr
end Go.Proofs.Ytlgomaohfhgkpaa
