/- Layer 10 (lru): a cache while what was cleaned is held. -/
import Derived.Test.YtlgomaohfhgkpaaLx
import Derived.Test.YtlgomaohfhgkpaaLl
import Derived.Test.YtlgomaohfhgkpaaLm
namespace Go.Proofs.Ytlgomaohfhgkpaa
open Go.RowKit Go.Maps
namespace Lr
theorem isD_wash (lo hi : Int) (x : Ent) : isD lo hi (wash lo hi x) = false := by
  unfold wash
  split
  · simp [isD]
  · rename_i h; simpa using h
theorem isD_dirty {lo hi : Int} {x : Ent} (h : isD lo hi x = true) : x.dirty = true ∧ lo ≤ x.key ∧ x.key < hi := by
  simpa [isD] using h
theorem wash_none {lo hi : Int} {L : List Ent} (h : ∀ x ∈ L, isD lo hi x = false) : L.map (wash lo hi) = L := by
  rw [List.map_congr_left (g := id) (fun x hx => by simp [wash, h x hx]), List.map_id]
theorem filter_none {lo hi : Int} {L : List Ent} (h : ∀ x ∈ L, isD lo hi x = false) : L.filter (isD lo hi) = [] := by
  rw [List.filter_eq_nil_iff]
  intro x hx
  simp [h x hx]
/-- Each key once, by rising keys. -/
def Up (X : List Ent) : Prop := X.Pairwise fun a b => a.key < b.key
theorem up_of {X : List Ent} (h : Rise X) (hd : (X.map Ent.key).Nodup) : Up X := by
  rw [List.Nodup, List.pairwise_map] at hd
  exact (h.and hd).imp fun h => by omega
theorem entC_at3 {S : List Ent} {k : Nat} (hk : k < S.length) : (entC S)[k * 3]? = some (num S[k].key) ∧ (entC S)[k * 3 + 1]? = some (u64v S[k].val) ∧ (entC S)[k * 3 + 2]? = some (.bool S[k].dirty) := by
  have e : S.getD k default = S[k] := by simp [List.getD, hk]
  refine ⟨?_, ?_, ?_⟩
  · rw [entC_get S _ (by omega), show k * 3 / 3 = k by omega, show k * 3 % 3 = 0 by omega, e]; rfl
  · rw [entC_get S _ (by omega), show (k * 3 + 1) / 3 = k by omega, show (k * 3 + 1) % 3 = 1 by omega, e]; rfl
  · rw [entC_get S _ (by omega), show (k * 3 + 2) / 3 = k by omega, show (k * 3 + 2) % 3 = 2 by omega, e]; rfl
theorem row_form {W : World} {base : Nat} {v : Value} {X : List Ent} (h : W.ownsRow base 37 3 v X.length (entC X)) :
    ∃ p cap, v = .slice p X.length cap ∧ X.length ≤ cap ∧ ∀ k (hk : k < X.length), ∃ g, p = some ⟨g, 0, none⟩ ∧ W.cell? ⟨g, k * 3, none⟩ = some (num X[k].key) ∧ W.cell? ⟨g, k * 3 + 1, none⟩ = some (u64v X[k].val) ∧ W.cell? ⟨g, k * 3 + 2, none⟩ = some (.bool X[k].dirty) := by
  rcases h.2 with ⟨e, h0⟩ | ⟨g, cap, cur, e, _, _, hle, _⟩
  · exact ⟨none, 0, by rw [e, h0], by omega, fun k hk => by omega⟩
  · refine ⟨_, cap, e, hle, fun k hk => ⟨g, rfl, ?_⟩⟩
    obtain ⟨x0, x1, x2⟩ := entC_at3 hk
    rw [e] at h
    exact ⟨(h.cellAt (k * 3) (by omega)).trans x0, (h.cellAt (k * 3 + 1) (by omega)).trans x1, (h.cellAt (k * 3 + 2) (by omega)).trans x2⟩
/-- While keys are put. -/
def CcI (w wr : World) (c : Nat) (M : Int) (n : Nat) : Prop := ∃ L : List Ent, L.length ≤ n ∧ (L.length : Int) ≤ M ∧ CL wr c M (From w) L ∧ w.grownBy wr none
theorem CcI.put {w wr : World} {c n : Nat} {M k v : Int} {d : Bool} (h : CcI w wr c M n) (hM : 1 ≤ M) (hM2 : M ≤ 40) (hk : I64 k) :
    Calls Try.prog 11 #[ptr c, .agg #[num k, u64v v, .bool d]] wr fun r w' => (∃ v, r = .returned v) ∧ CcI w w' c M (n + 1) := by
  obtain ⟨L, hl, hm, hC, hg⟩ := h
  refine (Put_ok hC hM (from_new hg) (x := ⟨k, v, d⟩) hk (by omega)).mono ?_
  rintro r w' ⟨rfl, hC', hs⟩
  have hL := putL_len (x := ⟨k, v, d⟩) hM hm
  exact ⟨⟨_, rfl⟩, _, by have := hL.2; omega, hL.1, hC', hs.back hg (fun _ h => h)⟩
/-- Where the row doesn't lie. -/
abbrev Off (w : World) (v : Value) : Nat → Prop := fun g => w.heap.size ≤ g ∧ v.ownBlock ≠ some g
/-- While what was cleaned is held. -/
structure CcA (w wr : World) (c : Nat) (M lo hi : Int) (v : Value) (X L : List Ent) : Prop where
  cl : CL wr c M (Off w v) L
  low : ∀ x ∈ L, isD lo hi x = false
  len : (L.length : Int) ≤ M
  own : wr.ownsRow w.heap.size 37 3 v X.length (entC X)
  isd : ∀ x ∈ X, isD lo hi x = true
  kin : ∀ x ∈ X, ∃ y ∈ L, y.key = x.key
  up : Up X
  gr : w.grownBy wr none
  few : (X.length : Int) ≤ M
theorem CcI.clean {w wr : World} {c n : Nat} {M : Int} (h : CcI w wr c M n) (hM2 : M ≤ 40) (lo hi : Int) :
    Calls Try.prog 17 #[ptr c, num lo, num hi] wr fun r w' => ∃ v X L, r = .returned v ∧ CcA w w' c M lo hi v X L := by
  obtain ⟨L, hl, hm, hC, hg⟩ := h
  refine (Clean_ok hC (by omega) lo hi).mono ?_
  rintro r w' ⟨v, X, rfl, hp, hr, ho, hC', hs⟩
  have hlt := ho.lt
  have hsub : ∀ x ∈ X, x ∈ L ∧ isD lo hi x = true := fun x hx => by simpa using hp.mem_iff.1 hx
  refine ⟨v, X, _, rfl, hC'.less (fun g _ ⟨h1, h2⟩ => ⟨h1, fun e => by have := (hlt g e).1; omega⟩), fun x hx => ?_, by simpa using hm, ?_, fun x hx => (hsub x hx).2, fun x hx => ⟨wash lo hi x, List.mem_map_of_mem (hsub x hx).1, wash_key lo hi x⟩, up_of hr ?_, hs.back hg (fun _ h => h), ?_⟩
  · obtain ⟨y, _, rfl⟩ := List.mem_map.1 hx
    exact isD_wash lo hi y
  · refine ⟨ho.1, ?_⟩
    rcases ho.2 with h | ⟨g, cap, cur, h1, h2, h3⟩
    · exact .inl h
    · exact .inr ⟨g, cap, cur, h1, Nat.le_trans hg.size h2, h3⟩
  · refine (hp.map Ent.key).nodup_iff.2 ?_
    exact hC.once.sublist (List.filter_sublist.map _)
  · have h1 := hp.length_eq
    have h2 := List.length_filter_le (isD lo hi) L
    omega
theorem CcA.frm {w wr : World} {c : Nat} {M lo hi : Int} {v : Value} {X L : List Ent} (h : CcA w wr c M lo hi v X L) : ∀ g, wr.heap.size ≤ g → Off w v g := fun g hg =>
  ⟨from_new h.gr g hg, fun e => by have := (h.own.lt g e).2; omega⟩
theorem CcA.drew {w wr : World} {c : Nat} {M lo hi : Int} {v : Value} {X L : List Ent} (h : CcA w wr c M lo hi v X L) : CcA w wr.drew c M lo hi v X L :=
  ⟨h.cl.grown (grownBy_drew (grownBy_refl _ _)), h.low, h.len, h.own, h.isd, h.kin, h.up, grownBy_drew h.gr, h.few⟩
theorem CcA.drewN {w wr : World} {c : Nat} {M lo hi : Int} {v : Value} {X L : List Ent} (h : CcA w wr c M lo hi v X L) (n : Nat) : CcA w (wr.drewN n) c M lo hi v X L :=
  ⟨h.cl.grown ⟨rfl, rfl, rfl, Nat.le_refl _, fun _ _ _ => rfl⟩, h.low, h.len, h.own, h.isd, h.kin, h.up, ⟨h.gr.os, h.gr.tape, h.gr.output, h.gr.size, h.gr.block⟩, h.few⟩
theorem CcA.at_ {w wr : World} {c n cap : Nat} {M lo hi : Int} {p : Option Addr} {X L : List Ent} (h : CcA w wr c M lo hi (.slice p n cap) X L) {k : Nat} (hk : k < X.length) :
    ∃ g, p = some ⟨g, 0, none⟩ ∧ wr.cell? ⟨g, k * 3, none⟩ = some (num X[k].key) ∧ wr.cell? ⟨g, k * 3 + 2, none⟩ = some (.bool true) ∧ lo ≤ X[k].key ∧ X[k].key < hi := by
  obtain ⟨p', cap', e, _, hat⟩ := row_form h.own
  obtain ⟨g, e2, x0, _, x2⟩ := hat k hk
  cases e
  obtain ⟨d1, d2, d3⟩ := isD_dirty (h.isd _ (List.getElem_mem hk))
  rw [d1] at x2
  exact ⟨g, e2, x0, x2, d2, d3⟩
theorem own_stp {w a b : World} {v : Value} {X : List Ent} {T : Nat → Prop} (h : a.ownsRow w.heap.size 37 3 v X.length (entC X)) (s : Stp T a b) (hT : ∀ g, T g → v.ownBlock ≠ some g) : b.ownsRow w.heap.size 37 3 v X.length (entC X) := by
  refine ⟨h.1, ?_⟩
  rcases h.2 with h | ⟨g, cap, cur, h1, h2, h3, h4⟩
  · exact .inl h
  · exact .inr ⟨g, cap, cur, h1, h2, (s.same g (lt_of_heap h3) (fun t => hT g t (by rw [h1]; rfl))).trans h3, h4⟩
/-- Cleaned again: nothing. -/
theorem CcA.again {w wr : World} {c : Nat} {M lo hi : Int} {v : Value} {X L : List Ent} (h : CcA w wr c M lo hi v X L) (hM2 : M ≤ 40) :
    Calls Try.prog 17 #[ptr c, num lo, num hi] wr fun r w' => (∃ p cap, r = .returned (.slice p 0 cap)) ∧ CcA w w' c M lo hi v X L := by
  have hl := h.len
  refine (Clean_ok h.cl (by omega) lo hi).mono ?_
  rintro r w' ⟨v2, X2, rfl, hp, hr, ho, hC', hs⟩
  rw [filter_none h.low] at hp
  rw [wash_none h.low] at hC'
  obtain rfl := List.perm_nil.1 hp
  obtain ⟨p, cap, hv, _⟩ := row_form ho
  exact ⟨⟨p, cap, by rw [hv]; rfl⟩, hC'.less (fun g _ k => k.1), h.low, h.len, own_stp h.own hs (fun g t => t.2), h.isd, h.kin, h.up, hs.back h.gr (fun _ t => t.1), h.few⟩
/-- A key that was cleaned is put: it is the only one to be cleaned. -/
structure CcB (w wr : World) (c : Nat) (M lo hi : Int) (v : Value) (X : List Ent) (k : Int) : Prop where
  cl : ∃ R, CL wr c M (Off w v) (⟨k, 9, true⟩ :: R) ∧ (∀ x ∈ R, isD lo hi x = false) ∧ ((R.length : Int) + 1 ≤ M)
  own : wr.ownsRow w.heap.size 37 3 v X.length (entC X)
  isk : lo ≤ k ∧ k < hi
  gr : w.grownBy wr none
theorem CcA.put {w wr : World} {c : Nat} {M lo hi : Int} {v : Value} {X L : List Ent} (h : CcA w wr c M lo hi v X L) (h1 : 1 ≤ M) (hM2 : M ≤ 40) (hX : 0 < X.length) :
    Calls Try.prog 11 #[ptr c, .agg #[num X[0].key, u64v 9, .bool true]] wr fun r w' => (∃ v, r = .returned v) ∧ CcB w w' c M lo hi v X X[0].key := by
  have hl := h.len
  obtain ⟨y, hy, hk⟩ := h.kin _ (List.getElem_mem hX)
  have hI : I64 X[0].key := by rw [← hk]; exact h.cl.i64 y hy
  refine (Put_ok h.cl h1 h.frm (x := ⟨X[0].key, 9, true⟩) hI (by omega)).mono ?_
  rintro r w' ⟨rfl, hC', hs⟩
  have hsome : ∃ z, look L X[0].key = some z := by
    cases hz : look L X[0].key with
    | some z => exact ⟨z, rfl⟩
    | none => exact absurd hk (look_mem hz y hy)
  obtain ⟨z, hz⟩ := hsome
  have e : putL M ⟨X[0].key, 9, true⟩ L = ⟨X[0].key, 9, true⟩ :: rest L X[0].key := by
    unfold putL
    simp [hz]
  rw [e] at hC'
  refine ⟨⟨_, rfl⟩, ⟨_, hC', fun x hx => h.low x (List.mem_filter.1 hx).1, ?_⟩, own_stp h.own hs (fun g t => t.2), (isD_dirty (h.isd _ (List.getElem_mem hX))).2, hs.back h.gr (fun _ t => t.1)⟩
  have := rest_lt (L := L) (k := X[0].key) (by rw [hz]; rfl)
  omega
/-- Cleaned a third time: that one. -/
theorem CcB.last {w wr : World} {c : Nat} {M lo hi k : Int} {v : Value} {X : List Ent} (h : CcB w wr c M lo hi v X k) (hM2 : M ≤ 40) :
    Calls Try.prog 17 #[ptr c, num lo, num hi] wr fun r w' => ∃ g cap, 1 ≤ cap ∧ r = .returned (.slice (some ⟨g, 0, none⟩) 1 cap) ∧ w'.cell? ⟨g, 0, none⟩ = some (num k) ∧ w'.cell? ⟨g, 1, none⟩ = some (u64v 9) ∧ w'.ownsRow w.heap.size 37 3 v X.length (entC X) ∧ w.grownBy w' none := by
  obtain ⟨R, hC, hR, hl⟩ := h.cl
  refine (Clean_ok hC (by simp; omega) lo hi).mono ?_
  rintro r w' ⟨v2, X2, rfl, hp, hr, ho, hC', hs⟩
  have e1 : (⟨k, 9, true⟩ :: R : List Ent).filter (isD lo hi) = [⟨k, 9, true⟩] := by
    have hk : isD lo hi ⟨k, 9, true⟩ = true := by simp [isD, h.isk.1, h.isk.2]
    rw [List.filter_cons, if_pos hk, filter_none hR]
  rw [e1] at hp
  obtain rfl := List.perm_singleton.1 hp
  obtain ⟨p, cap, hv, hle, hat⟩ := row_form ho
  obtain ⟨g, rfl, x0, x1, _⟩ := hat 0 (by simp)
  exact ⟨g, cap, by simpa using hle, by rw [hv]; rfl, by simpa using x0, by simpa using x1, own_stp h.own hs (fun g t => t.2), hs.back h.gr (fun _ t => t.1)⟩
end Lr
end Go.Proofs.Ytlgomaohfhgkpaa
