/- Layer 10 (lru): a link is hung into a ring; an empty ring; a cache as it lies. -/
import Derived.Test.YtlgomaohfhgkpaaLc
namespace Go.Proofs.Ytlgomaohfhgkpaa
open Go.RowKit Go.Maps
namespace Lr
set_option maxRecDepth 8000 in
set_option maxHeartbeats 1600000 in
theorem hang_ok {w : World} {ns : List Nat} {ent : Nat → Ent} {pv nx : Nat → Nat} (h : LinksM w ns ent pv nx) {l E : Nat} (hE : E ∈ ns) (hl : l ∉ ns) (hf : nx E ∈ ns) {x : Ent} {v3 v4 : Value}
    (hb : w.heap[l]? = some (.cells [num x.key, u64v x.val, .bool x.dirty, v3, v4].toArray 68)) :
    Calls Try.prog 37 #[ptr l, ptr E] w fun e w' => (∃ v, e = .returned v) ∧ LinksM w' (l :: ns) (upE ent l x) (up (up pv l E) (nx E) l) (up (up nx l (nx E)) E l) ∧ Stp (In (l :: ns)) w w' := by
  have hlE : l ≠ E := by rintro rfl; exact hl hE
  have hlf : l ≠ nx E := by intro e; rw [← e] at hf; exact hl hf
  have c1 := (h E hE).behind
  have a3 : w.cell? ⟨l, 3, none⟩ = some v3 := cell_at hb rfl
  have a3f := free_at (o := 3) hb
  have hb1 := setCell_row (i := 3) hb (ptr E)
  have a4 : (w.setCell ⟨l, 3, none⟩ (ptr E)).cell? ⟨l, 4, none⟩ = some v4 := cell_at hb1 rfl
  have a4f := free_at (o := 4) hb1
  have hb2 := setCell_row (i := 4) hb1 (ptr (nx E))
  obtain ⟨W1, hW1⟩ : ∃ W1, W1 = (w.setCell ⟨l, 3, none⟩ (ptr E)).setCell ⟨l, 4, none⟩ (ptr (nx E)) := ⟨_, rfl⟩
  have h1 : LinksM W1 (l :: ns) (upE ent l x) (up pv l E) (up nx l (nx E)) := fun b hbm => by
    by_cases e : b = l
    · subst e
      rw [upE_same, up_same, up_same, hW1]
      exact hb2
    · rw [upE_other e, up_other e, up_other e, hW1]
      exact (h b ((List.mem_cons.1 hbm).resolve_left e)).of_heap ((setCell_else e _).trans (setCell_else e _))
  have d1 := (h1 l (by simp)).ahead
  rw [up_same] at d1
  have d2 := (h1 E (by simp [hE])).behind
  have d2f := (h1 E (by simp [hE])).free 4
  obtain ⟨W2, hW2⟩ : ∃ W2, W2 = W1.setCell ⟨E, 4, none⟩ (ptr l) := ⟨_, rfl⟩
  have h2 : LinksM W2 (l :: ns) (upE ent l x) (up pv l E) (up (up nx l (nx E)) E l) := by rw [hW2]; exact h1.setN (by simp [hE]) _
  have e1 := (h2 l (by simp)).behind
  rw [up_other hlE, up_same] at e1
  have e2 := (h2 (nx E) (by simp [hf])).ahead
  have e2f := (h2 (nx E) (by simp [hf])).free 3
  obtain ⟨W3, hW3⟩ : ∃ W3, W3 = W2.setCell ⟨nx E, 3, none⟩ (ptr l) := ⟨_, rfl⟩
  have h3 : LinksM W3 (l :: ns) (upE ent l x) (up (up pv l E) (nx E) l) (up (up nx l (nx E)) E l) := by rw [hW3]; exact h2.setP (by simp [hf]) _
  have hs : Stp (In (l :: ns)) w W3 := by
    rw [hW3, hW2, hW1]
    exact ((((Stp.refl _ _).set (.inl (by simp)) _).set (.inl (by simp)) _).set (.inl (by simp [hE])) _).set (.inl (by simp [hf])) _
  have HP : Hid (LinksM W3 (l :: ns) (upE ent l x) (up (up pv l E) (nx E) l) (up (up nx l (nx E)) E l) ∧ Stp (In (l :: ns)) w W3) := ⟨h3, hs⟩
  generalize nx E = f at *
  have HW1 := hide hW1
  have HW2 := hide hW2
  have HW3 := hide hW3
  clear hW1 hW2 hW3 h h1 h2 h3 hs hb hb1 hb2 hlE hlf
  go_enter Try.func37, Try.ntmps37
  go_wp2_with (first | rw [← HW1.out] | rw [← HW2.out] | rw [← HW3.out])
  go_end0
  exact ⟨⟨_, rfl⟩, HP.out⟩
abbrev nil0 : Value := .pointer none
theorem newRing_ok (w : World) : Calls Try.prog 23 #[] w fun e w' => e = .returned (ptr w.heap.size) ∧ w' = w.alloc (.cells #[num 0, u64v 0, .bool false, ptr w.heap.size, ptr w.heap.size] 68) := by
  go_enter Try.func23, Try.ntmps23
  go_wp2_with fail
  go_ret
  exact ⟨rfl, rfl⟩
/-- A cache as it lies. -/
structure CacheM (w : World) (c m e : Nat) (most : Int) (bs : List Nat) (ent : Nat → Ent) (pv nx : Nat → Nat) (K : Int → Option Nat) : Prop where
  box : w.heap[c]? = some (.cells #[num most, .map (some m), ptr e] 65)
  map : MapM w m K bs.length
  links : LinksM w (e :: bs) ent pv nx
  ring : Chn nx pv e bs e
  nd : (e :: bs).Nodup
  keys : ∀ k b, K k = some b ↔ b ∈ bs ∧ (ent b).key = k
  i64 : ∀ b ∈ bs, I64 (ent b).key
  mne : m ∉ e :: bs
  cne : c ∉ e :: bs
  cm : c ≠ m
theorem CacheM.most {w : World} {c m e : Nat} {most : Int} {bs : List Nat} {ent : Nat → Ent} {pv nx : Nat → Nat} {K : Int → Option Nat} (h : CacheM w c m e most bs ent pv nx K) : w.cell? ⟨c, 0, none⟩ = some (num most) := cell_at h.box rfl
theorem CacheM.cmap {w : World} {c m e : Nat} {most : Int} {bs : List Nat} {ent : Nat → Ent} {pv nx : Nat → Nat} {K : Int → Option Nat} (h : CacheM w c m e most bs ent pv nx K) : w.cell? ⟨c, 1, none⟩ = some (.map (some m)) := cell_at h.box rfl
theorem CacheM.cend {w : World} {c m e : Nat} {most : Int} {bs : List Nat} {ent : Nat → Ent} {pv nx : Nat → Nat} {K : Int → Option Nat} (h : CacheM w c m e most bs ent pv nx K) : w.cell? ⟨c, 2, none⟩ = some (ptr e) := cell_at h.box rfl
theorem made_ok {w : World} {c m e : Nat} {most : Int} {bs : List Nat} {ent : Nat → Ent} {pv nx : Nat → Nat} {K : Int → Option Nat} (h : CacheM w c m e most bs ent pv nx K) :
    Calls Try.prog 24 #[ptr c] w fun e w' => e = .returned (.bool true) ∧ w' = w := by
  have c2 := h.cend
  clear h
  go_enter Try.func24, Try.ntmps24
  go_wp2_with fail
  go_ret
  exact ⟨rfl, rfl⟩
theorem find_ok {w : World} {c m e : Nat} {most : Int} {bs : List Nat} {ent : Nat → Ent} {pv nx : Nat → Nat} {K : Int → Option Nat} (h : CacheM w c m e most bs ent pv nx K) {k : Int} (hk : I64 k) :
    Calls Try.prog 25 #[ptr c, num k] w fun e w' => e = .returned (ptrV (K k)) ∧ w' = w := by
  have c1 := h.cmap
  have hr := h.map.look hk
  generalize ptrV (K k) = v at hr
  clear h
  go_enter Try.func25, Try.ntmps25
  go_wp2_with fail
  go_ret
  exact ⟨rfl, rfl⟩
end Lr
end Go.Proofs.Ytlgomaohfhgkpaa
