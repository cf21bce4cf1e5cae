/- Layer 10 (lru): a cache and the document's, side by side. -/
import Derived.Test.YtlgomaohfhgkpaaKd
import Derived.Test.YtlgomaohfhgkpaaKf
import Derived.Test.YtlgomaohfhgkpaaKg
import Derived.Test.YtlgomaohfhgkpaaLy
import Derived.Test.YtlgomaohfhgkpaaLs
namespace Go.Proofs.Ytlgomaohfhgkpaa
open Go.RowKit Go.Maps Go.Shelf
namespace Lr
abbrev opB (o : OpE) : Obj := .cells #[num o.kind, num o.key, num o.to, u64v o.val, .bool o.dirty] 34
/-- Where the document's doesn't lie. -/
abbrev Off2 (w : World) (r : Nat) (v : Value) : Nat → Prop := fun g => w.heap.size ≤ g ∧ g ≠ r ∧ v.ownBlock ≠ some g
/-- Between the calls. -/
structure PlI (w wr : World) (c r : Nat) (M : Int) (v : Value) (L : List Ent) : Prop where
  cl : CL wr c M (Off2 w r v) L
  ref : RefM wr w.heap.size r M v L
  len : (L.length : Int) ≤ M
  gr : w.grownBy wr none
/-- Within a round: the call's box lies at ob. -/
structure PlO (w wr : World) (c r ob : Nat) (M : Int) (v : Value) (Lc Lr : List Ent) (o : OpE) : Prop where
  cl : CL wr c M (But (Off2 w r v) ob) Lc
  ref : RefM wr w.heap.size r M v Lr
  gr : w.grownBy wr none
  box : wr.heap[ob]? = some (opB o)
  ne : r ≠ ob
  own : v.ownBlock ≠ some ob
theorem PlI.start {w wr wo : World} {c r : Nat} {M : Int} {v : Value} {L : List Ent} (h : PlI w wr c r M v L) (o : OpE) (hwo : wo = wr.alloc (opB o)) : PlO w wo c r wr.heap.size M v L L o := by
  have hg : wr.grownBy wo none := by rw [hwo]; exact World.grownBy_alloc wr _ none
  have hr := lt_of_heap h.ref.box
  exact ⟨h.cl.but hg (Nat.le_refl _), h.ref.grown hg, grownBy_trans h.gr hg, by rw [hwo]; exact heap_alloc_new wr _, by omega, fun e => by have := h.ref.own _ e; omega⟩
theorem PlO.grown {w wr w' : World} {c r ob : Nat} {M : Int} {v : Value} {Lc Lr : List Ent} {o : OpE} (h : PlO w wr c r ob M v Lc Lr o) (hg : wr.grownBy w' none) : PlO w w' c r ob M v Lc Lr o :=
  ⟨h.cl.grown hg, h.ref.grown hg, grownBy_trans h.gr hg, (hg.block ob (lt_of_heap h.box) (by simp)).trans h.box, h.ne, h.own⟩
theorem PlO.back {w wr : World} {c r ob : Nat} {M : Int} {v : Value} {L : List Ent} {o : OpE} (h : PlO w wr c r ob M v L L o) (hl : (L.length : Int) ≤ M) : PlI w wr c r M v L :=
  ⟨h.cl.less fun _ _ k => k.1, h.ref, hl, h.gr⟩
theorem PlO.cells {w wr : World} {c r ob : Nat} {M : Int} {v : Value} {Lc Lr : List Ent} {o : OpE} (h : PlO w wr c r ob M v Lc Lr o) :
    wr.cell? ⟨ob, 0, none⟩ = some (num o.kind) ∧ wr.cell? ⟨ob, 1, none⟩ = some (num o.key) ∧ wr.cell? ⟨ob, 2, none⟩ = some (num o.to) ∧ wr.cell? ⟨ob, 3, none⟩ = some (u64v o.val) ∧ wr.cell? ⟨ob, 4, none⟩ = some (.bool o.dirty) :=
  ⟨cell_at h.box rfl, cell_at h.box rfl, cell_at h.box rfl, cell_at h.box rfl, cell_at h.box rfl⟩
/-- The program's step. -/
theorem PlO.prog {w wr w' : World} {c r ob : Nat} {M : Int} {v : Value} {Lc Lr L' : List Ent} {o : OpE} (h : PlO w wr c r ob M v Lc Lr o) (hC : CL w' c M (But (Off2 w r v) ob) L') (hs : Stp (But (Off2 w r v) ob) wr w') : PlO w w' c r ob M v L' Lr o :=
  ⟨hC, h.ref.stp hs (fun t => t.1.2.1 rfl) (fun _ hx t => t.1.2.2 hx), hs.back h.gr (fun _ t => t.1.1), hs.obj (fun t => t.2 rfl) h.box, h.ne, h.own⟩
theorem PlO.frm {w wr : World} {c r ob : Nat} {M : Int} {v : Value} {Lc Lr : List Ent} {o : OpE} (h : PlO w wr c r ob M v Lc Lr o) : ∀ g, wr.heap.size ≤ g → But (Off2 w r v) ob g := fun g hg => by
  have hr := lt_of_heap h.ref.box
  have hb := lt_of_heap h.box
  have hw := h.gr.size
  exact ⟨⟨by omega, by omega, fun e => by have := h.ref.own _ e; omega⟩, by omega⟩
/-- The document's step. -/
theorem PlO.doc {w wr w' : World} {c r ob : Nat} {M : Int} {v : Value} {Lc Lr L' : List Ent} {o : OpE} (h : PlO w wr c r ob M v Lc Lr o) (hS : RefS wr w' w.heap.size r M v L') : (∃ v', PlO w w' c r ob M v' Lc L' o) ∧ Stp (fun g => g = r) wr w' := by
  obtain ⟨v', h1, h2, h3⟩ := hS
  have hb := lt_of_heap h.box
  have hne : ∀ g, g < wr.heap.size → v.ownBlock ≠ some g → v'.ownBlock ≠ some g := fun g hg hn => by
    rcases h2 with rfl | h2
    · exact hn
    · exact fun e => by have := h2 g e; omega
  have hless : CL wr c M (But (Off2 w r v') ob) Lc := h.cl.less fun g hg hs => ⟨⟨hs.1.1, hs.1.2.1, hne g hg hs.1.2.2⟩, hs.2⟩
  exact ⟨⟨v', hless.stp h3 (fun g t hs => hs.1.2.1 t), h1, Stp.back (S := fun g => g = r) h.gr h3 (fun g e => by subst e; exact h.ref.low), h3.obj (fun t => h.ne t.symm) h.box, h.ne, hne ob hb h.own⟩, h3⟩
theorem PlO.put {w wr : World} {c r ob : Nat} {M : Int} {v : Value} {L : List Ent} {o : OpE} (h : PlO w wr c r ob M v L L o) (h1 : 1 ≤ M) (hl : L.length ≤ 1000) (hk : I64 o.key) :
    Calls Try.prog 11 #[ptr c, .agg #[num o.key, u64v o.val, .bool o.dirty]] wr fun q w' => q = .returned (.tuple #[entV (putE M ⟨o.key, o.val, o.dirty⟩ L), .bool (putB M ⟨o.key, o.val, o.dirty⟩ L)]) ∧ PlO w w' c r ob M v (putL M ⟨o.key, o.val, o.dirty⟩ L) L o := by
  refine (Put_ok h.cl h1 h.frm (x := ⟨o.key, o.val, o.dirty⟩) hk (by omega)).mono ?_
  rintro q w' ⟨rfl, hC, hs⟩
  exact ⟨rfl, h.prog hC hs⟩
theorem PlO.kput {w wr : World} {c r ob : Nat} {M : Int} {v : Value} {Lc L : List Ent} {o : OpE} (h : PlO w wr c r ob M v Lc L o) (h1 : 1 ≤ M) (hl : L.length ≤ 1000) (hM : (L.length : Int) ≤ M) (hd : (L.map Ent.key).Nodup) :
    Calls Try.prog 12 #[ptr r, .agg #[num o.key, u64v o.val, .bool o.dirty]] wr fun q w' => q = .returned (.tuple #[entV (putE M ⟨o.key, o.val, o.dirty⟩ L), .bool (putB M ⟨o.key, o.val, o.dirty⟩ L)]) ∧ (∃ v', PlO w w' c r ob M v' Lc (putL M ⟨o.key, o.val, o.dirty⟩ L) o) ∧ Stp (fun g => g = r) wr w' := by
  refine (kPut_ok h.ref (by omega) h1 hM hd ⟨o.key, o.val, o.dirty⟩).mono ?_
  rintro q w' ⟨rfl, hS⟩
  exact ⟨rfl, h.doc hS⟩
theorem PlO.get {w wr : World} {c r ob : Nat} {M : Int} {v : Value} {L : List Ent} {o : OpE} (h : PlO w wr c r ob M v L L o) (hk : I64 o.key) :
    Calls Try.prog 14 #[ptr c, num o.key] wr fun q w' => q = .returned (.tuple #[u64v (getV L o.key), .bool (look L o.key).isSome]) ∧ PlO w w' c r ob M v (getL L o.key) L o := by
  refine (Get_ok h.cl hk).mono ?_
  rintro q w' ⟨rfl, hC, hs⟩
  exact ⟨rfl, h.prog hC hs⟩
theorem PlO.kget {w wr : World} {c r ob : Nat} {M : Int} {v : Value} {Lc L : List Ent} {o : OpE} (h : PlO w wr c r ob M v Lc L o) (hl : L.length ≤ 1000) (hd : (L.map Ent.key).Nodup) :
    Calls Try.prog 15 #[ptr r, num o.key] wr fun q w' => q = .returned (.tuple #[u64v (getV L o.key), .bool (look L o.key).isSome]) ∧ (∃ v', PlO w w' c r ob M v' Lc (getL L o.key) o) ∧ Stp (fun g => g = r) wr w' := by
  refine (kGet_ok h.ref (by omega) hd o.key).mono ?_
  rintro q w' ⟨rfl, hS⟩
  exact ⟨rfl, h.doc hS⟩
theorem PlO.drop {w wr : World} {c r ob : Nat} {M : Int} {v : Value} {L : List Ent} {o : OpE} (h : PlO w wr c r ob M v L L o) (hk : I64 o.key) :
    Calls Try.prog 19 #[ptr c, num o.key] wr fun q w' => q = .returned (.tuple #[entV (dropE L o.key), .bool (look L o.key).isSome]) ∧ PlO w w' c r ob M v (rest L o.key) L o := by
  refine (Drop_ok h.cl hk).mono ?_
  rintro q w' ⟨rfl, hC, hs⟩
  exact ⟨rfl, h.prog hC hs⟩
theorem PlO.kdrop {w wr : World} {c r ob : Nat} {M : Int} {v : Value} {Lc L : List Ent} {o : OpE} (h : PlO w wr c r ob M v Lc L o) (hl : L.length ≤ 1000) (hd : (L.map Ent.key).Nodup) :
    Calls Try.prog 20 #[ptr r, num o.key] wr fun q w' => q = .returned (.tuple #[entV (dropE L o.key), .bool (look L o.key).isSome]) ∧ (∃ v', PlO w w' c r ob M v' Lc (rest L o.key) o) ∧ Stp (fun g => g = r) wr w' := by
  refine (kDrop_ok h.ref (by omega) hd o.key).mono ?_
  rintro q w' ⟨rfl, hS⟩
  exact ⟨rfl, h.doc hS⟩
/-- Both have cleaned. -/
theorem PlO.clean {w wr : World} {c r ob : Nat} {M : Int} {v : Value} {L : List Ent} {o : OpE} (h : PlO w wr c r ob M v L L o) (hl : L.length ≤ 1000) (lo hi : Int) :
    Calls Try.prog 17 #[ptr c, num lo, num hi] wr fun q w' => ∃ va, q = .returned va ∧ PlO w w' c r ob M v (L.map (wash lo hi)) L o ∧ ∀ w1, w'.grownBy w1 none → Calls Try.prog 18 #[ptr r, num lo, num hi] w1 fun q w2 => ∃ vb, q = .returned vb ∧ PlO w w2 c r ob M v (L.map (wash lo hi)) (L.map (wash lo hi)) o ∧
      ∀ w3, w2.grownBy w3 none → Calls Try.prog 16 #[va, vb] w3 fun e w4 => e = .returned (.bool true) ∧ w3.grownBy w4 none := by
  have hd := h.cl.once
  have hlt := fun x hx => h.ref.own x hx
  refine (Clean_ok h.cl (by omega) lo hi).mono ?_
  rintro q w' ⟨va, X, rfl, hp, hr, ho, hC', hs⟩
  have h' : PlO w w' c r ob M v (L.map (wash lo hi)) L o := h.prog (hC'.less fun g _ k => k.1) hs
  refine ⟨va, rfl, h', fun w1 hg1 => ?_⟩
  have h1 := h'.grown hg1
  refine (kClean_ok h1.ref (by omega) lo hi).mono ?_
  rintro q w2 ⟨vb, Y, rfl, hp2, hr2, ho2, hR2, hs2⟩
  have hndX : ∀ Z : List Ent, Z.Perm (L.filter (isD lo hi)) → (Z.map Ent.key).Nodup := fun Z hZ => (hZ.map Ent.key).nodup_iff.2 (hd.sublist (List.filter_sublist.map _))
  have hXY : X = Y := up_unique (hp.trans hp2.symm) (up_of hr (hndX X hp)) (up_of hr2 (hndX Y hp2))
  subst hXY
  have hav : ∀ g, va.ownBlock = some g → v.ownBlock ≠ some g := fun g hg e => by have := (ho.lt g hg).1; have := hlt g e; omega
  have hoA : w2.ownsRow wr.heap.size 37 3 va X.length (entC X) := by
    refine ⟨ho.1, ?_⟩
    rcases ho.2 with h0 | ⟨g, cap, cur, e1, e2, e3, e4⟩
    · exact .inl h0
    · have e5 := (hg1.block g (lt_of_heap e3) (by simp)).trans e3
      exact .inr ⟨g, cap, cur, e1, e2, (hs2.same g (lt_of_heap e5) (hav g (by rw [e1]; rfl))).trans e5, e4⟩
  have hXl : X.length ≤ 1000 := by
    have := hp.length_eq
    have := List.length_filter_le (isD lo hi) L
    omega
  refine ⟨vb, rfl, ⟨h1.cl.stp hs2 (fun g t k => k.1.2.2 t), hR2, ?_, hs2.obj h.own h1.box, h.ne, h.own⟩, fun w3 hg3 => ?_⟩
  · exact Stp.back (S := fun g => v.ownBlock = some g) h1.gr hs2 (fun g t => (h1.ref.row.lt g t).1)
  · have hA3 : w3.ownsRow wr.heap.size 37 3 va X.length (entC X) := hoA.kept hg3 (by cases va.ownBlock with | none => exact .inl rfl | some y => exact .inr (by simp))
    exact rows_ok hA3 (ownsR_stp ho2 (T := No) (.of_grown hg3) (fun _ _ k => k)) (by omega)
end Lr
end Go.Proofs.Ytlgomaohfhgkpaa
