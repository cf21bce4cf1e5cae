/- Layer 8 (record): rows of records that can be read; are two alike; an argument that is such a row. -/
import Derived.Test.YtfmkmfjmhpgglaaDoorRn
import Derived.Test.YtfmkmfjmhpgglaaDoorRi
namespace Go.Proofs.YtfmkmfjmhpgglaaDoor
open Go.ChangeShapes Go.WideShapes Go.ChangeAt Go.RowKit Go.Maps
namespace Rc
open Cr
def nthR (l : List Rec) (i : Nat) : Rec := l.getD i noR
structure Five (w : World) (g o : Nat) (r : Rec) : Prop where
  c0 : w.cell? ⟨g, o, none⟩ = some (num r.kind)
  c1 : w.cell? ⟨g, o + 1, none⟩ = some (q64 r.seq)
  c2 : w.cell? ⟨g, o + 2, none⟩ = some (q64 r.a)
  c3 : w.cell? ⟨g, o + 3, none⟩ = some (q64 r.b)
  c4 : w.cell? ⟨g, o + 4, none⟩ = some (q64 r.c)
theorem Five.more {w w' : World} {g o : Nat} {r : Rec} (h : Five w g o r) (hg : w.grownBy w' none) : Five w' g o r := by
  have e := cell_of_block (w := w) (w' := w') (o := o) (hg.block g (lt_of_cell h.c0) (by simp))
  have k := fun o => cell_of_block (w := w) (w' := w') (g := g) (o := o) (hg.block g (lt_of_cell h.c0) (by simp))
  exact ⟨(k _).trans h.c0, (k _).trans h.c1, (k _).trans h.c2, (k _).trans h.c3, (k _).trans h.c4⟩
def RdV (w : World) (v : Value) (l : List Rec) : Prop := ∃ ao cap, v = .slice ao l.length cap ∧ l.length ≤ cap ∧ (l = [] ∨ ∃ g off, ao = some ⟨g, off, none⟩ ∧ ∀ i, i < l.length → Five w g (off + i * 5) (nthR l i))
theorem RdV.more {w w' : World} {v : Value} {l : List Rec} (h : RdV w v l) (hg : w.grownBy w' none) : RdV w' v l := by
  obtain ⟨ao, cap, h1, h2, h3⟩ := h
  exact ⟨ao, cap, h1, h2, h3.imp id fun ⟨g, off, e, hh⟩ => ⟨g, off, e, fun i hi => (hh i hi).more hg⟩⟩
theorem valsR_at (l : List Rec) (i : Nat) (hi : i < l.length) : ∀ j v, (vals1 (nthR l i))[j]? = some v → (valsR l)[i * 5 + j]? = some v := by
  induction l generalizing i with
  | nil => simp at hi
  | cons r l ih =>
    intro j v hv
    have e : valsR (r :: l) = vals1 r ++ valsR l := by simp [valsR]
    have hj : j < 5 := (List.getElem?_eq_some_iff.1 hv).1
    cases i with
    | zero =>
      have : nthR (r :: l) 0 = r := rfl
      rw [this] at hv
      rw [e, Nat.zero_mul, Nat.zero_add, List.getElem?_append_left (by simpa using hj)]; exact hv
    | succ i =>
      have : nthR (r :: l) (i + 1) = nthR l i := rfl
      rw [this] at hv
      have := ih i (by simpa using hi) j v hv
      rw [e, List.getElem?_append_right (by simp; omega)]
      rw [show (i + 1) * 5 + j - (vals1 r).length = i * 5 + j by simp; omega]; exact this
theorem rdV_own {w : World} {base : Nat} {v : Value} {n : Nat} {l : List Rec} (h : w.ownsRow base 24 5 v n (valsR l)) : RdV w v l := by
  have hn : l.length = n := by have := h.1; rw [valsR_len] at this; omega
  rcases h.2 with ⟨rfl, hn0⟩ | ⟨g, cap, cur, rfl, hg, hh, hl, hq, hcs, ht⟩
  · refine ⟨none, 0, by rw [hn, hn0], by omega, .inl (List.eq_nil_of_length_eq_zero (by omega))⟩
  · refine ⟨some ⟨g, 0, none⟩, cap, by rw [hn], by omega, .inr ⟨g, 0, rfl, fun i hi => ?_⟩⟩
    have hc : ∀ j v, (vals1 (nthR l i))[j]? = some v → w.cell? ⟨g, 0 + i * 5 + j, none⟩ = some v := fun j v hv => by
      have h1 := valsR_at l i hi j v hv
      have hj : j < 5 := (List.getElem?_eq_some_iff.1 hv).1
      rw [← ht, List.getElem?_take_of_lt (by omega)] at h1
      rw [Nat.zero_add]
      simp only [World.cell?, hh]
      simpa using h1
    exact ⟨hc 0 _ rfl, hc 1 _ rfl, hc 2 _ rfl, hc 3 _ rfl, hc 4 _ rfl⟩
set_option maxHeartbeats 1600000 in
theorem same_eq {w : World} {v1 v2 : Value} {l : List Rec} (h1 : RdV w v1 l) (h2 : RdV w v2 l) (hl : l.length ≤ 1000000000000) : Calls Tryd.prog 14 #[v1, v2] w fun e w' => e = .returned (.bool true) ∧ w.grownBy w' none := by
  obtain ⟨a1, c1, rfl, _, r1⟩ := h1
  obtain ⟨a2, c2, rfl, _, r2⟩ := h2
  go_enter Tryd.func14, Tryd.ntmps14
  go_wp2_with fail
  go_loopw [5] (fun i wr => w.grownBy wr none ∧ ∃ k : Nat, k ≤ l.length ∧ i = num k) (fun i _ => l.length - (intOf i).toNat)
  case atStart => exact ⟨grownBy_refl _ _, 0, Nat.zero_le _, rfl⟩
  case round =>
    obtain ⟨hgr, k, hk, rfl⟩ := hrel
    by_cases hlt : k < l.length
    · have q1 : (k : Int) < (l.length : Int) := by omega
      have q2 : (k : Int) < 1000000000000 := by omega
      obtain ⟨g1, o1, rfl, f1⟩ := r1.resolve_left (fun e => by rw [e] at hlt; simp at hlt)
      obtain ⟨g2, o2, rfl, f2⟩ := r2.resolve_left (fun e => by rw [e] at hlt; simp at hlt)
      obtain ⟨x0, x1, x2, x3, x4⟩ := (f1 k hlt).more hgr
      obtain ⟨y0, y1, y2, y3, y4⟩ := (f2 k hlt).more hgr
      have hgd := grownBy_drew hgr
      have HG := hide hgd
      have HLT := hide hlt
      generalize nthR l k = R at *
      clear f1 f2 r1 r2 hgr hgd
      go_wp2_with fail
      go_region
      go_wp2
      go_roundw
      case rel => exact ⟨HG.out, k + 1, HLT.out, by go_num⟩
      case measure => have := HLT.out; simp [intOf]; omega
    · have q1 : ¬ (k : Int) < (l.length : Int) := by omega
      go_wp2
      go_ret
      exact ⟨rfl, hgr⟩
/-- An argument that is a row of records. -/
def ArgV (w : World) (ao : Option Addr) (len cap : Nat) (l : List Rec) : Prop := l.length = len ∧ RdV w (.slice ao len cap) l ∧ ∀ i, i < l.length → (nthR l i).Fits
set_option maxRecDepth 8000 in
theorem argV_of {W : World} {a0 : Option Addr} {len0 cap0 : Nat} {H : Type} {enc : TypeId × Value → H} {base : Nat} {d : DataW H} {ps : List MemPlace}
    (h0 : DataW.Trod enc Tryd.prog W base (fun _ => true) true 34 (.slice a0 len0 cap0) d ps) : ∃ l, ArgV W a0 len0 cap0 l ∧ len0 ≤ 9223372036854775807 := by
  obtain ⟨fuel, hf⟩ := h0
  rcases Deep.open_slice Tryd.underlying34 hf with ⟨hcs, _⟩ | ⟨a, len, cap, m, n, D, Pl, hcs, _, hl, hm, hmm, _, hx⟩
  · simp [Value.cells] at hcs
    obtain ⟨rfl, rfl, rfl⟩ := hcs
    exact ⟨[], ⟨rfl, ⟨none, 0, rfl, Nat.le_refl _, .inl rfl⟩, fun i hi => by simp at hi⟩, by omega⟩
  · simp [Value.cells] at hcs
    obtain ⟨rfl, rfl, rfl⟩ := hcs
    unfold maxLen at hm
    have hlm : len0 ≤ m := by rw [hmm]; split <;> omega
    rw [cellsR] at hx
    have each : ∀ i, i < len0 → ∃ r : Rec, (∀ j v, (vals1 r)[j]? = some v → W.cell? (a.add (i * 5 + j)) = some v) ∧ r.Fits := fun i hi => by
      obtain ⟨cs', h1, h2⟩ := hx i (by omega)
      obtain ⟨_, hlen, hcell⟩ := World.cells?_some h1
      obtain ⟨xs, k, _, _, _, hxl, hfs⟩ := DataW.trod_struct underR h2
      match cs', hlen with
      | [c0, c1, c2, c3, c4], _ =>
        have hxs : xs.length = 5 := by
          rw [hxl]
          have := congrArg Array.size fsR_map
          simpa using this
        obtain ⟨r, hr, e⟩ := five_of hxs (fun i f hi x hx => by
          have := hfs i f hi
          rw [hx] at this
          simpa using this)
        refine ⟨r, fun j v hv => ?_, hr⟩
        have hj : j < 5 := (List.getElem?_eq_some_iff.1 hv).1
        have := hcell j hj
        rw [Deep.add_add] at this
        rw [this, e]
        exact hv
    have hin : Inhabited Rec := ⟨noR⟩
    obtain ⟨q, hq⟩ := Deep.choose_lt (α := Rec) (h := each)
    have hnth : ∀ i, i < len0 → nthR ((List.range len0).map q) i = q i := fun i hi => by simp [nthR, hi]
    refine ⟨(List.range len0).map q, ⟨by simp, ⟨some a, cap0, by simp, by simpa using hl, ?_⟩, fun i hi => ?_⟩, by omega⟩
    · by_cases h0 : len0 = 0
      · subst h0; exact .inl (by simp)
      · obtain ⟨g, off, spot⟩ := a
        have hc := (hq 0 (by omega)).1 0 _ rfl
        have hspot : spot = none := by simpa [Addr.add] using World.cell?_spot hc
        subst hspot
        refine .inr ⟨g, off, rfl, fun i hi => ?_⟩
        have hi' : i < len0 := by simpa using hi
        have h1 := (hq i hi').1
        rw [hnth i hi']
        have h2 : ∀ j v, (vals1 (q i))[j]? = some v → W.cell? ⟨g, off + i * 5 + j, none⟩ = some v := fun j v hv => by
          have := h1 j v hv
          rw [addr_add', ← Nat.add_assoc] at this
          exact this
        exact ⟨h2 0 _ rfl, h2 1 _ rfl, h2 2 _ rfl, h2 3 _ rfl, h2 4 _ rfl⟩
    · have hi' : i < len0 := by simpa using hi
      rw [hnth i hi']
      exact (hq i hi').2
end Rc
end Go.Proofs.YtfmkmfjmhpgglaaDoor
