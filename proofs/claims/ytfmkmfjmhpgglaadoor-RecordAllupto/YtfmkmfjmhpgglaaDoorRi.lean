/- Layer 8 (record): arguments that are records, or rows of them. -/
import Derived.Test.YtfmkmfjmhpgglaaDoorRa
import Derived.Deep.Slices
import Derived.Deep.DeepHandedRow
import Derived.Lib.SmallJoins
namespace Go.Proofs.YtfmkmfjmhpgglaaDoor
open Go.ChangeShapes Go.WideShapes Go.ChangeAt Go.RowKit Go.Maps
namespace Rc
open Cr
theorem u64_of_wf {x : Int} (h : (Lit.int .u64 x).wf = true) : 0 ≤ x ∧ x < 18446744073709551616 := by
  simp [Lit.wf, IntKind.min, IntKind.max, IntKind.signed, IntKind.bits] at h
  omega
noncomputable def fsR : Array Field := match Tryd.prog.underlying 24 with | some (.struct fs) => fs | _ => #[]
theorem underR : Tryd.prog.underlying 24 = some (.struct fsR) := by kernel_rfl
theorem fsR_map : (fsR.map fun f => (f.offset, f.type)) = #[(0, 3), (1, 22), (2, 22), (3, 22), (4, 22)] := by kernel_rfl
theorem cellsR : Tryd.prog.cellsOf 24 = 5 := by kernel_rfl
theorem cells3 : Tryd.prog.cellsOf 3 = 1 := by kernel_rfl
theorem cells22 : Tryd.prog.cellsOf 22 = 1 := by kernel_rfl
theorem fsR_zero : ∃ f, fsR[0]? = some f ∧ f.offset = 0 ∧ f.type = 3 := by
  have h2 : (fsR.map fun f => (f.offset, f.type))[0]? = (#[(0, 3), (1, 22), (2, 22), (3, 22), (4, 22)] : Array (Nat × Nat))[0]? := by rw [fsR_map]
  rw [Array.getElem?_map] at h2
  simp at h2; obtain ⟨f, hf, h3, h4⟩ := h2; exact ⟨f, hf, h3, h4⟩
theorem fsR_at (i : Nat) (h1 : 1 ≤ i) (hi : i < 5) : ∃ f, fsR[i]? = some f ∧ f.offset = i ∧ f.type = 22 := by
  have h2 : (fsR.map fun f => (f.offset, f.type))[i]? = (#[(0, 3), (1, 22), (2, 22), (3, 22), (4, 22)] : Array (Nat × Nat))[i]? := by rw [fsR_map]
  rw [Array.getElem?_map] at h2
  have hc : i = 1 ∨ i = 2 ∨ i = 3 ∨ i = 4 := by omega
  rcases hc with rfl | rfl | rfl | rfl <;> (simp at h2; obtain ⟨f, hf, h3, h4⟩ := h2; exact ⟨f, hf, h3, h4⟩)
section
variable {W : World} {H : Type} {enc : TypeId × Value → H} {base : Nat}
/-- Five cells that a reading takes for a record. -/
theorem five_of {fuel : Nat} {c0 c1 c2 c3 c4 : Value} {xs : List (DataW H × List MemPlace)} (hxl : xs.length = 5)
    (hfs : ∀ (i : Nat) (f : Field), fsR[i]? = some f → ∀ x, xs[i]? = some x → DataW.trod enc Tryd.prog W base (fun _ => true) true fuel f.type ((([c0, c1, c2, c3, c4] : List Value).drop f.offset).take (Tryd.prog.cellsOf f.type)) = some x) :
    ∃ r : Rec, r.Fits ∧ [c0, c1, c2, c3, c4] = [num r.kind, q64 r.seq, q64 r.a, q64 r.b, q64 r.c] := by
  have z : ∃ z, c0 = num z ∧ I64 z := by
    obtain ⟨f, f1, f2, f3⟩ := fsR_zero
    have := hfs 0 f f1 _ (List.getElem?_eq_getElem (by omega))
    rw [f2, f3, cells3] at this
    obtain ⟨z, e, _, w⟩ := DataW.trod_int Tryd.underlying3 this
    exact ⟨z, by simpa using e, i64_of_wf w⟩
  have u : ∀ (i : Nat) (c : Value), 1 ≤ i → i < 5 → [c0, c1, c2, c3, c4][i]? = some c → ∃ n, c = q64 n ∧ U64 n := fun i c h1 hi hc => by
    obtain ⟨f, f1, f2, f3⟩ := fsR_at i h1 hi
    have := hfs i f f1 _ (List.getElem?_eq_getElem (by omega))
    rw [f2, f3, cells22] at this
    have hc' : List.take 1 (List.drop i [c0, c1, c2, c3, c4]) = [c] := by
      have : i = 1 ∨ i = 2 ∨ i = 3 ∨ i = 4 := by omega
      rcases this with rfl | rfl | rfl | rfl <;> (simp at hc; subst hc; rfl)
    rw [hc'] at this
    obtain ⟨z, e, _, w⟩ := DataW.trod_int Tryd.underlying22 this
    have hw := u64_of_wf w
    obtain ⟨n, rfl⟩ := Int.eq_ofNat_of_zero_le hw.1
    exact ⟨n, by simpa using e, by unfold U64; omega⟩
  obtain ⟨k, rfl, hk⟩ := z
  obtain ⟨s, rfl, hs⟩ := u 1 c1 (by omega) (by omega) rfl
  obtain ⟨a, rfl, ha⟩ := u 2 c2 (by omega) (by omega) rfl
  obtain ⟨b, rfl, hb⟩ := u 3 c3 (by omega) (by omega) rfl
  obtain ⟨c, rfl, hc⟩ := u 4 c4 (by omega) (by omega) rfl
  exact ⟨⟨k, s, a, b, c⟩, ⟨hk, hs, ha, hb, hc⟩, rfl⟩
theorem rec_of {b : Nat} {v : Value} {d : DataW H} {ps : List MemPlace} (hv : Value.okWide Tryd.prog W .any b 24 v) (h0 : DataW.Trod enc Tryd.prog W base (fun _ => true) true 24 v d ps) : ∃ r : Rec, v = recV r ∧ r.Fits := by
  obtain ⟨cs, rfl, hsz⟩ := okWide_struct underR hv
  have h5 : cs.size = 5 := hsz.trans cellsR
  obtain ⟨c0, c1, c2, c3, c4, rfl⟩ : ∃ c0 c1 c2 c3 c4, cs = #[c0, c1, c2, c3, c4] := by
    obtain ⟨l⟩ := cs
    match l, h5 with
    | [c0, c1, c2, c3, c4], _ => exact ⟨c0, c1, c2, c3, c4, rfl⟩
  obtain ⟨fuel, hf⟩ := h0
  obtain ⟨xs, k, _, _, _, hxl, hfs⟩ := DataW.trod_struct underR hf
  have hxs : xs.length = 5 := by
    rw [hxl]
    have := congrArg Array.size fsR_map
    simpa using this
  obtain ⟨r, hr, e⟩ := five_of hxs (fun i f hi x hx => by
    have := hfs i f hi
    rw [hx] at this
    simpa [Value.cells] using this)
  refine ⟨r, ?_, hr⟩
  have := congrArg List.toArray e
  simp only [recV]
  exact congrArg Value.agg this
end
end Rc
end Go.Proofs.YtfmkmfjmhpgglaaDoor
