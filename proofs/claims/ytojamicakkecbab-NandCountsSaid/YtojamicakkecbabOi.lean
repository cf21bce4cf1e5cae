/- Layer 4 (nand): an argument that is a row of faults. -/
import Derived.Test.YtojamicakkecbabNx
import Derived.Test.YtojamicakkecbabOh
import Derived.SizedLaws
namespace Go.Proofs.Ytojamicakkecbab
open Go.ChangeShapes Go.WideShapes Go.ChangeAt Go.RowKit Go.Maps
namespace Nd
theorem rdI_of {W : World} {H : Type} {enc : TypeId × Value → H} {base fuel : Nat} {cs : List Value} {x : DataW H × List MemPlace} (hf : DataW.trod enc Try.prog W base (fun _ => true) true fuel 45 cs = some x) :
    ∃ a0 len0 cap0 bits, cs = [.slice a0 len0 cap0] ∧ bits.length = len0 ∧ (bits = [] ∨ ∃ g off, a0 = some ⟨g, off, none⟩ ∧ ∀ i, i < bits.length → W.cell? ⟨g, off + i, none⟩ = some (num (nthI bits i))) ∧ ((∀ n ∈ x.1.weights Try.prog 45, n ≤ reachBytes) → len0 ≤ 17592186043904) := by
  rcases open_ints Try.underlying45 Try.underlying3 (by kernel_rfl) hf with ⟨hcs, _⟩ | ⟨a, l, c, zs, hcs, _, hl, hm, hz, hx, hcell, hwz⟩
  · exact ⟨none, 0, 0, [], hcs, rfl, .inl rfl, fun _ => by omega⟩
  · have hz' : zs.length = c := by simpa using hz
    refine ⟨some a, l, c, zs.take l, hcs, by simp; omega, ?_, fun hw => ?_⟩
    · by_cases h0 : l = 0
      · subst h0; exact .inl (by simp)
      · obtain ⟨g, off, spot⟩ := a
        have hc := hcell 0 (by omega)
        have hspot : spot = none := by simpa [Addr.add] using World.cell?_spot hc
        subst hspot
        refine .inr ⟨g, off, rfl, fun i hi => ?_⟩
        have hi' : i < zs.length := by simp at hi; omega
        have hi2 : i < l := by simp at hi; omega
        have := hcell i hi'
        rw [addr_add'] at this
        rw [this]
        simp [nthI, hi2]
    · subst hx
      have hb : Try.prog.bytesOf 3 = 8 := by kernel_rfl
      have := hw (((lits (H := H) .i64 (zs.take l)).length + (lits (H := H) .i64 (zs.drop l)).length) * Try.prog.bytesOf 3) (by simp [DataW.weights, Try.underlying45, lits])
      rw [hb] at this
      simp only [lits, List.length_map, List.length_take, List.length_drop, reachBytes] at this
      omega
theorem weights_mem_all {H : Type} {P : Program} {e : TypeId} {d : DataW H} : ∀ {l : List (DataW H)}, d ∈ l → ∀ n ∈ d.weights P e, n ∈ DataW.weightsAll P e l
  | x :: r, h, n, hn => by
    simp only [DataW.weightsAll, List.mem_append]
    rcases List.mem_cons.1 h with rfl | h
    · exact .inl hn
    · exact .inr (weights_mem_all h n hn)
noncomputable def fsFa : Array Field := match Try.prog.underlying 47 with | some (.struct fs) => fs | _ => #[]
theorem underFa : Try.prog.underlying 47 = some (.struct fsFa) := by kernel_rfl
theorem fsFa_map : (fsFa.map fun f => (f.offset, f.type)) = #[(0, 3), (1, 3), (2, 3), (3, 3), (4, 3), (5, 3), (6, 3), (7, 45)] := by kernel_rfl
theorem fsFa_at (i : Nat) (hi : i < 8) : ∃ f, fsFa[i]? = some f ∧ f.offset = i ∧ f.type = (if i = 7 then 45 else 3) := by
  have h2 : (fsFa.map fun f => (f.offset, f.type))[i]? = (#[(0, 3), (1, 3), (2, 3), (3, 3), (4, 3), (5, 3), (6, 3), (7, 45)] : Array (Nat × Nat))[i]? := by rw [fsFa_map]
  rw [Array.getElem?_map] at h2
  have hc : i = 0 ∨ i = 1 ∨ i = 2 ∨ i = 3 ∨ i = 4 ∨ i = 5 ∨ i = 6 ∨ i = 7 := by omega
  rcases hc with rfl | rfl | rfl | rfl | rfl | rfl | rfl | rfl <;> (simp at h2; obtain ⟨f, hf, h3, h4⟩ := h2; exact ⟨f, hf, h3, by simpa using h4⟩)
theorem cellsI : Try.prog.cellsOf 45 = 1 := by kernel_rfl
theorem cellsFa : Try.prog.cellsOf 47 = 8 := by kernel_rfl
structure FltI (W : World) (f : Flt) : Prop where
  at_ : I64 f.at_
  part : I64 f.part
  times : I64 f.times
  bits : BitsR W f
/-- An argument that is a row of faults. -/
def ArgF (w : World) (ao : Option Addr) (len : Nat) (fs : List Flt) : Prop := fs.length = len ∧ FaultsM w ao fs ∧ ∀ f ∈ fs, I64 f.at_ ∧ I64 f.part ∧ I64 f.times ∧ f.bits.length ≤ 35184372088832
set_option maxRecDepth 8000 in
set_option maxHeartbeats 1600000 in
theorem argF_of {W : World} {a0 : Option Addr} {len0 cap0 : Nat} {H : Type} {enc : TypeId × Value → H} {base : Nat} {d : DataW H} {ps : List MemPlace}
    (h0 : DataW.Trod enc Try.prog W base (fun _ => true) true 22 (.slice a0 len0 cap0) d ps) (hsz : ∀ n ∈ d.weights Try.prog 22, n ≤ reachBytes) : ∃ fs, ArgF W a0 len0 fs ∧ len0 ≤ 9223372036854775807 := by
  obtain ⟨fuel, hf⟩ := h0
  rcases Deep.open_slice Try.underlying22 hf with ⟨hcs, _⟩ | ⟨a, len, cap, m, n, D, Pl, hcs, _, hl, hm, hmm, hxe, hx⟩
  · simp [Value.cells] at hcs
    obtain ⟨rfl, rfl, rfl⟩ := hcs
    exact ⟨[], ⟨rfl, ⟨.inl rfl, fun f hf => by cases hf⟩, fun f hf => by cases hf⟩, by omega⟩
  · simp [Value.cells] at hcs
    obtain ⟨rfl, rfl, rfl⟩ := hcs
    unfold maxLen at hm
    have hlm : len0 ≤ m := by rw [hmm]; split <;> omega
    simp only [Prod.mk.injEq] at hxe
    have hwD : ∀ i, i < len0 → ∀ n ∈ (D i).weights Try.prog 47, n ≤ reachBytes := fun i hi n hn => by
      refine hsz n ?_
      rw [hxe.1]
      simp only [DataW.weights, Try.underlying22, List.mem_cons, List.mem_append]
      exact .inr (.inl (weights_mem_all (List.mem_map.2 ⟨i, List.mem_range.2 hi, rfl⟩) n hn))
    rw [cellsFa] at hx
    have each : ∀ i, i < len0 → ∃ x : Flt, (∀ j v, (fltL x)[j]? = some v → W.cell? (a.add (i * 8 + j)) = some v) ∧ FltI W x ∧ x.bits.length ≤ 17592186043904 := fun i hi => by
      obtain ⟨cs', h1, h2⟩ := hx i (by omega)
      obtain ⟨_, hlen, hcell⟩ := World.cells?_some h1
      obtain ⟨xs, k, _, hDx, _, hxl, hfs⟩ := DataW.trod_struct underFa h2
      match cs', hlen with
      | [c0, c1, c2, c3, c4, c5, c6, c7], _ =>
        have hxs : xs.length = 8 := by
          rw [hxl]
          have := congrArg Array.size fsFa_map
          simpa using this
        have hint : ∀ j (hj : j < 7) c, [c0, c1, c2, c3, c4, c5, c6, c7][j]? = some c → ∃ z, c = num z ∧ I64 z := fun j hj c hc => by
          obtain ⟨f, f1, f2, f3⟩ := fsFa_at j (by omega)
          have := hfs j f f1
          rw [f2, f3, if_neg (by omega), cells3] at this
          have hc' : List.take 1 (List.drop j [c0, c1, c2, c3, c4, c5, c6, c7]) = [c] := by
            have : j = 0 ∨ j = 1 ∨ j = 2 ∨ j = 3 ∨ j = 4 ∨ j = 5 ∨ j = 6 := by omega
            rcases this with rfl | rfl | rfl | rfl | rfl | rfl | rfl <;> (simp at hc; subst hc; rfl)
          rw [hc', List.getElem?_eq_getElem (by omega)] at this
          obtain ⟨z, hz1, _, hz3⟩ := DataW.trod_int Try.underlying3 this
          exact ⟨z, by simpa using hz1, i64_of_wf hz3⟩
        obtain ⟨z0, rfl, i0⟩ := hint 0 (by omega) c0 rfl
        obtain ⟨z1, rfl, i1⟩ := hint 1 (by omega) c1 rfl
        obtain ⟨z2, rfl, i2⟩ := hint 2 (by omega) c2 rfl
        obtain ⟨z3, rfl, i3⟩ := hint 3 (by omega) c3 rfl
        obtain ⟨z4, rfl, i4⟩ := hint 4 (by omega) c4 rfl
        obtain ⟨z5, rfl, i5⟩ := hint 5 (by omega) c5 rfl
        obtain ⟨z6, rfl, i6⟩ := hint 6 (by omega) c6 rfl
        obtain ⟨f, f1, f2, f3⟩ := fsFa_at 7 (by omega)
        have h4 := hfs 7 f f1
        rw [f2, f3, if_pos rfl, cellsI, List.getElem?_eq_getElem (show 7 < xs.length by omega)] at h4
        obtain ⟨b0, bl, bcap, bs, hb1, hb2, hb3, hb4⟩ := rdI_of h4
        have hbw := hb4 (fun n hn => hwD i hi n (by
          have hD : D i = .agg (xs.map (·.1)) := (Prod.mk.inj hDx).1
          rw [hD]
          simp only [DataW.weights, underFa]
          refine DataW.weights_mem_each (j := 7) (t := 45) (d := (xs[7]'(by omega)).1) ?_ ?_ n hn
          · have := fsFa_at 7 (by omega)
            obtain ⟨f, f1, _, f3⟩ := this
            rw [List.getElem?_map, Array.getElem?_toList, f1]
            simp [f3]
          · simp [show 7 < xs.length by omega]))
        simp at hb1
        subst hb1
        refine ⟨⟨z0, z1, z2, z3, z4, z5, z6, bs, b0, bcap⟩, fun j v hv => ?_, ⟨i1, i6, i5, hb3⟩, by show bs.length ≤ _; omega⟩
        have hj : j < 8 := (List.getElem?_eq_some_iff.1 hv).1
        have := hcell j hj
        rw [Deep.add_add] at this
        rw [this]
        have hv' : [num z0, num z1, num z2, num z3, num z4, num z5, num z6, Value.slice b0 bs.length bcap][j]? = some v := hv
        rw [hb2] at hv'
        exact hv'
    have hin : Inhabited Flt := ⟨⟨0, 0, 0, 0, 0, 0, 0, [], none, 0⟩⟩
    obtain ⟨q, hq⟩ := Deep.choose_lt (α := Flt) (h := each)
    refine ⟨(List.range len0).map q, ⟨by simp, ⟨?_, fun f hf => ?_⟩, fun f hf => ?_⟩, by omega⟩
    · by_cases h0 : len0 = 0
      · subst h0; exact .inl (by simp)
      · obtain ⟨g, off, spot⟩ := a
        have hc := (hq 0 (by omega)).1 0 _ rfl
        have hspot : spot = none := by simpa [Addr.add] using World.cell?_spot hc
        subst hspot
        refine .inr ⟨g, off, rfl, fun i f hf j v hv => ?_⟩
        have hi' : i < len0 := by
          have := (List.getElem?_eq_some_iff.1 hf).1
          simpa using this
        have hfe : f = q i := by
          rw [List.getElem?_map, List.getElem?_range hi'] at hf
          exact (Option.some.inj hf).symm
        subst hfe
        have := (hq i hi').1 j v hv
        rw [addr_add', ← Nat.add_assoc] at this
        exact this
    · obtain ⟨i, hi, rfl⟩ := List.mem_map.1 hf
      have := hq i (List.mem_range.1 hi)
      exact ⟨this.2.1.bits, by omega⟩
    · obtain ⟨i, hi, rfl⟩ := List.mem_map.1 hf
      have := hq i (List.mem_range.1 hi)
      exact ⟨this.2.1.at_, this.2.1.part, this.2.1.times, by omega⟩
end Nd
end Go.Proofs.Ytojamicakkecbab
