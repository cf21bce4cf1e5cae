/- Layer 10 (lru): arguments that are rows of numbers, of bools, of calls; ground of the rows. -/
import Derived.Test.YtlgomaohfhgkpaaLk
import Derived.ProofKit
import Derived.OpenShut
import Derived.ChangeOld
import Derived.Stop.Joined
import Derived.SizedLaws
import Derived.Deep.Slices
import Derived.Deep.Grids
import Derived.Deep.DeepHandedRow
namespace Go.Proofs.Ytlgomaohfhgkpaa
open Go.ChangeShapes Go.WideShapes Go.ChangeAt Go.RowKit Go.Maps
namespace Lr
theorem own : ownKnob Try.prog.godebug = none := by kernel_rfl
theorem laidOut : laidOutB Try.prog = true := by kernel_rfl
theorem i64_of_wf {x : Int} (h : (Lit.int .i64 x).wf = true) : I64 x := by
  simp [Lit.wf, IntKind.min, IntKind.max, IntKind.signed, IntKind.bits] at h
  unfold I64
  omega
theorem u64_of_wf {x : Int} (h : (Lit.int .u64 x).wf = true) : 0 ≤ x ∧ x ≤ 18446744073709551615 := by
  simp [Lit.wf, IntKind.min, IntKind.max, IntKind.signed, IntKind.bits] at h
  omega
def nthI (l : List Int) (k : Nat) : Int := l.getD k 0
/-- An argument that is a slice of numbers: those up to its length. -/
def Arg (w : World) (ao : Option Addr) (len : Nat) (xs : List Int) : Prop :=
  xs.length = len ∧ (∀ x ∈ xs, I64 x) ∧ (xs = [] ∨ ∃ g off, ao = some ⟨g, off, none⟩ ∧ ∀ i, i < xs.length → w.cell? ⟨g, off + i, none⟩ = some (num (nthI xs i)))
theorem Arg.more {w w' : World} {ao : Option Addr} {len : Nat} {xs : List Int} (h : Arg w ao len xs) (hg : w.grownBy w' none) : Arg w' ao len xs := by
  refine ⟨h.1, h.2.1, ?_⟩
  rcases h.2.2 with h | ⟨g, off, h1, h2⟩
  · exact .inl h
  · exact .inr ⟨g, off, h1, fun i hi => by rw [cell_of_block (hg.block g (lt_of_cell (h2 i hi)) (by simp))]; exact h2 i hi⟩
theorem arg_of {W : World} {a0 : Option Addr} {len0 cap0 : Nat} {H : Type} {enc : TypeId × Value → H} {base : Nat} {d : DataW H} {ps : List MemPlace}
    (h0 : DataW.Trod enc Try.prog W base (fun _ => true) true 55 (.slice a0 len0 cap0) d ps) : ∃ xs, Arg W a0 len0 xs ∧ len0 ≤ 9223372036854775807 := by
  obtain ⟨fuel, hf⟩ := h0
  rcases open_ints Try.underlying55 Try.underlying3 (by kernel_rfl) hf with ⟨hcs, _⟩ | ⟨x, l, c, zs, hcs, _, hl, hm, hz, _, hcell, hwz⟩
  · simp [Value.cells] at hcs
    obtain ⟨rfl, rfl, rfl⟩ := hcs
    exact ⟨[], ⟨rfl, by simp, .inl rfl⟩, by omega⟩
  · simp [Value.cells] at hcs
    obtain ⟨rfl, rfl, rfl⟩ := hcs
    have hz' : zs.length = cap0 := by simpa using hz
    unfold maxLen at hm
    refine ⟨zs.take len0, ⟨by simp; omega, fun y hy => i64_of_wf (hwz y (List.mem_of_mem_take hy)), ?_⟩, by omega⟩
    by_cases h0 : len0 = 0
    · subst h0; exact .inl (by simp)
    · obtain ⟨g, off, spot⟩ := x
      have hc := hcell 0 (by omega)
      have hspot : spot = none := by simpa [Addr.add] using World.cell?_spot hc
      subst hspot
      refine .inr ⟨g, off, rfl, fun i hi => ?_⟩
      have hi' : i < zs.length := by simp at hi; omega
      have hi2 : i < len0 := by simp at hi; omega
      have := hcell i hi'
      rw [addr_add'] at this
      rw [this]
      simp [nthI, hi2]
theorem Arg.at {w wr : World} {ao : Option Addr} {len : Nat} {xs : List Int} (h : Arg w ao len xs) (s : Stp (fun g => w.heap.size ≤ g) w wr) {k : Nat} (hk : k < len) : ∃ g off, ao = some ⟨g, off, none⟩ ∧ wr.cell? ⟨g, off + k, none⟩ = some (num (nthI xs k)) ∧ I64 (nthI xs k) := by
  obtain ⟨h1, h2, h3⟩ := h
  rcases h3 with rfl | ⟨g, off, e, hc⟩
  · simp at h1; omega
  · have hk' : k < xs.length := by omega
    have hcell := hc k hk'
    have hlt := lt_of_cell hcell
    refine ⟨g, off, e, s.cell (by omega) hcell, ?_⟩
    have : nthI xs k = xs[k] := by simp [nthI, hk']
    rw [this]
    exact h2 _ (List.getElem_mem hk')
def nthB (l : List Bool) (k : Nat) : Bool := l.getD k false
/-- An argument that is a slice of bools: those up to its length. -/
def ArgL (w : World) (ao : Option Addr) (len : Nat) (xs : List Bool) : Prop :=
  xs.length = len ∧ (xs = [] ∨ ∃ g off, ao = some ⟨g, off, none⟩ ∧ ∀ i, i < xs.length → w.cell? ⟨g, off + i, none⟩ = some (.bool (nthB xs i)))
theorem argL_of {W : World} {a0 : Option Addr} {len0 cap0 : Nat} {H : Type} {enc : TypeId × Value → H} {base : Nat} {d : DataW H} {ps : List MemPlace}
    (h0 : DataW.Trod enc Try.prog W base (fun _ => true) true 56 (.slice a0 len0 cap0) d ps) : ∃ xs, ArgL W a0 len0 xs ∧ len0 ≤ 9223372036854775807 := by
  obtain ⟨fuel, hf⟩ := h0
  rcases Deep.open_bools Try.underlying56 Try.underlying4 (by kernel_rfl) hf with ⟨hcs, _⟩ | ⟨x, l, c, B, hcs, _, hl, hm, _, hcell⟩
  · simp [Value.cells] at hcs
    obtain ⟨rfl, rfl, rfl⟩ := hcs
    exact ⟨[], ⟨rfl, .inl rfl⟩, by omega⟩
  · simp [Value.cells] at hcs
    obtain ⟨rfl, rfl, rfl⟩ := hcs
    unfold maxLen at hm
    refine ⟨(List.range len0).map B, ⟨by simp, ?_⟩, by omega⟩
    by_cases h0 : len0 = 0
    · subst h0; exact .inl (by simp)
    · obtain ⟨g, off, spot⟩ := x
      have hc := hcell 0 (by omega)
      have hspot : spot = none := by simpa [Addr.add] using World.cell?_spot hc
      subst hspot
      refine .inr ⟨g, off, rfl, fun i hi => ?_⟩
      have hi2 : i < len0 := by simpa using hi
      have := hcell i (by omega)
      rw [addr_add'] at this
      rw [this]
      simp [nthB, hi2]
theorem ArgL.at {w wr : World} {ao : Option Addr} {len : Nat} {xs : List Bool} (h : ArgL w ao len xs) (s : Stp (fun g => w.heap.size ≤ g) w wr) {k : Nat} (hk : k < len) : ∃ g off, ao = some ⟨g, off, none⟩ ∧ wr.cell? ⟨g, off + k, none⟩ = some (.bool (nthB xs k)) := by
  obtain ⟨h1, h3⟩ := h
  rcases h3 with rfl | ⟨g, off, e, hc⟩
  · simp at h1; omega
  · have hcell := hc k (by omega)
    have hlt := lt_of_cell hcell
    exact ⟨g, off, e, s.cell (by omega) hcell⟩
structure OpE where
  kind : Int
  key : Int
  to : Int
  val : Int
  dirty : Bool
def noOp : OpE := ⟨0, 0, 0, 0, false⟩
def nthO (l : List OpE) (i : Nat) : OpE := l.getD i noOp
structure OpM (w : World) (g o : Nat) (x : OpE) : Prop where
  kind : w.cell? ⟨g, o, none⟩ = some (num x.kind)
  key : w.cell? ⟨g, o + 1, none⟩ = some (num x.key)
  to : w.cell? ⟨g, o + 2, none⟩ = some (num x.to)
  val : w.cell? ⟨g, o + 3, none⟩ = some (u64v x.val)
  dirty : w.cell? ⟨g, o + 4, none⟩ = some (.bool x.dirty)
structure OpI (x : OpE) : Prop where
  kind : I64 x.kind
  key : I64 x.key
  to : I64 x.to
  v0 : 0 ≤ x.val
  v1 : x.val ≤ 18446744073709551615
def ArgO (w : World) (ao : Option Addr) (len : Nat) (os : List OpE) : Prop :=
  os.length = len ∧ (os = [] ∨ ∃ g off, ao = some ⟨g, off, none⟩ ∧ ∀ i, i < os.length → OpM w g (off + i * 5) (nthO os i)) ∧ ∀ i, i < os.length → OpI (nthO os i)
theorem ArgO.at {w wr : World} {ao : Option Addr} {len : Nat} {os : List OpE} (h : ArgO w ao len os) (s : Stp (fun g => w.heap.size ≤ g) w wr) {k : Nat} (hk : k < len) : ∃ g off, ao = some ⟨g, off, none⟩ ∧ OpM wr g (off + k * 5) (nthO os k) ∧ OpI (nthO os k) := by
  obtain ⟨h1, h2, h3⟩ := h
  rcases h2 with rfl | ⟨g, off, e, hc⟩
  · simp at h1; omega
  · have hm := hc k (by omega)
    have hlt := lt_of_cell hm.kind
    exact ⟨g, off, e, ⟨s.cell (by omega) hm.kind, s.cell (by omega) hm.key, s.cell (by omega) hm.to, s.cell (by omega) hm.val, s.cell (by omega) hm.dirty⟩, h3 k (by omega)⟩
noncomputable def fsOp : Array Field := match Try.prog.underlying 34 with | some (.struct fs) => fs | _ => #[]
theorem underOp : Try.prog.underlying 34 = some (.struct fsOp) := by kernel_rfl
theorem fsOp_map : (fsOp.map fun f => (f.offset, f.type)) = #[(0, 3), (1, 3), (2, 3), (3, 32), (4, 4)] := by kernel_rfl
theorem fsOp_at (i : Nat) (hi : i < 5) : ∃ f, fsOp[i]? = some f ∧ f.offset = i ∧ f.type = (if i = 3 then 32 else if i = 4 then 4 else 3) := by
  have h2 : (fsOp.map fun f => (f.offset, f.type))[i]? = (#[(0, 3), (1, 3), (2, 3), (3, 32), (4, 4)] : Array (Nat × Nat))[i]? := by rw [fsOp_map]
  rw [Array.getElem?_map] at h2
  have hc : i = 0 ∨ i = 1 ∨ i = 2 ∨ i = 3 ∨ i = 4 := by omega
  rcases hc with rfl | rfl | rfl | rfl | rfl <;> (simp at h2; obtain ⟨f, hf, h3, h4⟩ := h2; exact ⟨f, hf, h3, by simpa using h4⟩)
theorem cellsI : Try.prog.cellsOf 3 = 1 := by kernel_rfl
theorem cellsU : Try.prog.cellsOf 32 = 1 := by kernel_rfl
theorem cellsB : Try.prog.cellsOf 4 = 1 := by kernel_rfl
theorem cellsOp : Try.prog.cellsOf 34 = 5 := by kernel_rfl
set_option maxRecDepth 8000 in
theorem argO_of {W : World} {a0 : Option Addr} {len0 cap0 : Nat} {H : Type} {enc : TypeId × Value → H} {base : Nat} {d : DataW H} {ps : List MemPlace}
    (h0 : DataW.Trod enc Try.prog W base (fun _ => true) true 22 (.slice a0 len0 cap0) d ps) : ∃ os, ArgO W a0 len0 os ∧ len0 ≤ 9223372036854775807 := by
  obtain ⟨fuel, hf⟩ := h0
  rcases Deep.open_slice Try.underlying22 hf with ⟨hcs, _⟩ | ⟨a, len, cap, m, n, D, Pl, hcs, _, hl, hm, hmm, _, hx⟩
  · simp [Value.cells] at hcs
    obtain ⟨rfl, rfl, rfl⟩ := hcs
    exact ⟨[], ⟨rfl, .inl rfl, fun i hi => by simp at hi⟩, by omega⟩
  · simp [Value.cells] at hcs
    obtain ⟨rfl, rfl, rfl⟩ := hcs
    unfold maxLen at hm
    have hlm : len0 ≤ m := by rw [hmm]; split <;> omega
    rw [cellsOp] at hx
    have each : ∀ i, i < len0 → ∃ x : OpE, (∀ j v, [num x.kind, num x.key, num x.to, u64v x.val, Value.bool x.dirty][j]? = some v → W.cell? (a.add (i * 5 + j)) = some v) ∧ OpI x := fun i hi => by
      obtain ⟨cs', h1, h2⟩ := hx i (by omega)
      obtain ⟨_, hlen, hcell⟩ := World.cells?_some h1
      obtain ⟨xs, k, _, _, _, hxl, hfs⟩ := DataW.trod_struct underOp h2
      match cs', hlen with
      | [c0, c1, c2, c3, c4], _ =>
        have hxs : xs.length = 5 := by
          rw [hxl]
          have := congrArg Array.size fsOp_map
          simpa using this
        have hint : ∀ j (hj : j < 3) c, [c0, c1, c2, c3, c4][j]? = some c → ∃ z, c = num z ∧ I64 z := fun j hj c hc => by
          obtain ⟨f, f1, f2, f3⟩ := fsOp_at j (by omega)
          have := hfs j f f1
          rw [f2, f3, if_neg (by omega), if_neg (by omega), cellsI] at this
          have hc' : List.take 1 (List.drop j [c0, c1, c2, c3, c4]) = [c] := by
            have : j = 0 ∨ j = 1 ∨ j = 2 := by omega
            rcases this with rfl | rfl | rfl <;> (simp at hc; subst hc; rfl)
          rw [hc', List.getElem?_eq_getElem (by omega)] at this
          obtain ⟨z, hz1, _, hz3⟩ := DataW.trod_int Try.underlying3 this
          exact ⟨z, by simpa using hz1, i64_of_wf hz3⟩
        have hu : ∃ z, c3 = u64v z ∧ 0 ≤ z ∧ z ≤ 18446744073709551615 := by
          obtain ⟨f, f1, f2, f3⟩ := fsOp_at 3 (by omega)
          have := hfs 3 f f1
          rw [f2, f3, if_pos rfl, cellsU] at this
          have hc' : List.take 1 (List.drop 3 [c0, c1, c2, c3, c4]) = [c3] := rfl
          rw [hc', List.getElem?_eq_getElem (by omega)] at this
          obtain ⟨z, hz1, _, hz3⟩ := DataW.trod_int Try.underlying32 this
          exact ⟨z, by simpa using hz1, u64_of_wf hz3⟩
        have hbo : ∃ b, c4 = Value.bool b := by
          obtain ⟨f, f1, f2, f3⟩ := fsOp_at 4 (by omega)
          have := hfs 4 f f1
          rw [f2, f3, if_neg (by omega), if_pos rfl, cellsB] at this
          have hc' : List.take 1 (List.drop 4 [c0, c1, c2, c3, c4]) = [c4] := rfl
          rw [hc', List.getElem?_eq_getElem (by omega)] at this
          obtain ⟨b, hz1, _⟩ := DataW.trod_bool Try.underlying4 this
          exact ⟨b, by simpa using hz1⟩
        obtain ⟨z0, rfl, i0⟩ := hint 0 (by omega) c0 rfl
        obtain ⟨z1, rfl, i1⟩ := hint 1 (by omega) c1 rfl
        obtain ⟨z2, rfl, i2⟩ := hint 2 (by omega) c2 rfl
        obtain ⟨z3, rfl, i3⟩ := hu
        obtain ⟨z4, rfl⟩ := hbo
        refine ⟨⟨z0, z1, z2, z3, z4⟩, fun j v hv => ?_, ⟨i0, i1, i2, i3.1, i3.2⟩⟩
        have hj : j < 5 := (List.getElem?_eq_some_iff.1 hv).1
        have := hcell j hj
        rw [Deep.add_add] at this
        rw [this]
        exact hv
    have hin : Inhabited OpE := ⟨noOp⟩
    obtain ⟨q, hq⟩ := Deep.choose_lt (α := OpE) (h := each)
    have hnth : ∀ i, i < len0 → nthO ((List.range len0).map q) i = q i := fun i hi => by simp [nthO, hi]
    refine ⟨(List.range len0).map q, ⟨by simp, ?_, fun i hi => ?_⟩, by omega⟩
    · by_cases h0 : len0 = 0
      · subst h0; exact .inl (by simp)
      · obtain ⟨g, off, spot⟩ := a
        have hc := (hq 0 (by omega)).1 0 _ rfl
        have hspot : spot = none := by simpa [Addr.add] using World.cell?_spot hc
        subst hspot
        refine .inr ⟨g, off, rfl, fun i hi => ?_⟩
        have hi' : i < len0 := by simpa using hi
        have h1 := (hq i hi').1
        rw [hnth i hi']
        have h2 : ∀ j v, [num (q i).kind, num (q i).key, num (q i).to, u64v (q i).val, Value.bool (q i).dirty][j]? = some v → W.cell? ⟨g, off + i * 5 + j, none⟩ = some v := fun j v hv => by
          have := h1 j v hv
          rw [addr_add', ← Nat.add_assoc] at this
          exact this
        exact ⟨h2 0 _ rfl, h2 1 _ rfl, h2 2 _ rfl, h2 3 _ rfl, h2 4 _ rfl⟩
    · have hi' : i < len0 := by simpa using hi
      rw [hnth i hi']
      exact (hq i hi').2
end Lr
end Go.Proofs.Ytlgomaohfhgkpaa
