/- Layer 4 (nand): arguments that are rows of bytes, rows of operations. -/
import Derived.Test.YtojamicakkecbabNw
import Derived.Deep.Slices
namespace Go.Proofs.Ytojamicakkecbab
open Go.ChangeShapes Go.WideShapes Go.ChangeAt Go.RowKit Go.Maps
namespace Nd
/-- Bytes that can be read, if there are any. -/
def RdB (w : World) (ao : Option Addr) (bs : List Nat) : Prop := (∀ i, nth bs i ≤ 255) ∧ (bs = [] ∨ ∃ g off, ao = some ⟨g, off, none⟩ ∧ ∀ i, i < bs.length → w.cell? ⟨g, off + i, none⟩ = some (.int .u8 (nth bs i : Nat)))
theorem RdB.more {w w' : World} {ao : Option Addr} {bs : List Nat} (h : RdB w ao bs) (hg : w.grownBy w' none) : RdB w' ao bs := by
  refine ⟨h.1, ?_⟩
  rcases h.2 with h | ⟨g, off, h1, h2⟩
  · exact .inl h
  · exact .inr ⟨g, off, h1, fun i hi => by rw [cell_of_block (hg.block g (lt_of_cell (h2 i hi)) (by simp))]; exact h2 i hi⟩
theorem RdB.src {w : World} {ao : Option Addr} {bs : List Nat} (h : RdB w ao bs) (hl : 1 ≤ bs.length) : ∃ g off, ao = some ⟨g, off, none⟩ ∧ Src w g off bs := by
  obtain ⟨g, off, h1, h2⟩ := h.2.resolve_left (fun e => by rw [e] at hl; simp at hl)
  exact ⟨g, off, h1, h.1, h2⟩
def ArgB (w : World) (ao : Option Addr) (len : Nat) (bs : List Nat) : Prop := bs.length = len ∧ RdB w ao bs
theorem u8_of_wf {x : Int} (h : (Lit.int .u8 x).wf = true) : 0 ≤ x ∧ x ≤ 255 := by
  simp [Lit.wf, IntKind.min, IntKind.max, IntKind.signed, IntKind.bits] at h
  omega
theorem rdB_of {W : World} {H : Type} {enc : TypeId × Value → H} {base fuel : Nat} {cs : List Value} {x : DataW H × List MemPlace} (hf : DataW.trod enc Try.prog W base (fun _ => true) true fuel 33 cs = some x) :
    ∃ a0 len0 cap0 bs, cs = [.slice a0 len0 cap0] ∧ bs.length = len0 ∧ RdB W a0 bs ∧ len0 ≤ cap0 ∧ cap0 ≤ 9223372036854775807 := by
  rcases open_ints Try.underlying33 Try.underlying5 (by kernel_rfl) hf with ⟨hcs, _⟩ | ⟨a, l, c, zs, hcs, _, hl, hm, hz, _, hcell, hwz⟩
  · exact ⟨none, 0, 0, [], hcs, rfl, ⟨fun i => by rw [nth_over _ (by simp)]; omega, .inl rfl⟩, by omega, by omega⟩
  · have hz' : zs.length = c := by simpa using hz
    unfold maxLen at hm
    have hb : ∀ i (hi : i < zs.length), 0 ≤ zs[i] ∧ zs[i] ≤ 255 := fun i hi => u8_of_wf (hwz _ (List.getElem_mem hi))
    have hlen : ((zs.take l).map Int.toNat).length = l := by simp; omega
    have hn' : ∀ i (hi : i < l), ((nth ((zs.take l).map Int.toNat) i : Nat) : Int) = zs[i]'(by omega) := fun i hi => by
      rw [nth_of (by omega)]
      have := hb i (by omega)
      simp
      omega
    refine ⟨some a, l, c, (zs.take l).map Int.toNat, hcs, hlen, ⟨fun i => ?_, ?_⟩, hl, hm⟩
    · by_cases hi : i < l
      · have h1 := hn' i hi
        have h2 := hb i (by omega)
        omega
      · rw [nth_over _ (by omega)]; omega
    · by_cases h0 : l = 0
      · subst h0; exact .inl (by simp)
      · obtain ⟨g, off, spot⟩ := a
        have hc := hcell 0 (by omega)
        have hspot : spot = none := by simpa [Addr.add] using World.cell?_spot hc
        subst hspot
        refine .inr ⟨g, off, rfl, fun i hi => ?_⟩
        have hi2 : i < l := by omega
        have := hcell i (by omega)
        rw [addr_add'] at this
        rw [this, hn' i hi2]
        simp [show i < zs.length by omega]
theorem argB_of {W : World} {a0 : Option Addr} {len0 cap0 : Nat} {H : Type} {enc : TypeId × Value → H} {base : Nat} {d : DataW H} {ps : List MemPlace}
    (h0 : DataW.Trod enc Try.prog W base (fun _ => true) true 33 (.slice a0 len0 cap0) d ps) : ∃ bs, ArgB W a0 len0 bs ∧ len0 ≤ cap0 ∧ cap0 ≤ 9223372036854775807 := by
  obtain ⟨fuel, hf⟩ := h0
  obtain ⟨a1, l1, c1, bs, hcs, hb, hr, hl, hc⟩ := rdB_of hf
  simp [Value.cells] at hcs
  obtain ⟨rfl, rfl, rfl⟩ := hcs
  exact ⟨bs, ⟨hb, hr⟩, hl, hc⟩
/-! ### Rows of operations -/
structure OpE where
  kind : Int
  die : Int
  block : Int
  page : Int
  ba : Option Addr
  bytes : List Nat
  bc : Nat
def noOp : OpE := ⟨0, 0, 0, 0, none, [], 0⟩
def nthO (l : List OpE) (i : Nat) : OpE := l.getD i noOp
structure OpM (w : World) (g o : Nat) (x : OpE) : Prop where
  kind : w.cell? ⟨g, o, none⟩ = some (num x.kind)
  die : w.cell? ⟨g, o + 1, none⟩ = some (num x.die)
  block : w.cell? ⟨g, o + 2, none⟩ = some (num x.block)
  page : w.cell? ⟨g, o + 3, none⟩ = some (num x.page)
  bytes : w.cell? ⟨g, o + 4, none⟩ = some (.slice x.ba x.bytes.length x.bc)
structure OpI (w : World) (x : OpE) : Prop where
  kind : I64 x.kind
  die : I64 x.die
  block : I64 x.block
  page : I64 x.page
  rd : RdB w x.ba x.bytes
  le : x.bytes.length ≤ x.bc
  lc : x.bc ≤ 9223372036854775807
def ArgO (w : World) (ao : Option Addr) (len : Nat) (os : List OpE) : Prop :=
  os.length = len ∧ (os = [] ∨ ∃ g off, ao = some ⟨g, off, none⟩ ∧ ∀ i, i < os.length → OpM w g (off + i * 5) (nthO os i)) ∧ ∀ i, i < os.length → OpI w (nthO os i)
theorem OpM.of_heap {w w' : World} {g o : Nat} {x : OpE} (h : OpM w g o x) (e : w'.heap[g]? = w.heap[g]?) : OpM w' g o x :=
  ⟨(cell_of_block e).trans h.kind, (cell_of_block e).trans h.die, (cell_of_block e).trans h.block, (cell_of_block e).trans h.page, (cell_of_block e).trans h.bytes⟩
theorem ArgO.more {w w' : World} {ao : Option Addr} {len : Nat} {os : List OpE} (h : ArgO w ao len os) (hg : w.grownBy w' none) : ArgO w' ao len os := by
  refine ⟨h.1, ?_, fun i hi => ?_⟩
  · rcases h.2.1 with h | ⟨g, off, h1, h2⟩
    · exact .inl h
    · exact .inr ⟨g, off, h1, fun i hi => (h2 i hi).of_heap (hg.block g (lt_of_cell (h2 i hi).kind) (by simp))⟩
  · have := h.2.2 i hi
    exact ⟨this.kind, this.die, this.block, this.page, this.rd.more hg, this.le, this.lc⟩
noncomputable def fsOp : Array Field := match Try.prog.underlying 35 with | some (.struct fs) => fs | _ => #[]
theorem underOp : Try.prog.underlying 35 = some (.struct fsOp) := by kernel_rfl
theorem fsOp_at (i : Nat) (hi : i < 5) : ∃ f, fsOp[i]? = some f ∧ f.offset = i ∧ f.type = (if i = 4 then 33 else 3) := by
  have h : (fsOp.map fun f => (f.offset, f.type)) = #[(0, 3), (1, 3), (2, 3), (3, 3), (4, 33)] := by kernel_rfl
  have h2 : (fsOp.map fun f => (f.offset, f.type))[i]? = (#[(0, 3), (1, 3), (2, 3), (3, 3), (4, 33)] : Array (Nat × Nat))[i]? := by rw [h]
  rw [Array.getElem?_map] at h2
  have hc : i = 0 ∨ i = 1 ∨ i = 2 ∨ i = 3 ∨ i = 4 := by omega
  rcases hc with rfl | rfl | rfl | rfl | rfl <;> (simp at h2; obtain ⟨f, hf, h3, h4⟩ := h2; exact ⟨f, hf, h3, by simpa using h4⟩)
theorem cells3 : Try.prog.cellsOf 3 = 1 := by kernel_rfl
theorem cells35 : Try.prog.cellsOf 33 = 1 := by kernel_rfl
theorem cellsOp : Try.prog.cellsOf 35 = 5 := by kernel_rfl
set_option maxRecDepth 8000 in
theorem argO_of {W : World} {a0 : Option Addr} {len0 cap0 : Nat} {H : Type} {enc : TypeId × Value → H} {base : Nat} {d : DataW H} {ps : List MemPlace}
    (h0 : DataW.Trod enc Try.prog W base (fun _ => true) true 23 (.slice a0 len0 cap0) d ps) : ∃ os, ArgO W a0 len0 os ∧ len0 ≤ 9223372036854775807 := by
  obtain ⟨fuel, hf⟩ := h0
  rcases Deep.open_slice Try.underlying23 hf with ⟨hcs, _⟩ | ⟨a, len, cap, m, n, D, Pl, hcs, _, hl, hm, hmm, _, hx⟩
  · simp [Value.cells] at hcs
    obtain ⟨rfl, rfl, rfl⟩ := hcs
    exact ⟨[], ⟨rfl, .inl rfl, fun i hi => by simp at hi⟩, by omega⟩
  · simp [Value.cells] at hcs
    obtain ⟨rfl, rfl, rfl⟩ := hcs
    unfold maxLen at hm
    have hlm : len0 ≤ m := by rw [hmm]; split <;> omega
    rw [cellsOp] at hx
    have each : ∀ i, i < len0 → ∃ x : OpE, (∀ j v, [num x.kind, num x.die, num x.block, num x.page, Value.slice x.ba x.bytes.length x.bc][j]? = some v → W.cell? (a.add (i * 5 + j)) = some v) ∧ OpI W x := fun i hi => by
      obtain ⟨cs', h1, h2⟩ := hx i (by omega)
      obtain ⟨_, hlen, hcell⟩ := World.cells?_some h1
      obtain ⟨xs, k, _, _, _, hxl, hfs⟩ := DataW.trod_struct underOp h2
      match cs', hlen with
      | [c0, c1, c2, c3, c4], _ =>
        have hxs : xs.length = 5 := by
          rw [hxl]
          have h : (fsOp.map fun f => (f.offset, f.type)) = #[(0, 3), (1, 3), (2, 3), (3, 3), (4, 33)] := by kernel_rfl
          have := congrArg Array.size h
          simpa using this
        have hint : ∀ j (hj : j < 4) c, [c0, c1, c2, c3, c4][j]? = some c → ∃ z, c = num z ∧ I64 z := fun j hj c hc => by
          obtain ⟨f, f1, f2, f3⟩ := fsOp_at j (by omega)
          have := hfs j f f1
          rw [f2, f3, if_neg (by omega), cells3] at this
          have hc' : List.take 1 (List.drop j [c0, c1, c2, c3, c4]) = [c] := by
            have : j = 0 ∨ j = 1 ∨ j = 2 ∨ j = 3 := by omega
            rcases this with rfl | rfl | rfl | rfl <;> (simp at hc; subst hc; rfl)
          rw [hc', List.getElem?_eq_getElem (by omega)] at this
          obtain ⟨z, hz1, _, hz3⟩ := DataW.trod_int Try.underlying3 this
          exact ⟨z, by simpa using hz1, i64_of_wf hz3⟩
        obtain ⟨z0, rfl, i0⟩ := hint 0 (by omega) c0 rfl
        obtain ⟨z1, rfl, i1⟩ := hint 1 (by omega) c1 rfl
        obtain ⟨z2, rfl, i2⟩ := hint 2 (by omega) c2 rfl
        obtain ⟨z3, rfl, i3⟩ := hint 3 (by omega) c3 rfl
        obtain ⟨f, f1, f2, f3⟩ := fsOp_at 4 (by omega)
        have h4 := hfs 4 f f1
        rw [f2, f3, if_pos rfl, cells35, List.getElem?_eq_getElem (show 4 < xs.length by omega)] at h4
        obtain ⟨b0, bl, bcap, bs, hb1, hb2, hb3, hb4, hb5⟩ := rdB_of h4
        simp at hb1
        subst hb1
        refine ⟨⟨z0, z1, z2, z3, b0, bs, bcap⟩, fun j v hv => ?_, ⟨i0, i1, i2, i3, hb3, by simp only; omega, hb5⟩⟩
        have hj : j < 5 := (List.getElem?_eq_some_iff.1 hv).1
        have := hcell j hj
        rw [Deep.add_add] at this
        rw [this]
        simp only [hb2] at hv
        exact hv
    have hin : Inhabited OpE := ⟨noOp⟩
    obtain ⟨q, hq⟩ := Deep.choose_lt (α := OpE) (h := each)
    have hnth : ∀ i, i < len0 → nthO ((List.range len0).map q) i = q i := fun i hi => by simp [nthO, hi]
    refine ⟨(List.range len0).map q, ⟨by simp, ?_, fun i hi => ?_⟩, by omega⟩
    · by_cases h0 : len0 = 0
      · subst h0; exact .inl (by simp)
      · obtain ⟨g, off, spot⟩ := a
        have hc := (hq 0 (by omega)).1 0 _ rfl
        have hspot : spot = none := by simpa [Addr.add] using World.cell?_spot hc
        subst hspot
        refine .inr ⟨g, off, rfl, fun i hi => ?_⟩
        have hi' : i < len0 := by simpa using hi
        have h1 := (hq i hi').1
        rw [hnth i hi']
        have h2 : ∀ j v, [num (q i).kind, num (q i).die, num (q i).block, num (q i).page, Value.slice (q i).ba (q i).bytes.length (q i).bc][j]? = some v → W.cell? ⟨g, off + i * 5 + j, none⟩ = some v := fun j v hv => by
          have := h1 j v hv
          rw [addr_add', ← Nat.add_assoc] at this
          exact this
        exact ⟨h2 0 _ rfl, h2 1 _ rfl, h2 2 _ rfl, h2 3 _ rfl, h2 4 _ rfl⟩
    · have hi' : i < len0 := by simpa using hi
      rw [hnth i hi']
      exact (hq i hi').2
end Nd
end Go.Proofs.Ytojamicakkecbab
