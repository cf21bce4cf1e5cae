/- The rows' common ground, of layer 2: what the listed variable says of memory; arguments that are slices of numbers or of bytes. -/
import Derived.Test.YtiojdoehlooibaaDoorZLa
import Derived.Test.YtiojdoehlooibaaDoorTie
import Derived.Test.YtiojdoehlooibaaDoorCards
import Derived.ProofKit
import Derived.LaidMore
import Derived.OpenShut
import Derived.ChangeOld
import Derived.Stop.Joined
import Derived.Lib.LaidTab
namespace Go.Proofs.YtiojdoehlooibaaDoor
open Go.ChangeShapes Go.WideShapes Go.ChangeAt Go.RowKit
namespace Gf
theorem hnot (x : Bool) (w : World) : (Op.unary .not (.bool x)).run Tryd.prog w = .ok (.bool (!x)) w := rfl
theorem ret_bool {a b : Bool} (h : a = b) : Ending.returned (.bool a) = .returned (.bool b) := by rw [h]
abbrev laidL : List (String × DataW _root_.Unit) := [("firkin/gf.polynomials", Rows.laid_firkin_gf_polynomials)]
theorem own : ownKnob Tryd.prog.godebug = none := by kernel_rfl
theorem laidOut : laidOutB Tryd.prog = true := by kernel_rfl
theorem gPoly : Tryd.prog.globalNamed "firkin/gf.polynomials" = some 0 := by kernel_rfl
theorem tPoly : (Tryd.prog.globals[0]?).map (·.type) = some 116 := by kernel_rfl
theorem glob_of_laid {W : World} (h : laidMetH Tryd.prog laidL W) : Glob W ∧ 0 < W.heap.size := by
  rw [MakeChecks.laidMetH_plain _ _ _ (by kernel_rfl)] at h
  have hT : Lib.TabIs Tryd.prog W "firkin/gf.polynomials" .i64 [7, 11, 19, 37, 67, 137, 285, 529, 1033, 2053, 4179, 8219] :=
    Lib.tabIs_of_head gPoly tPoly Tryd.underlying116 Tryd.underlying3 (by kernel_rfl) (by kernel_rfl) h
  have hc := fun i hi => hT.cell gPoly i hi
  have hG : Glob W := by
    intro m h1 h2
    have := hc (m - 2) (by simp; omega)
    rw [this]
    have : m = 2 ∨ m = 3 ∨ m = 4 ∨ m = 5 ∨ m = 6 ∨ m = 7 ∨ m = 8 ∨ m = 9 ∨ m = 10 ∨ m = 11 ∨ m = 12 ∨ m = 13 := by omega
    rcases this with rfl | rfl | rfl | rfl | rfl | rfl | rfl | rfl | rfl | rfl | rfl | rfl <;> rfl
  exact ⟨hG, lt_of_cell (hG 2 (by decide) (by decide))⟩
theorem door_met (os : Os) (args : Array Value) : laidMetH Tryd.prog laidL ((World.doorLaid Tryd.prog 400 os).forCall (fun _ _ => 0) ⟨#[], args, []⟩).memory :=
  laidMetH_of_parts3 (fuel := 8) (laidMet_of_run' 8 (by kernel_rfl) (by kernel_rfl)) (by kernel_rfl) (by kernel_rfl)
theorem below_of_grown {w w' : World} (h : w.grownBy w' none) : Below w.heap.size w w' := ⟨h.os, h.tape, h.output, h.size, fun k hk => h.block k hk (by simp)⟩
/-- A number that an int holds. -/
def I64 (c : Int) : Prop := -9223372036854775808 ≤ c ∧ c ≤ 9223372036854775807
theorem i64_of_wf {x : Int} (h : (Lit.int .i64 x).wf = true) : I64 x := by
  simp [Lit.wf, IntKind.min, IntKind.max, IntKind.signed, IntKind.bits] at h
  exact ⟨by omega, by omega⟩
theorem u8_of_wf {x : Int} (h : (Lit.int .u8 x).wf = true) : 0 ≤ x ∧ x ≤ 255 := by
  simp [Lit.wf, IntKind.min, IntKind.max, IntKind.signed, IntKind.bits] at h
  exact ⟨by omega, by omega⟩
/-- An argument that is a slice of numbers: those up to its length. -/
def Arg (w : World) (ao : Option Addr) (len : Nat) (xs : List Int) : Prop :=
  xs.length = len ∧ (∀ x ∈ xs, I64 x) ∧ (xs = [] ∨ ∃ g off, ao = some ⟨g, off, none⟩ ∧ ∀ i, i < xs.length → w.cell? ⟨g, off + i, none⟩ = some (num (nthI xs i)))
theorem Arg.rd {w : World} {ao : Option Addr} {len : Nat} {xs : List Int} (h : Arg w ao len xs) {b : Nat} (hb : w.heap.size ≤ b) : Rd b w ao xs := by
  rcases h.2.2 with h | ⟨g, off, h1, h2⟩
  · exact .inl h
  · by_cases hx : xs = []
    · exact .inl hx
    · refine .inr ⟨g, off, h1, ?_, h2⟩
      have := lt_of_cell (h2 0 (List.length_pos_iff.2 hx))
      omega
theorem Arg.kept {w w' : World} {ao : Option Addr} {len : Nat} {xs : List Int} (h : Arg w ao len xs) (hg : w.grownBy w' none) : Arg w' ao len xs := by
  refine ⟨h.1, h.2.1, ?_⟩
  rcases h.2.2 with h | ⟨g, off, h1, h2⟩
  · exact .inl h
  · refine .inr ⟨g, off, h1, fun i hi => ?_⟩
    rw [World.cell?_of_block (w := w) (a := ⟨g, off + i, none⟩) (hg.block g (lt_of_cell (h2 i hi)) (by simp))]
    exact h2 i hi
/-- An argument is none of a field's that was made since. -/
theorem Arg.rd' {w w' : World} {ao : Option Addr} {len : Nat} {xs : List Int} (h : Arg w' ao len xs) (h0 : Arg w ao len xs) : Rd w.heap.size w' ao xs := by
  rcases h.2.2 with h | ⟨g, off, h1, h2⟩
  · exact .inl h
  · by_cases hx : xs = []
    · exact .inl hx
    · refine .inr ⟨g, off, h1, ?_, h2⟩
      rcases h0.2.2 with e | ⟨g', off', e1, e2⟩
      · exact absurd e hx
      · rw [h1] at e1
        simp at e1
        have := lt_of_cell (e2 0 (List.length_pos_iff.2 hx))
        omega
theorem arg_of {W : World} {a0 : Option Addr} {len0 cap0 : Nat} {H : Type} {enc : TypeId × Value → H} {base : Nat} {d : DataW H} {ps : List MemPlace}
    (h0 : DataW.Trod enc Tryd.prog W base (fun _ => true) true 27 (.slice a0 len0 cap0) d ps) : ∃ xs, Arg W a0 len0 xs := by
  obtain ⟨fuel, hf⟩ := h0
  rcases open_ints Tryd.underlying27 Tryd.underlying3 (by kernel_rfl) hf with ⟨hcs, _⟩ | ⟨x, l, c, zs, hcs, _, hl, hm, hz, _, hcell, hwz⟩
  · simp [Value.cells] at hcs
    obtain ⟨rfl, rfl, rfl⟩ := hcs
    exact ⟨[], rfl, by simp, .inl rfl⟩
  · simp [Value.cells] at hcs
    obtain ⟨rfl, rfl, rfl⟩ := hcs
    have hz' : zs.length = cap0 := by simpa using hz
    refine ⟨zs.take len0, by simp; omega, fun y hy => i64_of_wf (hwz y (List.mem_of_mem_take hy)), ?_⟩
    by_cases h0 : len0 = 0
    · subst h0; exact .inl (by simp)
    · obtain ⟨g, off, spot⟩ := x
      have hc := hcell 0 (by omega)
      have hspot : spot = none := by simpa [Addr.add] using World.cell?_spot hc
      subst hspot
      refine .inr ⟨g, off, rfl, fun i hi => ?_⟩
      have hi' : i < zs.length := by simp at hi; omega
      have hi2 : i < len0 := by simp at hi; omega
      have := hcell i hi'
      have e : (⟨g, off, none⟩ : Addr).add i = ⟨g, off + i, none⟩ := by unfold Addr.add; split <;> simp_all
      rw [e] at this
      rw [this]
      simp [nthI, hi2]
theorem arg_sized {W : World} {a0 : Option Addr} {len0 cap0 : Nat} {H : Type} {enc : TypeId × Value → H} {base : Nat} {d : DataW H} {ps : List MemPlace} {ts : List TypeId} {ds : List (DataW H)}
    (h0 : DataW.Trod enc Tryd.prog W base (fun _ => true) true 27 (.slice a0 len0 cap0) d ps) (hsz : (DataW.weightsEach Tryd.prog ts ds).all (· ≤ reachBytes) = true) {j : Nat} (ht : ts[j]? = some 27) (hd : ds[j]? = some d) :
    ∃ xs, Arg W a0 len0 xs ∧ len0 ≤ 17592186044416 ∧ len0 ≤ cap0 := by
  obtain ⟨xs, hxs⟩ := arg_of h0
  refine ⟨xs, hxs, ?_⟩
  obtain ⟨fuel, hf⟩ := h0
  rcases open_ints Tryd.underlying27 Tryd.underlying3 (by kernel_rfl) hf with ⟨hcs, _⟩ | ⟨x, l, c, zs, hcs, _, hl, hm, hz, hx, hcell, hwz⟩
  · simp [Value.cells] at hcs
    omega
  · simp [Value.cells] at hcs
    obtain ⟨rfl, rfl, rfl⟩ := hcs
    simp only [Prod.mk.injEq] at hx
    obtain ⟨rfl, _⟩ := hx
    have h3 := sized_slice hsz ht hd Tryd.underlying27
    rw [show Tryd.prog.bytesOf 3 = 8 by kernel_rfl] at h3
    have hz' : zs.length = cap0 := by simpa using hz
    simp only [lits, List.length_map, List.length_take, List.length_drop, reachBytes] at h3
    omega
/-- An argument that is a slice of bytes. -/
def ArgB (w : World) (ao : Option Addr) (len : Nat) (bs : List Nat) : Prop := bs.length = len ∧ RdB w ao bs
theorem ArgB.kept {w w' : World} {ao : Option Addr} {len : Nat} {bs : List Nat} (h : ArgB w ao len bs) (hg : w.grownBy w' none) : ArgB w' ao len bs := ⟨h.1, h.2.more hg⟩
theorem argB_of {W : World} {a0 : Option Addr} {len0 cap0 : Nat} {H : Type} {enc : TypeId × Value → H} {base : Nat} {d : DataW H} {ps : List MemPlace}
    (h0 : DataW.Trod enc Tryd.prog W base (fun _ => true) true 35 (.slice a0 len0 cap0) d ps) : ∃ bs, ArgB W a0 len0 bs := by
  obtain ⟨fuel, hf⟩ := h0
  rcases open_ints Tryd.underlying35 Tryd.underlying5 (by kernel_rfl) hf with ⟨hcs, _⟩ | ⟨x, l, c, zs, hcs, _, hl, hm, hz, _, hcell, hwz⟩
  · simp [Value.cells] at hcs
    obtain ⟨rfl, rfl, rfl⟩ := hcs
    exact ⟨[], rfl, fun i => by rw [nth_over _ (by simp)]; omega, .inl rfl⟩
  · simp [Value.cells] at hcs
    obtain ⟨rfl, rfl, rfl⟩ := hcs
    have hz' : zs.length = cap0 := by simpa using hz
    have hlen : ((zs.take len0).map Int.toNat).length = len0 := by simp; omega
    have hb : ∀ i (hi : i < zs.length), 0 ≤ zs[i] ∧ zs[i] ≤ 255 := fun i hi => u8_of_wf (hwz _ (List.getElem_mem hi))
    have hn : ∀ i (hi : i < len0), ((nth ((zs.take len0).map Int.toNat) i : Nat) : Int) = zs[i]'(by omega) := fun i hi => by
      rw [nth_of (by omega)]
      have := hb i (by omega)
      simp
      omega
    refine ⟨(zs.take len0).map Int.toNat, hlen, fun i => ?_, ?_⟩
    · by_cases hi : i < len0
      · have h1 := hn i hi
        have h2 := hb i (by omega)
        omega
      · rw [nth_over _ (by omega)]; omega
    · by_cases h0 : len0 = 0
      · subst h0; exact .inl (by simp)
      · obtain ⟨g, off, spot⟩ := x
        have hc := hcell 0 (by omega)
        have hspot : spot = none := by simpa [Addr.add] using World.cell?_spot hc
        subst hspot
        refine .inr ⟨g, off, rfl, fun i hi => ?_⟩
        have hi2 : i < len0 := by omega
        have := hcell i (by omega)
        have e : (⟨g, off, none⟩ : Addr).add i = ⟨g, off + i, none⟩ := by unfold Addr.add; split <;> simp_all
        rw [e] at this
        rw [this, hn i hi2]
        simp [show i < zs.length by omega]
theorem argB_sized {W : World} {a0 : Option Addr} {len0 cap0 : Nat} {H : Type} {enc : TypeId × Value → H} {base : Nat} {d : DataW H} {ps : List MemPlace} {ts : List TypeId} {ds : List (DataW H)}
    (h0 : DataW.Trod enc Tryd.prog W base (fun _ => true) true 35 (.slice a0 len0 cap0) d ps) (hsz : (DataW.weightsEach Tryd.prog ts ds).all (· ≤ reachBytes) = true) {j : Nat} (ht : ts[j]? = some 35) (hd : ds[j]? = some d) :
    ∃ bs, ArgB W a0 len0 bs ∧ len0 ≤ 140737488355328 ∧ len0 ≤ cap0 := by
  obtain ⟨xs, hxs⟩ := argB_of h0
  refine ⟨xs, hxs, ?_⟩
  obtain ⟨fuel, hf⟩ := h0
  rcases open_ints Tryd.underlying35 Tryd.underlying5 (by kernel_rfl) hf with ⟨hcs, _⟩ | ⟨x, l, c, zs, hcs, _, hl, hm, hz, hx, hcell, hwz⟩
  · simp [Value.cells] at hcs
    omega
  · simp [Value.cells] at hcs
    obtain ⟨rfl, rfl, rfl⟩ := hcs
    simp only [Prod.mk.injEq] at hx
    obtain ⟨rfl, _⟩ := hx
    have h3 := sized_slice hsz ht hd Tryd.underlying35
    rw [show Tryd.prog.bytesOf 5 = 1 by kernel_rfl] at h3
    have hz' : zs.length = cap0 := by simpa using hz
    simp only [lits, List.length_map, List.length_take, List.length_drop, reachBytes] at h3
    omega
end Gf
end Go.Proofs.YtiojdoehlooibaaDoor
