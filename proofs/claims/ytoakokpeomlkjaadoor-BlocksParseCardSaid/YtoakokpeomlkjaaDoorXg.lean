/- The rows' common ground, of layer 3: what the listed variable says of memory; arguments that are slices of bytes. -/
import Derived.Test.YtoakokpeomlkjaaDoorXe
import Derived.Test.YtoakokpeomlkjaaDoorTie
import Derived.Test.YtoakokpeomlkjaaDoorCards
import Derived.ProofKit
import Derived.LaidMore
import Derived.OpenShut
import Derived.ChangeOld
import Derived.Stop.Joined
import Derived.Lib.LaidTab
namespace Go.Proofs.YtoakokpeomlkjaaDoor
open Go.ChangeShapes Go.WideShapes Go.ChangeAt Go.RowKit
namespace Cr
theorem hnot (x : Bool) (w : World) : (Op.unary .not (.bool x)).run Tryd.prog w = .ok (.bool (!x)) w := rfl
abbrev laidL : List (String × DataW _root_.Unit) := [("firkin/crc.steps", Rows.laid_firkin_crc_steps)]
theorem own : ownKnob Tryd.prog.godebug = none := by kernel_rfl
theorem laidOut : laidOutB Tryd.prog = true := by kernel_rfl
theorem gSteps : Tryd.prog.globalNamed "firkin/crc.steps" = some 0 := by kernel_rfl
theorem tSteps : (Tryd.prog.globals[0]?).map (·.type) = some 76 := by kernel_rfl
theorem glob_of_laid {W : World} (h : laidMetH Tryd.prog laidL W) : Glob W ∧ 0 < W.heap.size := by
  rw [MakeChecks.laidMetH_plain _ _ _ (by kernel_rfl)] at h
  have hT : Lib.TabIs Tryd.prog W "firkin/crc.steps" .u32 [0, 498536548, 997073096, 651767980, 1994146192, 1802195444, 1303535960, 1342533948, 3988292384, 4027552580, 3604390888, 3412177804, 2607071920, 2262029012, 2685067896, 3183342108] :=
    Lib.tabIs_of_head gSteps tSteps Tryd.underlying76 Tryd.underlying60 (by kernel_rfl) (by kernel_rfl) h
  have hc := fun i hi => hT.cell gSteps i hi
  have hG : Glob W := by
    intro i hi
    rw [hc i (by simpa using hi), tab_stn i hi]
    have : i = 0 ∨ i = 1 ∨ i = 2 ∨ i = 3 ∨ i = 4 ∨ i = 5 ∨ i = 6 ∨ i = 7 ∨ i = 8 ∨ i = 9 ∨ i = 10 ∨ i = 11 ∨ i = 12 ∨ i = 13 ∨ i = 14 ∨ i = 15 := by omega
    rcases this with rfl | rfl | rfl | rfl | rfl | rfl | rfl | rfl | rfl | rfl | rfl | rfl | rfl | rfl | rfl | rfl <;> rfl
  exact ⟨hG, hG.pos⟩
theorem door_met (os : Os) (args : Array Value) : laidMetH Tryd.prog laidL ((World.doorLaid Tryd.prog 400 os).forCall (fun _ _ => 0) ⟨#[], args, []⟩).memory :=
  laidMetH_of_parts3 (fuel := 8) (laidMet_of_run' 8 (by kernel_rfl) (by kernel_rfl)) (by kernel_rfl) (by kernel_rfl)
theorem below_of_grown {w w' : World} (h : w.grownBy w' none) : Below w.heap.size w w' := ⟨h.os, h.tape, h.output, h.size, fun k hk => h.block k hk (by simp)⟩
/-- A number that an int holds. -/
def I64 (c : Int) : Prop := -9223372036854775808 ≤ c ∧ c ≤ 9223372036854775807
theorem i64_of_wf {x : Int} (h : (Lit.int .i64 x).wf = true) : I64 x := by
  simp [Lit.wf, IntKind.min, IntKind.max, IntKind.signed, IntKind.bits] at h
  exact ⟨by omega, by omega⟩
theorem u8_of_wf {x : Int} (h : (Lit.int .u8 x).wf = true) : 0 ≤ x ∧ x ≤ 255 := by
  simp [Lit.wf, IntKind.min, IntKind.max, IntKind.signed, IntKind.bits] at h
  exact ⟨by omega, by omega⟩
theorem u32_of_wf {x : Int} (h : (Lit.int .u32 x).wf = true) : 0 ≤ x ∧ x < 4294967296 := by
  simp [Lit.wf, IntKind.min, IntKind.max, IntKind.signed, IntKind.bits] at h
  exact ⟨by omega, by omega⟩
/-- An argument that is a slice of bytes. -/
def ArgB (w : World) (ao : Option Addr) (len : Nat) (bs : List Nat) : Prop := bs.length = len ∧ RdB w ao bs
theorem ArgB.kept {w w' : World} {ao : Option Addr} {len : Nat} {bs : List Nat} (h : ArgB w ao len bs) (hg : w.grownBy w' none) : ArgB w' ao len bs := ⟨h.1, h.2.more hg⟩
theorem argB_of {W : World} {a0 : Option Addr} {len0 cap0 : Nat} {H : Type} {enc : TypeId × Value → H} {base : Nat} {d : DataW H} {ps : List MemPlace}
    (h0 : DataW.Trod enc Tryd.prog W base (fun _ => true) true 43 (.slice a0 len0 cap0) d ps) : ∃ bs, ArgB W a0 len0 bs := by
  obtain ⟨fuel, hf⟩ := h0
  rcases open_ints Tryd.underlying43 Tryd.underlying5 (by kernel_rfl) hf with ⟨hcs, _⟩ | ⟨x, l, c, zs, hcs, _, hl, hm, hz, _, hcell, hwz⟩
  · simp [Value.cells] at hcs
    obtain ⟨rfl, rfl, rfl⟩ := hcs
    exact ⟨[], rfl, fun i => by rw [nth_over _ (by simp)]; omega, .inl rfl⟩
  · simp [Value.cells] at hcs
    obtain ⟨rfl, rfl, rfl⟩ := hcs
    have hz' : zs.length = cap0 := by simpa using hz
    have hlen : ((zs.take len0).map Int.toNat).length = len0 := by simp; omega
    have hb : ∀ i (hi : i < zs.length), 0 ≤ zs[i] ∧ zs[i] ≤ 255 := fun i hi => u8_of_wf (hwz _ (List.getElem_mem hi))
    have hn : ∀ i (hi : i < len0), ((nth ((zs.take len0).map Int.toNat) i : Nat) : Int) = zs[i]'(by omega) := fun i hi => by
      rw [nth_of (by omega)]
      have := hb i (by omega)
      simp
      omega
    refine ⟨(zs.take len0).map Int.toNat, hlen, fun i => ?_, ?_⟩
    · by_cases hi : i < len0
      · have h1 := hn i hi
        have h2 := hb i (by omega)
        omega
      · rw [nth_over _ (by omega)]; omega
    · by_cases h0 : len0 = 0
      · subst h0; exact .inl (by simp)
      · obtain ⟨g, off, spot⟩ := x
        have hc := hcell 0 (by omega)
        have hspot : spot = none := by simpa [Addr.add] using World.cell?_spot hc
        subst hspot
        refine .inr ⟨g, off, rfl, fun i hi => ?_⟩
        have hi2 : i < len0 := by omega
        have := hcell i (by omega)
        have e : (⟨g, off, none⟩ : Addr).add i = ⟨g, off + i, none⟩ := by unfold Addr.add; split <;> simp_all
        rw [e] at this
        rw [this, hn i hi2]
        simp [show i < zs.length by omega]
theorem argB_sized {W : World} {a0 : Option Addr} {len0 cap0 : Nat} {H : Type} {enc : TypeId × Value → H} {base : Nat} {d : DataW H} {ps : List MemPlace} {ts : List TypeId} {ds : List (DataW H)}
    (h0 : DataW.Trod enc Tryd.prog W base (fun _ => true) true 43 (.slice a0 len0 cap0) d ps) (hsz : (DataW.weightsEach Tryd.prog ts ds).all (· ≤ reachBytes) = true) {j : Nat} (ht : ts[j]? = some 43) (hd : ds[j]? = some d) :
    ∃ bs, ArgB W a0 len0 bs ∧ len0 ≤ 140737488351232 ∧ len0 ≤ cap0 ∧ (a0 = none → cap0 = 0) := by
  obtain ⟨xs, hxs⟩ := argB_of h0
  refine ⟨xs, hxs, ?_⟩
  obtain ⟨fuel, hf⟩ := h0
  rcases open_ints Tryd.underlying43 Tryd.underlying5 (by kernel_rfl) hf with ⟨hcs, _⟩ | ⟨x, l, c, zs, hcs, _, hl, hm, hz, hx, hcell, hwz⟩
  · simp [Value.cells] at hcs
    obtain ⟨rfl, rfl, rfl⟩ := hcs
    exact ⟨by omega, by omega, fun _ => rfl⟩
  · simp [Value.cells] at hcs
    obtain ⟨rfl, rfl, rfl⟩ := hcs
    simp only [Prod.mk.injEq] at hx
    obtain ⟨rfl, _⟩ := hx
    have h3 := sized_slice hsz ht hd Tryd.underlying43
    rw [show Tryd.prog.bytesOf 5 = 1 by kernel_rfl] at h3
    have hz' : zs.length = cap0 := by simpa using hz
    simp only [lits, List.length_map, List.length_take, List.length_drop, reachBytes] at h3
    exact ⟨by omega, by omega, fun e => by cases e⟩
end Cr
end Go.Proofs.YtoakokpeomlkjaaDoor
