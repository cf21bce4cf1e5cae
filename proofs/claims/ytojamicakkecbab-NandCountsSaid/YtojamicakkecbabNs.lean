/- Layer 4 (nand): faults that may be. -/
import Derived.Test.YtojamicakkecbabNr
namespace Go.Proofs.Ytojamicakkecbab
open Go.RowKit Go.Maps
namespace Nd
/-- A fault's bits can be read. -/
def BitsR (w : World) (f : Flt) : Prop := f.bits = [] ∨ ∃ g off, f.ba = some ⟨g, off, none⟩ ∧ ∀ i, i < f.bits.length → w.cell? ⟨g, off + i, none⟩ = some (num (nthI f.bits i))
theorem BitsR.more {w w' : World} {f : Flt} (h : BitsR w f) (hg : w.grownBy w' none) : BitsR w' f := by
  rcases h with h | ⟨g, off, h1, h2⟩
  · exact .inl h
  · exact .inr ⟨g, off, h1, fun i hi => by rw [cell_of_block (hg.block g (lt_of_cell (h2 i hi)) (by simp))]; exact h2 i hi⟩
set_option maxHeartbeats 1600000 in
set_option maxRecDepth 4000 in
theorem faultMay_yes {w : World} {A : St} (hD : Dims A) {f : Flt} (hf : FMay A f) (hb : BitsR w f) (hl : f.bits.length ≤ 1000000000000000) :
    Calls Try.prog 32 #[shapeV A.D A.B A.P A.Y, fltV f] w fun e w' => e = .returned (.bool true) ∧ w.grownBy w' none := by
  obtain ⟨kind, at_, die, block, page, times, part, bits, ba, bc⟩ := f
  obtain ⟨W, hW⟩ : ∃ W, W = (w.alloc (boxO A.D A.B A.P A.Y)).alloc (.cells (fltL ⟨kind, at_, die, block, page, times, part, bits, ba, bc⟩).toArray 47) := ⟨_, rfl⟩
  have hg1 := World.grownBy_alloc w (boxO A.D A.B A.P A.Y) none
  have hg2 := World.grownBy_alloc (w.alloc (boxO A.D A.B A.P A.Y)) (.cells (fltL ⟨kind, at_, die, block, page, times, part, bits, ba, bc⟩).toArray 47) none
  have hs1 : (w.alloc (boxO A.D A.B A.P A.Y)).heap.size = w.heap.size + 1 := by simp
  have hbx : W.heap[w.heap.size]? = some (boxO A.D A.B A.P A.Y) := by rw [hW, hg2.block _ (by omega) (by simp)]; exact heap_alloc_new w _
  have hfx : W.heap[w.heap.size + 1]? = some (.cells (fltL ⟨kind, at_, die, block, page, times, part, bits, ba, bc⟩).toArray 47) := by
    rw [hW, ← hs1]; exact heap_alloc_new _ _
  have hgW : w.grownBy W none := by rw [hW]; exact grownBy_trans hg1 hg2
  have hbW := hb.more hgW
  have Hw : Hid _ := hW
  have s0 : W.cell? ⟨w.heap.size, 0, none⟩ = some (num A.D) := (At.of_row (o := 0) hbx rfl).1
  have s1 : W.cell? ⟨w.heap.size, 1, none⟩ = some (num A.B) := (At.of_row (o := 1) hbx rfl).1
  have s2 : W.cell? ⟨w.heap.size, 2, none⟩ = some (num A.P) := (At.of_row (o := 2) hbx rfl).1
  have s3 : W.cell? ⟨w.heap.size, 3, none⟩ = some (num A.Y) := (At.of_row (o := 3) hbx rfl).1
  have f0 : W.cell? ⟨w.heap.size + 1, 0, none⟩ = some (num kind) := (At.of_row (o := 0) hfx rfl).1
  have f1 : W.cell? ⟨w.heap.size + 1, 1, none⟩ = some (num at_) := (At.of_row (o := 1) hfx rfl).1
  have f2 : W.cell? ⟨w.heap.size + 1, 2, none⟩ = some (num die) := (At.of_row (o := 2) hfx rfl).1
  have f3 : W.cell? ⟨w.heap.size + 1, 3, none⟩ = some (num block) := (At.of_row (o := 3) hfx rfl).1
  have f4 : W.cell? ⟨w.heap.size + 1, 4, none⟩ = some (num page) := (At.of_row (o := 4) hfx rfl).1
  have f5 : W.cell? ⟨w.heap.size + 1, 5, none⟩ = some (num times) := (At.of_row (o := 5) hfx rfl).1
  have f6 : W.cell? ⟨w.heap.size + 1, 6, none⟩ = some (num part) := (At.of_row (o := 6) hfx rfl).1
  have f7 : W.cell? ⟨w.heap.size + 1, 7, none⟩ = some (.slice ba bits.length bc) := (At.of_row (o := 7) hfx rfl).1
  obtain ⟨k1, k2, a0, ai, t0, p0, pi, d0, d1, b0, b1, g0, g1, hbits⟩ := hf
  simp only at k1 k2 a0 t0 p0 d0 d1 b0 b1 g0 g1 hbits hl hbW
  have y2 : (A.Y : Int) ≤ 4096 := by have := hD.y2; omega
  have hnn := hnot
  have hl' : (bits.length : Int) ≤ 1000000000000000 := by omega
  clear hW hg1 hg2 hbx hfx hs1 ai pi hb
  go_enter Try.func32, Try.ntmps32
  go_wp2_with (rw [← Hw.out])
  go_loopw [10] (fun i wr => wr = W ∧ ∃ k : Nat, k ≤ bits.length ∧ i = num k) (fun i _ => bits.length - (intOf i).toNat)
  case atStart => exact ⟨rfl, 0, Nat.zero_le _, rfl⟩
  case round =>
    obtain ⟨rfl, k, hk, rfl⟩ := hrel
    by_cases hlt : k < bits.length
    · have q1 : (k : Int) < (bits.length : Int) := by omega
      obtain ⟨g, off, hba, hc⟩ := hbW.resolve_left (fun e => by simp only at e; rw [e] at hlt; simp at hlt)
      simp only at hba
      subst hba
      have hck := hc k hlt
      simp only at hck
      obtain ⟨x1, x2⟩ := hbits k hlt
      generalize nthI bits k = x at hck x1 x2
      have HB := fun w => below_yes x1 x2 w
      have HBl : Hid _ := HB
      clear HB hc hbits hbW
      go_wp2_with fail
      refine (HBl.out _).mono ?_
      rintro e w1 ⟨rfl, rfl⟩
      go_wp2
      go_roundw
      case rel => exact ⟨trivial, k + 1, by omega, by go_num⟩
      case measure => simp [intOf]; omega
    · obtain rfl : k = bits.length := by omega
      have q1 : ¬ (bits.length : Int) < (bits.length : Int) := by omega
      clear hbits hbW
      have q2 : decide (1 ≤ kind) = true := by simpa using k1
      have q3 : decide (kind ≤ 6) = true := by simpa using k2
      have q4 : decide (0 ≤ at_) = true := by simpa using a0
      have q5 : decide (0 ≤ times) = true := by simpa using t0
      have q6 : decide (0 ≤ part) = true := by simpa using p0
      go_wp2_with fail
      refine (below_yes d0 d1 _).mono ?_
      rintro e w1 ⟨rfl, rfl⟩
      go_wp2_with fail
      refine (below_yes b0 b1 _).mono ?_
      rintro e w1 ⟨rfl, rfl⟩
      go_wp2_with fail
      refine (below_yes g0 g1 _).mono ?_
      rintro e w1 ⟨rfl, rfl⟩
      go_wp2
      go_ret
      exact ⟨rfl, hgW⟩
/-- Faults as they lie. -/
def FaultsM (w : World) (ao : Option Addr) (fs : List Flt) : Prop :=
  (fs = [] ∨ ∃ g off, ao = some ⟨g, off, none⟩ ∧ ∀ k f, fs[k]? = some f → ∀ j v, (fltL f)[j]? = some v → w.cell? ⟨g, off + k * 8 + j, none⟩ = some v) ∧ ∀ f ∈ fs, BitsR w f ∧ f.bits.length ≤ 1000000000000000
theorem FaultsM.more {w w' : World} {ao : Option Addr} {fs : List Flt} (h : FaultsM w ao fs) (hg : w.grownBy w' none) : FaultsM w' ao fs := by
  refine ⟨?_, fun f hf => ⟨(h.2 f hf).1.more hg, (h.2 f hf).2⟩⟩
  rcases h.1 with h | ⟨g, off, h1, h2⟩
  · exact .inl h
  · exact .inr ⟨g, off, h1, fun k f hf j v hv => by rw [cell_of_block (hg.block g (lt_of_cell (h2 k f hf j v hv)) (by simp))]; exact h2 k f hf j v hv⟩
set_option maxHeartbeats 1600000 in
set_option maxRecDepth 4000 in
theorem faultsMay_yes {w : World} {A : St} (hD : Dims A) {ao : Option Addr} {cap : Nat} {fs : List Flt} (hM : FaultsM w ao fs) (hf : ∀ f ∈ fs, FMay A f) (hl : fs.length ≤ 2000) :
    Calls Try.prog 16 #[shapeV A.D A.B A.P A.Y, .slice ao fs.length cap] w fun e w' => e = .returned (.bool true) ∧ w.grownBy w' none := by
  obtain ⟨W, hW⟩ : ∃ W, W = w.alloc (boxO A.D A.B A.P A.Y) := ⟨_, rfl⟩
  have hgW : w.grownBy W none := by rw [hW]; exact World.grownBy_alloc w _ none
  have hbx : W.heap[w.heap.size]? = some (boxO A.D A.B A.P A.Y) := by rw [hW]; exact heap_alloc_new w _
  have Hw : Hid _ := hW
  have hl' : (fs.length : Int) ≤ 2000 := by omega
  have hl2 : ¬ (2000 : Int) < (fs.length : Int) := by omega
  have hnn := hnot
  clear hW
  go_enter Try.func16, Try.ntmps16
  go_wp2_with (rw [← Hw.out])
  go_loopw [12] (fun i wr => w.grownBy wr none ∧ wr.heap[w.heap.size]? = some (boxO A.D A.B A.P A.Y) ∧ ∃ k : Nat, k ≤ fs.length ∧ i = num k) (fun i _ => fs.length - (intOf i).toNat)
  case atStart => exact ⟨hgW, hbx, 0, Nat.zero_le _, rfl⟩
  case round =>
    clear hgW hbx Hw
    obtain ⟨hgr, hbr, k, hk, rfl⟩ := hrel
    by_cases hlt : k < fs.length
    · have q1 : (k : Int) < (fs.length : Int) := by omega
      have hMr := hM.more hgr
      obtain ⟨g, off, rfl, hc⟩ := hMr.1.resolve_left (fun e => by rw [e] at hlt; simp at hlt)
      obtain ⟨f, hfk⟩ : ∃ f, fs[k]? = some f := ⟨_, List.getElem?_eq_getElem hlt⟩
      have hmem : f ∈ fs := List.mem_of_getElem? hfk
      have hck := hc k f hfk
      have hbits := hMr.2 f hmem
      have hfm := hf f hmem
      obtain ⟨kind, at_, die, block, page, times, part, bits, ba, bc⟩ := f
      have e0 : wr.cell? ⟨g, off + k * 8, none⟩ = some (num kind) := hck 0 _ rfl
      have e1 : wr.cell? ⟨g, off + k * 8 + 1, none⟩ = some (num at_) := hck 1 _ rfl
      have e2 : wr.cell? ⟨g, off + k * 8 + 2, none⟩ = some (num die) := hck 2 _ rfl
      have e3 : wr.cell? ⟨g, off + k * 8 + 3, none⟩ = some (num block) := hck 3 _ rfl
      have e4 : wr.cell? ⟨g, off + k * 8 + 4, none⟩ = some (num page) := hck 4 _ rfl
      have e5 : wr.cell? ⟨g, off + k * 8 + 5, none⟩ = some (num times) := hck 5 _ rfl
      have e6 : wr.cell? ⟨g, off + k * 8 + 6, none⟩ = some (num part) := hck 6 _ rfl
      have e7 : wr.cell? ⟨g, off + k * 8 + 7, none⟩ = some (.slice ba bits.length bc) := hck 7 _ rfl
      have s0 : wr.cell? ⟨w.heap.size, 0, none⟩ = some (num A.D) := (At.of_row (o := 0) hbr rfl).1
      have s1 : wr.cell? ⟨w.heap.size, 1, none⟩ = some (num A.B) := (At.of_row (o := 1) hbr rfl).1
      have s2 : wr.cell? ⟨w.heap.size, 2, none⟩ = some (num A.P) := (At.of_row (o := 2) hbr rfl).1
      have s3 : wr.cell? ⟨w.heap.size, 3, none⟩ = some (num A.Y) := (At.of_row (o := 3) hbr rfl).1
      have hlw : w.heap.size < wr.heap.size := lt_of_heap hbr
      clear hck hc hM hMr hfk hmem hf
      have HC : Hid (∀ w2 : World, wr.grownBy w2 none → Calls Try.prog 32 #[shapeV A.D A.B A.P A.Y, fltV ⟨kind, at_, die, block, page, times, part, bits, ba, bc⟩] w2 fun e w' => e = .returned (.bool true) ∧ w2.grownBy w' none) := fun w2 hg => faultMay_yes hD hfm (hbits.1.more hg) hbits.2
      clear hbits hfm
      go_wp2_with fail
      refine (HC.out _ (World.grownBy_alloc wr _ none)).mono ?_
      rintro e w3 ⟨rfl, hg3⟩
      have hgr3 : w.grownBy w3 none := grownBy_trans (grownBy_trans hgr (World.grownBy_alloc wr _ none)) hg3
      have hbr3 : w3.heap[w.heap.size]? = some (boxO A.D A.B A.P A.Y) := by
        rw [(grownBy_trans (World.grownBy_alloc wr _ none) hg3).block _ hlw (by simp)]; exact hbr
      clear hg3 hbr hgr e0 e1 e2 e3 e4 e5 e6 e7 s0 s1 s2 s3 HC
      go_wp2
      go_roundw
      case rel => exact ⟨hgr3, hbr3, k + 1, by omega, by go_num⟩
      case measure => simp [intOf]; omega
    · obtain rfl : k = fs.length := by omega
      have q1 : ¬ (fs.length : Int) < (fs.length : Int) := by omega
      go_wp2
      go_ret
      exact ⟨rfl, hgr⟩
end Nd
end Go.Proofs.Ytojamicakkecbab
