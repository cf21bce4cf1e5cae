/- Layer 7 (blocks): an argument that is a row of calls; calls of a pool, weakly. -/
import Derived.Test.YtoakokpeomlkjaaDoorBv
import Derived.Deep.Slices
import Derived.Deep.DeepHandedRow
namespace Go.Proofs.YtoakokpeomlkjaaDoor
open Go.ChangeShapes Go.WideShapes Go.ChangeAt Go.RowKit Go.Maps
namespace Bk
structure OpE where
  kind : Int
  die : Int
  block : Int
def noOp : OpE := ⟨0, 0, 0⟩
def nthO (l : List OpE) (i : Nat) : OpE := l.getD i noOp
structure OpM (w : World) (g o : Nat) (x : OpE) : Prop where
  kind : w.cell? ⟨g, o, none⟩ = some (num x.kind)
  die : w.cell? ⟨g, o + 1, none⟩ = some (num x.die)
  block : w.cell? ⟨g, o + 2, none⟩ = some (num x.block)
structure OpI (x : OpE) : Prop where
  kind : I64 x.kind
  die : I64 x.die
  block : I64 x.block
def ArgO (w : World) (ao : Option Addr) (len : Nat) (os : List OpE) : Prop :=
  os.length = len ∧ (os = [] ∨ ∃ g off, ao = some ⟨g, off, none⟩ ∧ ∀ i, i < os.length → OpM w g (off + i * 3) (nthO os i)) ∧ ∀ i, i < os.length → OpI (nthO os i)
theorem ArgO.at {w wr : World} {ao : Option Addr} {len : Nat} {os : List OpE} (h : ArgO w ao len os) (s : Stp (fun g => w.heap.size ≤ g) w wr) {k : Nat} (hk : k < len) : ∃ g off, ao = some ⟨g, off, none⟩ ∧ OpM wr g (off + k * 3) (nthO os k) ∧ OpI (nthO os k) := by
  obtain ⟨h1, h2, h3⟩ := h
  rcases h2 with rfl | ⟨g, off, e, hc⟩
  · simp at h1; omega
  · have hm := hc k (by omega)
    have hlt := lt_of_cell hm.kind
    exact ⟨g, off, e, ⟨s.cell (by omega) hm.kind, s.cell (by omega) hm.die, s.cell (by omega) hm.block⟩, h3 k (by omega)⟩
noncomputable def fsOp : Array Field := match Tryd.prog.underlying 32 with | some (.struct fs) => fs | _ => #[]
theorem underOp : Tryd.prog.underlying 32 = some (.struct fsOp) := by kernel_rfl
theorem fsOp_map : (fsOp.map fun f => (f.offset, f.type)) = #[(0, 3), (1, 3), (2, 3)] := by kernel_rfl
theorem fsOp_at (i : Nat) (hi : i < 3) : ∃ f, fsOp[i]? = some f ∧ f.offset = i ∧ f.type = 3 := by
  have h2 : (fsOp.map fun f => (f.offset, f.type))[i]? = (#[(0, 3), (1, 3), (2, 3)] : Array (Nat × Nat))[i]? := by rw [fsOp_map]
  rw [Array.getElem?_map] at h2
  have hc : i = 0 ∨ i = 1 ∨ i = 2 := by omega
  rcases hc with rfl | rfl | rfl <;> (simp at h2; obtain ⟨f, hf, h3, h4⟩ := h2; exact ⟨f, hf, h3, h4⟩)
theorem cells3 : Tryd.prog.cellsOf 3 = 1 := by kernel_rfl
theorem cellsOp : Tryd.prog.cellsOf 32 = 3 := by kernel_rfl
set_option maxRecDepth 8000 in
theorem argO_of {W : World} {a0 : Option Addr} {len0 cap0 : Nat} {H : Type} {enc : TypeId × Value → H} {base : Nat} {d : DataW H} {ps : List MemPlace}
    (h0 : DataW.Trod enc Tryd.prog W base (fun _ => true) true 22 (.slice a0 len0 cap0) d ps) : ∃ os, ArgO W a0 len0 os ∧ len0 ≤ 9223372036854775807 := by
  obtain ⟨fuel, hf⟩ := h0
  rcases Deep.open_slice Tryd.underlying22 hf with ⟨hcs, _⟩ | ⟨a, len, cap, m, n, D, Pl, hcs, _, hl, hm, hmm, _, hx⟩
  · simp [Value.cells] at hcs
    obtain ⟨rfl, rfl, rfl⟩ := hcs
    exact ⟨[], ⟨rfl, .inl rfl, fun i hi => by simp at hi⟩, by omega⟩
  · simp [Value.cells] at hcs
    obtain ⟨rfl, rfl, rfl⟩ := hcs
    unfold maxLen at hm
    have hlm : len0 ≤ m := by rw [hmm]; split <;> omega
    rw [cellsOp] at hx
    have each : ∀ i, i < len0 → ∃ x : OpE, (∀ j v, [num x.kind, num x.die, num x.block][j]? = some v → W.cell? (a.add (i * 3 + j)) = some v) ∧ OpI x := fun i hi => by
      obtain ⟨cs', h1, h2⟩ := hx i (by omega)
      obtain ⟨_, hlen, hcell⟩ := World.cells?_some h1
      obtain ⟨xs, k, _, _, _, hxl, hfs⟩ := DataW.trod_struct underOp h2
      match cs', hlen with
      | [c0, c1, c2], _ =>
        have hxs : xs.length = 3 := by
          rw [hxl]
          have := congrArg Array.size fsOp_map
          simpa using this
        have hint : ∀ j (hj : j < 3) c, [c0, c1, c2][j]? = some c → ∃ z, c = num z ∧ I64 z := fun j hj c hc => by
          obtain ⟨f, f1, f2, f3⟩ := fsOp_at j (by omega)
          have := hfs j f f1
          rw [f2, f3, cells3] at this
          have hc' : List.take 1 (List.drop j [c0, c1, c2]) = [c] := by
            have : j = 0 ∨ j = 1 ∨ j = 2 := by omega
            rcases this with rfl | rfl | rfl <;> (simp at hc; subst hc; rfl)
          rw [hc', List.getElem?_eq_getElem (by omega)] at this
          obtain ⟨z, hz1, _, hz3⟩ := DataW.trod_int Tryd.underlying3 this
          exact ⟨z, by simpa using hz1, i64_of_wf hz3⟩
        obtain ⟨z0, rfl, i0⟩ := hint 0 (by omega) c0 rfl
        obtain ⟨z1, rfl, i1⟩ := hint 1 (by omega) c1 rfl
        obtain ⟨z2, rfl, i2⟩ := hint 2 (by omega) c2 rfl
        refine ⟨⟨z0, z1, z2⟩, fun j v hv => ?_, ⟨i0, i1, i2⟩⟩
        have hj : j < 3 := (List.getElem?_eq_some_iff.1 hv).1
        have := hcell j hj
        rw [Deep.add_add] at this
        rw [this]
        exact hv
    have hin : Inhabited OpE := ⟨noOp⟩
    obtain ⟨q, hq⟩ := Deep.choose_lt (α := OpE) (h := each)
    have hnth : ∀ i, i < len0 → nthO ((List.range len0).map q) i = q i := fun i hi => by simp [nthO, hi]
    refine ⟨(List.range len0).map q, ⟨by simp, ?_, fun i hi => ?_⟩, by omega⟩
    · by_cases h0 : len0 = 0
      · subst h0; exact .inl (by simp)
      · obtain ⟨g, off, spot⟩ := a
        have hc := (hq 0 (by omega)).1 0 _ rfl
        have hspot : spot = none := by simpa [Addr.add] using World.cell?_spot hc
        subst hspot
        refine .inr ⟨g, off, rfl, fun i hi => ?_⟩
        have hi' : i < len0 := by simpa using hi
        have h1 := (hq i hi').1
        rw [hnth i hi']
        have h2 : ∀ j v, [num (q i).kind, num (q i).die, num (q i).block][j]? = some v → W.cell? ⟨g, off + i * 3 + j, none⟩ = some v := fun j v hv => by
          have := h1 j v hv
          rw [addr_add', ← Nat.add_assoc] at this
          exact this
        exact ⟨h2 0 _ rfl, h2 1 _ rfl, h2 2 _ rfl⟩
    · have hi' : i < len0 := by simpa using hi
      rw [hnth i hi']
      exact (hq i hi').2
/-! ### Calls, weakly: the pool is some pool behind them -/
def Weak (w : World) (P : Lay) (e : Ending) (w' : World) : Prop := (∃ v, e = .returned v) ∧ (∃ f', PoolM w' P f') ∧ Stp P.K w w'
theorem Take_weak {w : World} {P : Lay} {f : Pool} (h : PoolM w P f) {i : Nat} (hi : i < P.n) : Calls Tryd.prog 10 #[ptr P.p 0, num i] w (Weak w P) :=
  (Take_in h hi).mono fun e w' hp => by
    rcases hp.1 with ⟨_, h2, h3⟩ | ⟨y, _, h2, h3⟩
    · exact ⟨⟨_, h2⟩, ⟨_, h3⟩, hp.2⟩
    · exact ⟨⟨_, h2⟩, ⟨_, h3⟩, hp.2⟩
theorem MovePost.weak {w : World} {P : Lay} {f : Pool} {i k : Nat} {L : List Int} {to : Int} {e : Ending} {w' : World} (h : MovePost w P f i k L to e w') : Weak w P e w' := by
  rcases h.1 with ⟨_, h1, h2⟩ | ⟨_, h1, h2⟩
  · exact ⟨⟨_, h1⟩, ⟨_, h2⟩, h.2⟩
  · exact ⟨⟨_, h1⟩, ⟨_, h2⟩, h.2⟩
theorem ErasedPost.weak {w : World} {P : Lay} {f : Pool} {i k : Nat} {e : Ending} {w' : World} (h : ErasedPost w P f i k e w') : Weak w P e w' := by
  rcases h.1 with ⟨_, h1, h2⟩ | ⟨_, h1, h2⟩
  · exact ⟨⟨_, h1⟩, ⟨_, h2⟩, h.2⟩
  · exact ⟨⟨_, h1⟩, ⟨_, h2⟩, h.2⟩
end Bk
end Go.Proofs.YtoakokpeomlkjaaDoor
