/- Layer 7 (blocks): an argument that is a row of numbers; what holds in BlocksOnce. -/
import Derived.Test.YtoakokpeomlkjaaBl
namespace Go.Proofs.Ytoakokpeomlkjaa
open Go.ChangeShapes Go.WideShapes Go.ChangeAt Go.RowKit Go.Maps
namespace Bk
def nthI (l : List Int) (k : Nat) : Int := l.getD k 0
/-- An argument that is a slice of numbers: those up to its length. -/
def Arg (w : World) (ao : Option Addr) (len : Nat) (xs : List Int) : Prop :=
  xs.length = len ∧ (∀ x ∈ xs, I64 x) ∧ (xs = [] ∨ ∃ g off, ao = some ⟨g, off, none⟩ ∧ ∀ i, i < xs.length → w.cell? ⟨g, off + i, none⟩ = some (num (nthI xs i)))
theorem Arg.more {w w' : World} {ao : Option Addr} {len : Nat} {xs : List Int} (h : Arg w ao len xs) (hg : w.grownBy w' none) : Arg w' ao len xs := by
  refine ⟨h.1, h.2.1, ?_⟩
  rcases h.2.2 with h | ⟨g, off, h1, h2⟩
  · exact .inl h
  · exact .inr ⟨g, off, h1, fun i hi => by rw [cell_of_block (hg.block g (lt_of_cell (h2 i hi)) (by simp))]; exact h2 i hi⟩
theorem arg_of {W : World} {a0 : Option Addr} {len0 cap0 : Nat} {H : Type} {enc : TypeId × Value → H} {base : Nat} {d : DataW H} {ps : List MemPlace}
    (h0 : DataW.Trod enc Try.prog W base (fun _ => true) true 33 (.slice a0 len0 cap0) d ps) : ∃ xs, Arg W a0 len0 xs ∧ len0 ≤ 9223372036854775807 := by
  obtain ⟨fuel, hf⟩ := h0
  rcases open_ints Try.underlying33 Try.underlying3 (by kernel_rfl) hf with ⟨hcs, _⟩ | ⟨x, l, c, zs, hcs, _, hl, hm, hz, _, hcell, hwz⟩
  · simp [Value.cells] at hcs
    obtain ⟨rfl, rfl, rfl⟩ := hcs
    exact ⟨[], ⟨rfl, by simp, .inl rfl⟩, by omega⟩
  · simp [Value.cells] at hcs
    obtain ⟨rfl, rfl, rfl⟩ := hcs
    have hz' : zs.length = cap0 := by simpa using hz
    unfold maxLen at hm
    refine ⟨zs.take len0, ⟨by simp; omega, fun y hy => i64_of_wf (hwz y (List.mem_of_mem_take hy)), ?_⟩, by omega⟩
    by_cases h0 : len0 = 0
    · subst h0; exact .inl (by simp)
    · obtain ⟨g, off, spot⟩ := x
      have hc := hcell 0 (by omega)
      have hspot : spot = none := by simpa [Addr.add] using World.cell?_spot hc
      subst hspot
      refine .inr ⟨g, off, rfl, fun i hi => ?_⟩
      have hi' : i < zs.length := by simp at hi; omega
      have hi2 : i < len0 := by simp at hi; omega
      have := hcell i hi'
      rw [addr_add'] at this
      rw [this]
      simp [nthI, hi2]
theorem Arg.at {w wr : World} {ao : Option Addr} {len : Nat} {xs : List Int} (h : Arg w ao len xs) (s : Stp (fun g => w.heap.size ≤ g) w wr) {k : Nat} (hk : k < len) : ∃ g off, ao = some ⟨g, off, none⟩ ∧ wr.cell? ⟨g, off + k, none⟩ = some (num (nthI xs k)) ∧ I64 (nthI xs k) := by
  obtain ⟨h1, h2, h3⟩ := h
  rcases h3 with rfl | ⟨g, off, e, hc⟩
  · simp at h1; omega
  · have hk' : k < xs.length := by omega
    have hcell := hc k hk'
    have hlt := lt_of_cell hcell
    refine ⟨g, off, e, s.cell (by omega) hcell, ?_⟩
    have : nthI xs k = xs[k] := by simp [nthI, hk']
    rw [this]
    exact h2 _ (List.getElem_mem hk')
/-- What holds between two rounds of BlocksOnce: the maps hold the blocks that are taken, and those that are bad. -/
structure OnceR (w : World) (P : Lay) (B k : Nat) (f : Pool) (wr : World) : Prop where
  pool : PoolM wr P f
  low : P.p < B ∧ P.d < B ∧ ∀ i, i < P.n → P.b i < B
  st : ∀ j, j < P.m → (f 1 j).st = 1 ∨ (f 1 j).st = 2 ∨ (f 1 j).st = 4
  zero : ∀ j, f 0 j = ⟨1, 0⟩
  held : SetM wr B (f 1) P.m 2 k
  bad : SetM wr (B + 1) (f 1) P.m 4 k
  stp : Stp (fun g => w.heap.size ≤ g) w wr
  hi : Hi w.heap.size P
  ge : w.heap.size ≤ B
theorem OnceR.more {w wr : World} {P : Lay} {B k k' : Nat} {f : Pool} (h : OnceR w P B k f wr) (hk : k ≤ k') : OnceR w P B k' f wr := ⟨h.pool, h.low, h.st, h.zero, h.held.mono hk, h.bad.mono hk, h.stp, h.hi, h.ge⟩
theorem not_K {P : Lay} {B g : Nat} (h : P.p < B ∧ P.d < B ∧ ∀ i, i < P.n → P.b i < B) (hg : B ≤ g) : ¬ P.K g := fun ⟨i, hi, e⟩ => by have := h.2.2 i hi; omega
theorem stp_ge {w a b : World} {row : Option Nat} (hg : a.grownBy b row) (h : ∀ g, row = some g → w.heap.size ≤ g) : Stp (fun g => w.heap.size ≤ g) a b := (stp_of_row hg).more h
/-- A block of die 1 is turned by a call; the pool's memory is what is asked. -/
theorem upd_row {f : Pool} {k : Nat} (x : Blk) : ∀ j, j ≠ k → (upd f 1 k x) 1 j = f 1 j := fun _ hj => upd_other _ fun e => hj e.2
theorem upd_at {f : Pool} {k : Nat} (x : Blk) : (upd f 1 k x) 1 k = x := upd_same _ _ _ _
theorem upd_zero {f : Pool} {k : Nat} (x : Blk) (j : Nat) : (upd f 1 k x) 0 j = f 0 j := upd_other _ fun e => absurd e.1 (by decide)
theorem PoolM.row {w w' : World} {P : Lay} {f : Pool} (h : PoolM w P f) {B g : Nat} (hl : P.p < B ∧ P.d < B ∧ ∀ i, i < P.n → P.b i < B) (hg : w.grownBy w' (some g)) (hb : B ≤ g) : PoolM w' P f :=
  h.stp (stp_of_row hg) (fun e => by cases e; omega) (fun e => by cases e; omega) fun i hi e => by have := hl.2.2 i hi; cases e; omega
/-- Nothing is turned. -/
theorem OnceR.still {w wr w3 : World} {P : Lay} {B k : Nat} {f : Pool} (h : OnceR w P B k f wr) (hP : PoolM w3 P f) (s3 : Stp P.K wr w3) : OnceR w P B k f w3 :=
  ⟨hP, h.low, h.st, h.zero, h.held.kept (s3.same _ h.held.lt (not_K h.low (Nat.le_refl _))), h.bad.kept (s3.same _ h.bad.lt (not_K h.low (by omega))), h.stp.trans (s3.more h.hi.K), h.hi, h.ge⟩
theorem OnceR.sum {w wr : World} {P : Lay} {B k : Nat} {f : Pool} (h : OnceR w P B k f wr) : cnt (f 1) P.m 1 + cnt (f 1) P.m 2 + cnt (f 1) P.m 4 = P.m := cnt_three h.st
theorem cnt_none {r : Nat → Blk} {m : Nat} {s : Int} (h : ∀ k, k < m → (r k).st ≠ s) : cnt r m s = 0 := by
  unfold cnt cntL
  rw [List.filter_eq_nil_iff.2 (fun x _ => by simpa using h x.1 x.2)]
  rfl
/-- A block is taken. -/
theorem OnceR.take {w wr w3 : World} {P : Lay} {B k : Nat} {f : Pool} (h : OnceR w P B k f wr) (hk : k ≤ 100) {x : Nat} (hx : x < P.m) (hs : (f 1 x).st = 1) {e : Nat} (hP : PoolM w3 P (upd f 1 x ⟨2, e⟩)) (s3 : Stp P.K wr w3) :
    ∃ w', (Instr.mapUpdate 34 (.map (some B)) (num x) (num 1)).run Try.prog w3 = .ok () w' ∧ OnceR w P B (k + 1) (upd f 1 x ⟨2, e⟩) w' := by
  have m64 := h.pool.m64
  have hh3 := h.held.kept (s3.same _ h.held.lt (not_K h.low (Nat.le_refl _)))
  have hb3 := h.bad.kept (s3.same _ h.bad.lt (not_K h.low (by omega)))
  obtain ⟨w', hrun, hset, hg⟩ := hh3.put (r' := upd f 1 x ⟨2, e⟩ 1) (by omega) hx m64 (upd_row _) (by rw [upd_at])
  have hb4 := (hb3.same (r' := upd f 1 x ⟨2, e⟩ 1) hx (upd_row _) (by rw [upd_at, hs]; simp)).kept (hg.block _ hb3.lt (fun e => by have := Option.some.inj e; omega))
  refine ⟨w', hrun, hP.row h.low hg (Nat.le_refl _), h.low, fun j hj => ?_, fun j => by rw [upd_zero]; exact h.zero j, hset, hb4.mono (by omega), (h.stp.trans (s3.more h.hi.K)).trans (stp_ge hg fun g e => by cases e; exact h.ge), h.hi, h.ge⟩
  by_cases ej : j = x
  · subst ej; rw [upd_at]; exact .inr (.inl rfl)
  · rw [upd_row _ j ej]; exact h.st j hj
/-- A block is given free, or nothing is. -/
theorem OnceR.free {w wr w3 : World} {P : Lay} {B k : Nat} {f f' : Pool} (h : OnceR w P B k f wr) {x : Nat} (hx : x < P.m) (hz : ∀ j, f' 0 j = f 0 j) (ho : ∀ j, j ≠ x → f' 1 j = f 1 j) (hs : (f' 1 x).st = 1 ∨ (f' 1 x).st = 4) (h4 : (f' 1 x).st = 4 ↔ (f 1 x).st = 4) (hP : PoolM w3 P f') (s3 : Stp P.K wr w3) (ty : TypeId) :
    ∃ w', (Builtin.delete_ #[34, 3] ty #[.map (some B), num x]).run Try.prog w3 = .ok (.tuple #[]) w' ∧ OnceR w P B k f' w' := by
  have m64 := h.pool.m64
  have hh3 := h.held.kept (s3.same _ h.held.lt (not_K h.low (Nat.le_refl _)))
  have hb3 := h.bad.kept (s3.same _ h.bad.lt (not_K h.low (by omega)))
  obtain ⟨w', hrun, hset, hg⟩ := hh3.del (r' := f' 1) hx m64 ho (by rcases hs with e | e <;> rw [e] <;> decide) ty
  have hb4 := (hb3.same (r' := f' 1) hx ho h4).kept (hg.block _ hb3.lt (fun e => by have := Option.some.inj e; omega))
  refine ⟨w', hrun, hP.row h.low hg (Nat.le_refl _), h.low, fun j hj => ?_, fun j => by rw [hz]; exact h.zero j, hset, hb4, (h.stp.trans (s3.more h.hi.K)).trans (stp_ge hg fun g e => by cases e; exact h.ge), h.hi, h.ge⟩
  by_cases ej : j = x
  · subst ej; rcases hs with e | e
    · exact .inl e
    · exact .inr (.inr e)
  · rw [ho j ej]; exact h.st j hj
/-- A block is bad. -/
theorem OnceR.spoil {w wr w3 : World} {P : Lay} {B k : Nat} {f : Pool} (h : OnceR w P B k f wr) (hk : k ≤ 100) {x e : Nat} (hx : x < P.m) (hP : PoolM w3 P (upd f 1 x ⟨4, e⟩)) (s3 : Stp P.K wr w3) (ty : TypeId) :
    ∃ w4 w5, (Builtin.delete_ #[34, 3] ty #[.map (some B), num x]).run Try.prog w3 = .ok (.tuple #[]) w4 ∧ (Instr.mapUpdate 34 (.map (some (B + 1))) (num x) (num 1)).run Try.prog w4 = .ok () w5 ∧ OnceR w P B (k + 1) (upd f 1 x ⟨4, e⟩) w5 := by
  have m64 := h.pool.m64
  have hh3 := h.held.kept (s3.same _ h.held.lt (not_K h.low (Nat.le_refl _)))
  have hb3 := h.bad.kept (s3.same _ h.bad.lt (not_K h.low (by omega)))
  obtain ⟨w4, hrun, hset, hg⟩ := hh3.del (r' := upd f 1 x ⟨4, e⟩ 1) hx m64 (upd_row _) (by rw [upd_at]; exact (by decide : (4 : Int) ≠ 2)) ty
  have hb4 := hb3.kept (hg.block _ hb3.lt (fun e => by have := Option.some.inj e; omega))
  obtain ⟨w5, hrun5, hset5, hg5⟩ := hb4.put (r' := upd f 1 x ⟨4, e⟩ 1) (by omega) hx m64 (upd_row _) (by rw [upd_at])
  have hh5 := hset.kept (hg5.block _ hset.lt (fun e => by have := Option.some.inj e; omega))
  refine ⟨w4, w5, hrun, hrun5, (hP.row h.low hg (Nat.le_refl _)).row h.low hg5 (by omega), h.low, fun j hj => ?_, fun j => by rw [upd_zero]; exact h.zero j, hh5.mono (by omega), hset5, ((h.stp.trans (s3.more h.hi.K)).trans (stp_ge hg fun g e => by cases e; exact h.ge)).trans (stp_ge hg5 fun g e => by cases e; have := h.ge; omega), h.hi, h.ge⟩
  by_cases ej : j = x
  · subst ej; rw [upd_at]; exact .inr (.inr rfl)
  · rw [upd_row _ j ej]; exact h.st j hj
end Bk
end Go.Proofs.Ytoakokpeomlkjaa
