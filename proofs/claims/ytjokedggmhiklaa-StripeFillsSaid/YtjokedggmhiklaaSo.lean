/- Layer 6 (stripe): arguments that are layouts, rows of leaves. -/
import Derived.Test.YtjokedggmhiklaaSn
import Derived.Lib.SmallJoins
namespace Go.Proofs.Ytjokedggmhiklaa
open Go.ChangeShapes Go.WideShapes Go.ChangeAt Go.RowKit Go.Maps
namespace Sp
theorem u8_of_wf {x : Int} (h : (Lit.int .u8 x).wf = true) : 0 ≤ x ∧ x ≤ 255 := by
  simp [Lit.wf, IntKind.min, IntKind.max, IntKind.signed, IntKind.bits] at h
  omega
theorem u32_of_wf {x : Int} (h : (Lit.int .u32 x).wf = true) : 0 ≤ x ∧ x < 4294967296 := by
  simp [Lit.wf, IntKind.min, IntKind.max, IntKind.signed, IntKind.bits] at h
  omega
theorem u64_of_wf {x : Int} (h : (Lit.int .u64 x).wf = true) : 0 ≤ x ∧ x < 18446744073709551616 := by
  simp [Lit.wf, IntKind.min, IntKind.max, IntKind.signed, IntKind.bits] at h
  omega
section
variable {W : World} {H : Type} {enc : TypeId × Value → H} {base : Nat}
theorem bytes_of {fuel : Nat} {cs : List Value} {x : DataW H × List MemPlace} (hf : DataW.trod enc Try.prog W base (fun _ => true) true fuel 49 cs = some x) : ∃ v b, cs = [v] ∧ BytesM W All v b := by
  rcases open_ints Try.underlying49 Try.underlying5 (by kernel_rfl) hf with ⟨hcs, _⟩ | ⟨a, l, c, zs, hcs, _, hl, hm, hz, _, hcell, hwz⟩
  · exact ⟨.slice none 0 0, [], hcs, fun i => by rw [nth_over _ (by simp)]; omega, Rows.nil _ _ _⟩
  · have hz' : zs.length = c := by simpa using hz
    unfold maxLen at hm
    have hb : ∀ i (hi : i < zs.length), 0 ≤ zs[i] ∧ zs[i] ≤ 255 := fun i hi => u8_of_wf (hwz _ (List.getElem_mem hi))
    have hlen : ((zs.take l).map Int.toNat).length = l := by simp; omega
    have hn' : ∀ i (hi : i < l), ((nth ((zs.take l).map Int.toNat) i : Nat) : Int) = zs[i]'(by omega) := fun i hi => by
      rw [nth_of (by omega)]
      have := hb i (by omega)
      simp
      omega
    refine ⟨_, (zs.take l).map Int.toNat, hcs, fun i => ?_, some a, c, by rw [hlen], by rw [hlen]; exact hl, hm, ?_⟩
    · by_cases hi : i < l
      · have h1 := hn' i hi
        have h2 := hb i (by omega)
        omega
      · rw [nth_over _ (by omega)]; omega
    · rw [hlen]
      by_cases h0 : l = 0
      · exact .inl h0
      · obtain ⟨g, off, spot⟩ := a
        have hc := hcell 0 (by omega)
        have hspot : spot = none := by simpa [Addr.add] using World.cell?_spot hc
        subst hspot
        refine .inr ⟨g, off, rfl, trivial, fun i hi => ?_⟩
        have := hcell i (by omega)
        rw [addr_add'] at this
        rw [Nat.mul_one]
        show W.cell? ⟨g, off + i, none⟩ = some (.int .u8 ((nth ((zs.take l).map Int.toNat) i : Nat) : Int))
        rw [this, hn' i hi]
        simp [show i < zs.length by omega]
noncomputable def fsSl : Array Field := match Try.prog.underlying 53 with | some (.struct fs) => fs | _ => #[]
theorem underSl : Try.prog.underlying 53 = some (.struct fsSl) := by kernel_rfl
theorem fsSl_map : (fsSl.map fun f => (f.offset, f.type)) = #[(0, 50), (1, 3), (2, 51)] := by kernel_rfl
theorem fs_at {fs : Array Field} {L : Array (Nat × Nat)} (h : (fs.map fun f => (f.offset, f.type)) = L) {i o t : Nat} (hi : L[i]? = some (o, t)) : ∃ f, fs[i]? = some f ∧ f.offset = o ∧ f.type = t := by
  rw [← h, Array.getElem?_map] at hi
  cases e : fs[i]? with
  | none => rw [e] at hi; cases hi
  | some f =>
    rw [e] at hi
    simp at hi
    exact ⟨f, rfl, hi.1, hi.2⟩
theorem cells3 : Try.prog.cellsOf 3 = 1 := by kernel_rfl
theorem cells50 : Try.prog.cellsOf 50 = 1 := by kernel_rfl
theorem cells51 : Try.prog.cellsOf 51 = 1 := by kernel_rfl
theorem cellsSl : Try.prog.cellsOf 53 = 3 := by kernel_rfl
theorem cellsB : Try.prog.cellsOf 49 = 1 := by kernel_rfl
theorem cellsSs : Try.prog.cellsOf 29 = 1 := by kernel_rfl
theorem cellsBs : Try.prog.cellsOf 30 = 1 := by kernel_rfl
theorem cellsLf : Try.prog.cellsOf 32 = 2 := by kernel_rfl
theorem slot_of {fuel : Nat} {cs : List Value} {x : DataW H × List MemPlace} (hl : cs.length = 3) (hf : DataW.trod enc Try.prog W base (fun _ => true) true fuel 53 cs = some x) : ∃ s : Slot, cs = [q32 s.key, num s.state, q64 s.seq] ∧ SlotI s := by
  obtain ⟨xs, k, _, _, _, hxl, hfs⟩ := DataW.trod_struct underSl hf
  match cs, hl with
  | [c0, c1, c2], _ =>
    have hxs : xs.length = 3 := by
      rw [hxl]
      have := congrArg Array.size fsSl_map
      simpa using this
    obtain ⟨f0, a1, a2, a3⟩ := fs_at fsSl_map (i := 0) rfl
    obtain ⟨f1, b1, b2, b3⟩ := fs_at fsSl_map (i := 1) rfl
    obtain ⟨f2, d1, d2, d3⟩ := fs_at fsSl_map (i := 2) rfl
    have h0 := hfs 0 f0 a1
    have h1 := hfs 1 f1 b1
    have h2 := hfs 2 f2 d1
    rw [a2, a3, cells50, List.getElem?_eq_getElem (by omega)] at h0
    rw [b2, b3, cells3, List.getElem?_eq_getElem (by omega)] at h1
    rw [d2, d3, cells51, List.getElem?_eq_getElem (by omega)] at h2
    obtain ⟨z0, e0, _, w0⟩ := DataW.trod_int Try.underlying50 h0
    obtain ⟨z1, e1, _, w1⟩ := DataW.trod_int Try.underlying3 h1
    obtain ⟨z2, e2, _, w2⟩ := DataW.trod_int Try.underlying51 h2
    have p0 := u32_of_wf w0
    have p2 := u64_of_wf w2
    simp at e0 e1 e2
    obtain ⟨k0, rfl⟩ : ∃ k0 : Nat, z0 = k0 := ⟨z0.toNat, by omega⟩
    obtain ⟨k2, rfl⟩ : ∃ k2 : Nat, z2 = k2 := ⟨z2.toNat, by omega⟩
    subst e0 e1 e2
    exact ⟨⟨k0, z1, k2⟩, rfl, ⟨by show k0 < _; omega, i64_of_wf w1, by show k2 < _; omega⟩⟩
theorem slots_of {fuel : Nat} {cs : List Value} {x : DataW H × List MemPlace} (hf : DataW.trod enc Try.prog W base (fun _ => true) true fuel 29 cs = some x) : ∃ v n f, cs = [v] ∧ SlotsM W All v n f ∧ ∀ i, i < n → SlotI (f i) := by
  rcases Deep.open_slice Try.underlying29 hf with ⟨hcs, _⟩ | ⟨a, len, cap, m, n, D, Pl, hcs, _, hl, hm, hmm, _, hx⟩
  · exact ⟨.slice none 0 0, 0, fun _ => ⟨0, 0, 0⟩, hcs, Rows.nil _ _ _, fun i hi => by omega⟩
  · unfold maxLen at hm
    have hlm : len ≤ m := by rw [hmm]; split <;> omega
    rw [cellsSl] at hx
    have each : ∀ i, i < len → ∃ s : Slot, (∀ j v, [q32 s.key, num s.state, q64 s.seq][j]? = some v → W.cell? (a.add (i * 3 + j)) = some v) ∧ SlotI s := fun i hi => by
      obtain ⟨cs', h1, h2⟩ := hx i (by omega)
      obtain ⟨_, hlen, hcell⟩ := World.cells?_some h1
      obtain ⟨s, rfl, hs⟩ := slot_of hlen h2
      refine ⟨s, fun j v hv => ?_, hs⟩
      have hj : j < 3 := (List.getElem?_eq_some_iff.1 hv).1
      have := hcell j hj
      rw [Deep.add_add] at this
      rw [this, hv]
    have hin : Inhabited Slot := ⟨⟨0, 0, 0⟩⟩
    obtain ⟨q, hq⟩ := Deep.choose_lt (α := Slot) (h := each)
    refine ⟨_, len, q, hcs, ⟨some a, cap, rfl, hl, hm, ?_⟩, fun i hi => (hq i hi).2⟩
    by_cases h0 : len = 0
    · exact .inl h0
    · obtain ⟨g, off, spot⟩ := a
      have hc := (hq 0 (by omega)).1 0 _ rfl
      have hspot : spot = none := by simpa [Addr.add] using World.cell?_spot hc
      subst hspot
      refine .inr ⟨g, off, rfl, trivial, fun i hi => ?_⟩
      have h2 : ∀ j v, [q32 (q i).key, num (q i).state, q64 (q i).seq][j]? = some v → W.cell? ⟨g, off + i * 3 + j, none⟩ = some v := fun j v hv => by
        have := (hq i hi).1 j v hv
        rw [addr_add', ← Nat.add_assoc] at this
        exact this
      exact ⟨h2 0 _ rfl, h2 1 _ rfl, h2 2 _ rfl⟩
theorem secs_of {fuel : Nat} {cs : List Value} {x : DataW H × List MemPlace} (hf : DataW.trod enc Try.prog W base (fun _ => true) true fuel 30 cs = some x) : ∃ v n f, cs = [v] ∧ SecsM W All v n f := by
  rcases Deep.open_slice Try.underlying30 hf with ⟨hcs, _⟩ | ⟨a, len, cap, m, n, D, Pl, hcs, _, hl, hm, hmm, _, hx⟩
  · exact ⟨.slice none 0 0, 0, fun _ => [], hcs, Rows.nil _ _ _⟩
  · unfold maxLen at hm
    have hlm : len ≤ m := by rw [hmm]; split <;> omega
    rw [cellsB] at hx
    have each : ∀ i, i < len → ∃ b : List Nat, ∃ v, W.cell? (a.add i) = some v ∧ BytesM W All v b := fun i hi => by
      obtain ⟨cs', h1, h2⟩ := hx i (by omega)
      obtain ⟨_, hlen, hcell⟩ := World.cells?_some h1
      obtain ⟨v, b, rfl, hb⟩ := bytes_of h2
      refine ⟨b, v, ?_, hb⟩
      have := hcell 0 (by simp)
      rw [Deep.add_add] at this
      simpa using this
    have hin : Inhabited (List Nat) := ⟨[]⟩
    obtain ⟨q, hq⟩ := Deep.choose_lt (α := List Nat) (h := each)
    refine ⟨_, len, q, hcs, ⟨some a, cap, rfl, hl, hm, ?_⟩⟩
    by_cases h0 : len = 0
    · exact .inl h0
    · obtain ⟨g, off, spot⟩ := a
      obtain ⟨v, hc, _⟩ := hq 0 (by omega)
      have hspot : spot = none := by simpa [Addr.add] using World.cell?_spot hc
      subst hspot
      refine .inr ⟨g, off, rfl, trivial, fun i hi => ?_⟩
      obtain ⟨v, h1, h2⟩ := hq i hi
      rw [addr_add'] at h1
      rw [Nat.mul_one]
      exact ⟨v, h1, h2⟩
noncomputable def fsLf : Array Field := match Try.prog.underlying 32 with | some (.struct fs) => fs | _ => #[]
theorem underLf : Try.prog.underlying 32 = some (.struct fsLf) := by kernel_rfl
theorem fsLf_map : (fsLf.map fun f => (f.offset, f.type)) = #[(0, 29), (1, 30)] := by kernel_rfl
theorem leaf_of {fuel : Nat} {cs : List Value} {x : DataW H × List MemPlace} (hl : cs.length = 2) (hf : DataW.trod enc Try.prog W base (fun _ => true) true fuel 32 cs = some x) : ∃ sv bv, ∃ y : Leaf, cs = [sv, bv] ∧ LeafM W All sv bv y := by
  obtain ⟨xs, k, _, _, _, hxl, hfs⟩ := DataW.trod_struct underLf hf
  match cs, hl with
  | [c0, c1], _ =>
    have hxs : xs.length = 2 := by
      rw [hxl]
      have := congrArg Array.size fsLf_map
      simpa using this
    obtain ⟨f0, a1, a2, a3⟩ := fs_at fsLf_map (i := 0) rfl
    obtain ⟨f1, b1, b2, b3⟩ := fs_at fsLf_map (i := 1) rfl
    have h0 := hfs 0 f0 a1
    have h1 := hfs 1 f1 b1
    rw [a2, a3, cellsSs, List.getElem?_eq_getElem (by omega)] at h0
    rw [b2, b3, cellsBs, List.getElem?_eq_getElem (by omega)] at h1
    obtain ⟨sv, n, f, e0, m0, i0⟩ := slots_of h0
    obtain ⟨bv, n', f', e1, m1⟩ := secs_of h1
    simp at e0 e1
    subst e0 e1
    exact ⟨c0, c1, ⟨n, f, n', f'⟩, rfl, ⟨m0, m1, i0⟩⟩
theorem leaves_of {a0 : Option Addr} {len0 cap0 : Nat} {d : DataW H} {ps : List MemPlace} (h0 : DataW.Trod enc Try.prog W base (fun _ => true) true 28 (.slice a0 len0 cap0) d ps) : ∃ xs, LeavesM W All (.slice a0 len0 cap0) len0 xs := by
  obtain ⟨fuel, hf⟩ := h0
  rcases Deep.open_slice Try.underlying28 hf with ⟨hcs, _⟩ | ⟨a, len, cap, m, n, D, Pl, hcs, _, hl, hm, hmm, _, hx⟩
  · simp [Value.cells] at hcs
    obtain ⟨rfl, rfl, rfl⟩ := hcs
    exact ⟨fun _ => ⟨0, fun _ => ⟨0, 0, 0⟩, 0, fun _ => []⟩, Rows.nil _ _ _⟩
  · simp [Value.cells] at hcs
    obtain ⟨rfl, rfl, rfl⟩ := hcs
    unfold maxLen at hm
    have hlm : len0 ≤ m := by rw [hmm]; split <;> omega
    rw [cellsLf] at hx
    have each : ∀ i, i < len0 → ∃ y : Leaf, ∃ sv bv, W.cell? (a.add (i * 2)) = some sv ∧ W.cell? (a.add (i * 2 + 1)) = some bv ∧ LeafM W All sv bv y := fun i hi => by
      obtain ⟨cs', h1, h2⟩ := hx i (by omega)
      obtain ⟨_, hlen, hcell⟩ := World.cells?_some h1
      obtain ⟨sv, bv, y, rfl, hy⟩ := leaf_of hlen h2
      have e0 := hcell 0 (by simp)
      have e1 := hcell 1 (by simp)
      rw [Deep.add_add] at e0 e1
      exact ⟨y, sv, bv, by simpa using e0, by simpa using e1, hy⟩
    have hin : Inhabited Leaf := ⟨⟨0, fun _ => ⟨0, 0, 0⟩, 0, fun _ => []⟩⟩
    obtain ⟨q, hq⟩ := Deep.choose_lt (α := Leaf) (h := each)
    refine ⟨q, ⟨some a, cap0, rfl, hl, hm, ?_⟩⟩
    by_cases h0 : len0 = 0
    · exact .inl h0
    · obtain ⟨g, off, spot⟩ := a
      obtain ⟨sv, bv, hc, _⟩ := hq 0 (by omega)
      have hspot : spot = none := by simpa [Addr.add] using World.cell?_spot hc
      subst hspot
      refine .inr ⟨g, off, rfl, trivial, fun i hi => ?_⟩
      obtain ⟨sv, bv, h1, h2, h3⟩ := hq i hi
      rw [addr_add'] at h1 h2
      rw [← Nat.add_assoc] at h2
      exact ⟨sv, bv, h1, h2, h3⟩
noncomputable def fsLy : Array Field := match Try.prog.underlying 27 with | some (.struct fs) => fs | _ => #[]
theorem underLy : Try.prog.underlying 27 = some (.struct fsLy) := by kernel_rfl
theorem fsLy_map : (fsLy.map fun f => (f.offset, f.type)) = #[(0, 3), (1, 3), (2, 3)] := by kernel_rfl
theorem cellsLy : Try.prog.cellsOf 27 = 3 := by kernel_rfl
theorem layout_of {b : Nat} {v : Value} {d : DataW H} {ps : List MemPlace} (hv : Value.okWide Try.prog W .any b 27 v) (h0 : DataW.Trod enc Try.prog W base (fun _ => true) true 27 v d ps) : ∃ S N T : Int, v = layV S N T ∧ I64 S ∧ I64 N ∧ I64 T := by
  obtain ⟨cs, rfl, hsz⟩ := okWide_struct underLy hv
  obtain ⟨c0, c1, c2, rfl⟩ := Joins.array3 (hsz.trans cellsLy)
  obtain ⟨fuel, hf⟩ := h0
  obtain ⟨xs, k, _, _, _, hxl, hfs⟩ := DataW.trod_struct underLy hf
  have hxs : xs.length = 3 := by
    rw [hxl]
    have := congrArg Array.size fsLy_map
    simpa using this
  have each : ∀ (i : Nat) (hi : i < 3) (c : Value), [c0, c1, c2][i]? = some c → ∃ z, c = num z ∧ I64 z := fun i hi c hc => by
    have hi3 : i = 0 ∨ i = 1 ∨ i = 2 := by omega
    have : ∃ f, fsLy[i]? = some f ∧ f.offset = i ∧ f.type = 3 := by rcases hi3 with rfl | rfl | rfl <;> exact fs_at fsLy_map rfl
    obtain ⟨f, a1, a2, a3⟩ := this
    have h := hfs i f a1
    rw [a2, a3, cells3, List.getElem?_eq_getElem (by omega)] at h
    obtain ⟨z, e, _, w⟩ := DataW.trod_int Try.underlying3 h
    refine ⟨z, ?_, i64_of_wf w⟩
    rcases hi3 with rfl | rfl | rfl <;> (simp [Value.cells] at hc e; subst hc; exact e)
  obtain ⟨S, rfl, i0⟩ := each 0 (by omega) c0 rfl
  obtain ⟨N, rfl, i1⟩ := each 1 (by omega) c1 rfl
  obtain ⟨T, rfl, i2⟩ := each 2 (by omega) c2 rfl
  exact ⟨S, N, T, rfl, i0, i1, i2⟩
end
end Sp
end Go.Proofs.Ytjokedggmhiklaa
