/- Layer 4 (nand): a fault that turns bits is laid: the walk. -/
import Derived.Test.YtojamicakkecbabOb
namespace Go.Proofs.Ytojamicakkecbab
open Go.RowKit Go.Maps
namespace Nd
theorem infoI : (Try.prog.info? 3).map (fun i => (i.zero, i.size, i.bytes)) = some (some (.int .i64 0), 1, 8) := by kernel_rfl
theorem szI : (Try.prog.info? 3).map (·.size) = some 1 := by kernel_rfl
def valsI (l : List Int) : List Value := l.map fun x => num x
theorem valsI_len (l : List Int) : (valsI l).length = l.length := by simp [valsI]
theorem valsI_at {l : List Int} {k : Nat} (h : k < l.length) : (valsI l)[k]? = some (num (nthI l k)) := by simp [valsI, h, nthI]
theorem valsI_one (l : List Int) : ∀ u ∈ valsI l, u.oneCell' = true := fun u hu => by
  obtain ⟨x, _, rfl⟩ := List.mem_map.1 hu
  rfl
def zI (n : Nat) : List Int := List.replicate n 0
theorem make_intsL (w : World) (n : Nat) (hn : n ≤ 35184372088832) : (Instr.makeSlice 45 (num (n : Int)) (num (n : Int))).run Try.prog w = .ok (.slice (some ⟨w.heap.size, 0, none⟩) n n) (w.alloc (.cells (valsI (zI n)).toArray 3)) := by
  obtain ⟨i0, hi, hz0, hz1, hz2⟩ := info_parts infoI
  have hr := run_make (P := Try.prog) w 45 3 i0 (.int .i64 0) Try.underlying45 hi hz0 .i64 .i64 n n (by omega) (Int.le_refl _) (by rw [hz2]; omega) (by omega)
  simp only [Int.toNat_natCast, hz1, Nat.mul_one] at hr
  have e1 : (madeCells (Value.int .i64 0).cells n) = (valsI (zI n)).toArray := by
    apply Array.toList_inj.1
    rw [show (valsI (zI n)).toArray.toList = List.replicate n (num 0) by simp [valsI, zI]]
    exact (toList_madeCells_one (.int .i64 0) n)
  rw [e1] at hr
  exact hr
theorem splice_allI {n : Nat} {a bs : List Int} (ha : a.length = n) (hb : bs.length = n) : splice (valsI a) 0 (valsI bs) = valsI bs := by
  simp [splice, valsI, ha, hb]
theorem infoFl : (Try.prog.info? 87).map (fun i => (i.zero.map (fun z => z.cells.size), i.size, i.bytes)) = some (some 4, 4, 48) := by kernel_rfl
theorem infoFl_parts : ∃ i z, Try.prog.info? 87 = some i ∧ i.zero = some z ∧ z.cells.size = 4 ∧ i.size = 4 ∧ i.bytes = 48 := by
  have h := infoFl
  cases hi : Try.prog.info? 87 with
  | none => rw [hi] at h; cases h
  | some i =>
    rw [hi] at h
    simp only [Option.map_some, Option.some.injEq, Prod.mk.injEq] at h
    obtain ⟨h1, h2, h3⟩ := h
    cases hz : i.zero with
    | none => rw [hz] at h1; cases h1
    | some z =>
      rw [hz] at h1
      exact ⟨i, z, rfl, hz, by simpa using h1, h2, h3⟩
theorem flV_one (F : Flip) (gb : Nat) : ∀ u ∈ flV F gb, u.oneCell' = true := fun u hu => by
  simp only [List.mem_cons, List.not_mem_nil, or_false] at hu
  rcases hu with rfl | rfl | rfl | rfl <;> rfl
set_option maxHeartbeats 25600000 in
set_option maxRecDepth 4000 in
theorem lay_1 {w : World} {M : Lay} {A : St} {lab : Lab} (h : Arr w M A lab) {at_ page times part : Int} {d b : Nat} {bits : List Int} {ba : Option Addr} {bc : Nat} (hd : d < A.D) (hb : b < A.B)
    (hbits : BitsR w ⟨1, at_, d, b, page, times, part, bits, ba, bc⟩) (hbl : bits.length ≤ 35184372088832) (hfl : (A.blk d b).flips.length ≤ 2000) :
    Calls Try.prog 18 #[ptr M.a 0, fltV ⟨1, at_, d, b, page, times, part, bits, ba, bc⟩] w (LayPost w M (A.lay ⟨1, at_, d, b, page, times, part, bits, ba, bc⟩) lab) := by
  obtain ⟨W, hW⟩ : ∃ W, W = w.alloc (.cells (fltL ⟨1, at_, d, b, page, times, part, bits, ba, bc⟩).toArray 47) := ⟨_, rfl⟩
  have hgW : w.grownBy W none := by rw [hW]; exact World.grownBy_alloc w _ none
  have hbox : W.heap[w.heap.size]? = some (.cells (fltL ⟨1, at_, d, b, page, times, part, bits, ba, bc⟩).toArray 47) := by rw [hW]; exact heap_alloc_new w _
  have Hw : Hid _ := hW
  have hA : Arr W M A lab := h.more hgW
  have st : Stp lab lab w W := (Stp.refl _ _).grown hgW
  have hbW := hbits.more hgW
  have HBt : Hid (∀ w2 : World, W.grownBy w2 none → 0 < (valsI bits).length → ∃ ad, ba = some ad ∧ ∀ j v, (valsI bits)[j]? = some v → w2.cell? (ad.add j) = some v) := fun w2 hg2 hp => by
    rw [valsI_len] at hp
    obtain ⟨g, off, hba, hc⟩ := (hbW.more hg2).resolve_left (fun e => by simp only at e; rw [e] at hp; simp at hp)
    simp only at hba hc
    refine ⟨_, hba, fun j v hj => ?_⟩
    have hj2 : j < bits.length := by
      rcases Nat.lt_or_ge j bits.length with h | h
      · exact h
      · rw [List.getElem?_eq_none (by rw [valsI_len]; exact h)] at hj; cases hj
    rw [valsI_at hj2] at hj
    rw [addr_add', hc j hj2]; exact hj
  have f0 : W.cell? ⟨w.heap.size, 0, none⟩ = some (num 1) := (At.of_row (o := 0) hbox rfl).1
  have f1 : W.cell? ⟨w.heap.size, 1, none⟩ = some (num at_) := (At.of_row (o := 1) hbox rfl).1
  have f2 : W.cell? ⟨w.heap.size, 2, none⟩ = some (num d) := (At.of_row (o := 2) hbox rfl).1
  have f3 : W.cell? ⟨w.heap.size, 3, none⟩ = some (num b) := (At.of_row (o := 3) hbox rfl).1
  have f4 : W.cell? ⟨w.heap.size, 4, none⟩ = some (num page) := (At.of_row (o := 4) hbox rfl).1
  have f5 : W.cell? ⟨w.heap.size, 5, none⟩ = some (num times) := (At.of_row (o := 5) hbox rfl).1
  have f7 : W.cell? ⟨w.heap.size, 7, none⟩ = some (.slice ba bits.length bc) := (At.of_row (o := 7) hbox rfl).1
  have c5 := hA.cDs.1
  have db := (hA.die d hd).2.1
  have b1 : (d : Int) < (A.D : Int) := by omega
  have b2 : (b : Int) < (A.B : Int) := by omega
  have b3 : (A.D : Int) ≤ 8 := by have := h.dims.d2; omega
  have b4 : (A.B : Int) ≤ 64 := by have := h.dims.b2; omega
  have hnn := hnot
  have HFo : Hid (Try.prog.follows .mixedOrders = true) := follows_mixed
  have HMk : Hid (∀ w : World, (Instr.makeSlice 45 (num (bits.length : Int)) (num (bits.length : Int))).run Try.prog w = .ok (.slice (some ⟨w.heap.size, 0, none⟩) bits.length bits.length) (w.alloc (.cells (valsI (zI bits.length)).toArray 3))) := fun w => make_intsL w bits.length hbl
  clear hW hbits hbW
  go_enter Try.func18, Try.ntmps18
  go_wp2_with (rw [← Hw.out])
  go_quiet (fail)
  revert nq
  intro n1
  go_wp2_with fail
  go_quiet (fail)
  revert nq
  intro n2
  obtain ⟨V, hV⟩ : ∃ V, V = (W.drewN (n1 + n2)).alloc (.cells (valsI (zI bits.length)).toArray 3) := ⟨_, rfl⟩
  have hgV : W.grownBy V none := by
    have g := World.grownBy_alloc (W.drewN (n1 + n2)) (.cells (valsI (zI bits.length)).toArray 3) none
    rw [hV]; exact ⟨g.os, g.tape, g.output, g.size, g.block⟩
  have hbW : w.heap.size < W.heap.size := lt_of_heap hbox
  have g7 : V.cell? ⟨w.heap.size, 7, none⟩ = some (.slice ba bits.length bc) := by rw [cell_of_block (hgV.block _ hbW (by simp))]; exact f7
  have hrowV : V.heap[W.heap.size]? = some (.cells (valsI (zI bits.length)).toArray 3) := by rw [hV]; exact heap_alloc_new (W.drewN (n1 + n2)) _
  have hmk : (Instr.makeSlice 45 (num (bits.length : Int)) (num (bits.length : Int))).run Try.prog (W.drewN (n1 + n2)) = .ok (.slice (some ⟨W.heap.size, 0, none⟩) bits.length bits.length) V := by rw [hV]; exact HMk.out (W.drewN (n1 + n2))
  have HRV : Hid _ := hrowV
  have HGV : Hid _ := hgV
  clear hV hrowV hgV HMk
  go_wp2_with (first | ((refine wpList_copy_splice rfl (.tmp 31) (.tmp 33) 45 45 rfl 3 Try.underlying45 szI _ _ _ _ _ _ rfl rfl W.heap.size 0 (valsI (zI bits.length)) 3 HRV.out (valsI bits) (by rw [valsI_len]; exact (Nat.min_self _).symm) (fun hp => ⟨rfl, HBt.out V HGV.out hp⟩) (by rw [valsI_len, valsI_len]; simp [zI]) (valsI_one bits) W.heap.size V (Below.refl _ _) (Nat.le_refl _) ?_; intro w2 HG2 hB2)))
  have hg2 : W.grownBy w2 none := ⟨hB2.os.trans HGV.out.os, hB2.tape.trans HGV.out.tape, hB2.output.trans HGV.out.output, Nat.le_trans HGV.out.size hB2.size, fun x hx _ => (hB2.block x hx).trans (HGV.out.block x hx (by simp))⟩
  have hA2 : Arr w2 M A lab := hA.more hg2
  have st2 : Stp lab lab w w2 := st.grown hg2
  have hrow2 : w2.heap[W.heap.size]? = some (.cells (valsI bits).toArray 3) := by rw [← splice_allI (a := zI bits.length) (by simp [zI]) rfl]; exact HG2.out
  have hlW : lab W.heap.size = none := hA.fresh (Nat.le_refl _)
  have hW2 : W.heap.size < w2.heap.size := lt_of_heap hrow2
  have gr := fun i => cell_of_block (o := i) (hg2.block w.heap.size hbW (by simp))
  have e1 : w2.cell? ⟨w.heap.size, 1, none⟩ = some (num at_) := (gr 1).trans f1
  have e4 : w2.cell? ⟨w.heap.size, 4, none⟩ = some (num page) := (gr 4).trans f4
  have e5 : w2.cell? ⟨w.heap.size, 5, none⟩ = some (num times) := (gr 5).trans f5
  obtain ⟨V3, hV3⟩ : ∃ V3, V3 = w2.drew.alloc (.cells (flV ⟨page, at_, times, bits⟩ W.heap.size).toArray 87) := ⟨_, rfl⟩
  have hg3 : w2.grownBy V3 none := by
    have g := World.grownBy_alloc w2.drew (.cells (flV ⟨page, at_, times, bits⟩ W.heap.size).toArray 87) none
    rw [hV3]; exact ⟨g.os, g.tape, g.output, g.size, g.block⟩
  have hrow3 : V3.heap[w2.heap.size]? = some (.cells (flV ⟨page, at_, times, bits⟩ W.heap.size).toArray 87) := by rw [hV3]; exact heap_alloc_new w2.drew _
  have hs3 : V3.heap.size = w2.heap.size + 1 := by rw [hV3]; simp
  have hA3 : Arr V3 M A lab := hA2.more hg3
  have st3 : Stp lab lab w V3 := st2.grown hg3
  obtain ⟨v, xs, hv, hz, hown, happ⟩ := hA3.flApp hd hb
  have hbkl : M.bk d < w2.heap.size := hA2.lt _ (by rw [h.lbk d hd]; simp)
  have hv2 : w2.cell? ⟨M.bk d, b * 7 + 6, none⟩ = some v := by rw [← cell_of_block (hg3.block _ hbkl (by simp))]; exact hv
  have hbits3 : ∀ i, i < bits.length → V3.cell? ⟨W.heap.size, i, none⟩ = some (num (nthI bits i)) := fun i hi => by
    rw [cell_of_block (hg3.block _ hW2 (by simp)), cell_row hrow2]; exact valsI_at hi
  have HF := fun w3 g' cap' => happ w w3 g' cap' W.heap.size ⟨page, at_, times, bits⟩ st3 (by omega) (by omega) hlW hbits3
  have HNw : Hid (∀ j u, (flV ⟨page, at_, times, bits⟩ W.heap.size)[j]? = some u → V3.cell? ((⟨w2.heap.size, 0, none⟩ : Addr).add j) = some u) := fun j u hu => by
    rw [addr_add', Nat.zero_add, cell_row hrow3]; exact hu
  have HF' : Hid _ := HF
  have HOw : Hid _ := hown
  obtain ⟨iF, zF, i1, i2, i3, i4, i5⟩ := infoFl_parts
  clear hA2 st2 hrow2 hlW hW2 gr f0 f1 f2 f3 f4 f5 f7 c5 db hg3 hrow3 hA3 st3 hown happ hv hz hbits3 HF HG2 hB2 hg2 HRV HGV g7 hmk HBt hbox hA st hgW
  subst hV3
  clear hs3
  go_region_law (refine step_append_lies _ rfl (.tmp 39) (.tmp 48) 69 rfl 0 87 iF zF 4 48 Try.underlying69 i1 i2 i4 i5 i3 (by omega) v (A.blk d b).flips.length xs (by simp [Act.eval]) HOw.out ⟨w2.heap.size, 0, none⟩ 1 1 (flV ⟨page, at_, times, bits⟩ W.heap.size) (by simp [Act.eval]) rfl HNw.out (flV_one _ _) (by omega) (by unfold maxLen; omega) (by omega) (Nat.zero_le _) _ rfl ?_; intro g' cap' w3 hown3 hg3 hat3 hlt3; obtain ⟨z6, ⟨u6, c6⟩, HEnd⟩ := HF'.out w3 g' cap' hown3 hg3 hat3 hlt3)
  all_goals
    obtain ⟨lab', hA', st'⟩ := HEnd
    go_wp2
    go_end0
    exact ⟨lab', rfl, hA', st'⟩
end Nd
end Go.Proofs.Ytojamicakkecbab
