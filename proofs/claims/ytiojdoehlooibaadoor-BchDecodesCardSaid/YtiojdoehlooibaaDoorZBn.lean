/- New of the program: the code's struct. -/
import Derived.Test.YtiojdoehlooibaaDoorZCp
import Derived.Test.YtiojdoehlooibaaDoorZLm
namespace Go.Proofs.YtiojdoehlooibaaDoor
open Go.RowKit
namespace Gf
/-- Cells laid over others. -/
def lay (A : Array Value) (off : Nat) (vs : Array Value) : Array Value := vs.zipIdx.foldl (fun cs (c, j) => cs.setIfInBounds (off + j) c) A
theorem layL (off : Nat) : ∀ (l : List Value) (k : Nat) (A : Array Value), off + k + l.length ≤ A.size →
    (((l.zipIdx k).foldl (fun (cs : Array Value) (x : Value × Nat) => cs.setIfInBounds (off + x.2) x.1) A).size = A.size ∧ ∀ i, ((l.zipIdx k).foldl (fun (cs : Array Value) (x : Value × Nat) => cs.setIfInBounds (off + x.2) x.1) A)[i]? = if off + k ≤ i ∧ i < off + k + l.length then l[i - (off + k)]? else A[i]?)
  | [], k, A, _ => by
    refine ⟨rfl, fun i => ?_⟩
    rw [if_neg (by rw [List.length_nil]; omega)]; rfl
  | v :: l, k, A, h => by
    rw [List.length_cons] at h
    obtain ⟨h1, h2⟩ := layL off l (k + 1) (A.setIfInBounds (off + k) v) (by simp; omega)
    rw [List.zipIdx_cons, List.foldl_cons]
    refine ⟨by rw [h1]; simp, fun i => ?_⟩
    rw [h2 i, List.length_cons]
    by_cases e : i = off + k
    · subst e
      rw [if_neg (by omega), if_pos (by omega), Nat.sub_self, Array.getElem?_setIfInBounds_self_of_lt (by omega)]; rfl
    · by_cases a : off + k ≤ i ∧ i < off + k + (l.length + 1)
      · rw [if_pos (by omega), if_pos a, show i - (off + k) = i - (off + (k + 1)) + 1 by omega, List.getElem?_cons_succ]
      · rw [if_neg (by omega), if_neg a, Array.getElem?_setIfInBounds_ne (by omega)]
theorem lay_list (A : Array Value) (off : Nat) (vs : Array Value) : lay A off vs = (vs.toList.zipIdx 0).foldl (fun (cs : Array Value) (x : Value × Nat) => cs.setIfInBounds (off + x.2) x.1) A := by
  unfold lay
  rw [← Array.foldl_toList]
  simp
theorem lay_size {A : Array Value} {off : Nat} {vs : Array Value} (h : off + vs.size ≤ A.size) : (lay A off vs).size = A.size := by
  rw [lay_list]; exact (layL off vs.toList 0 A (by simpa using h)).1
theorem lay_get {A : Array Value} {off : Nat} {vs : Array Value} (h : off + vs.size ≤ A.size) (i : Nat) : (lay A off vs)[i]? = if off ≤ i ∧ i < off + vs.size then vs[i - off]? else A[i]? := by
  rw [lay_list, (layL off vs.toList 0 A (by simpa using h)).2 i]
  simp
theorem fill_cons {place : Nat → Option (Nat × Nat)} {A : Array Value} {i off size : Nat} {v : Value} {rest : List (Nat × Value)} (hp : place i = some (off, size)) (hs : v.cells.size = size) (hl : off + size ≤ A.size) :
    Instr.fill place A ((i, v) :: rest) = Instr.fill place (lay A off v.cells) rest := by
  rw [Instr.fill, hp]
  simp only [hs]
  rw [if_neg (by simp; omega)]
  rfl
theorem built64 (parts : List (Nat × Value)) : ∃ Z : Array Value, Z.size = 516 ∧ Tryd.prog.built 64 parts = Instr.fill (fun x => ([(0, 1), (1, 1), (2, 1), (3, 1), (4, 512)] : List (Nat × Nat)).toArray[x]?) Z parts :=
  ⟨Tryd.zeroCells64, by kernel_rfl, by kernel_rfl⟩
theorem code_built {v0 v1 v2 v3 : Value} (k0 : v0.cells = #[v0]) (k1 : v1.cells = #[v1]) (k2 : v2.cells = #[v2]) (k3 : v3.cells = #[v3]) {T : List Value} (hT : T.length = 512) :
    ∃ C : List Value, Tryd.prog.built 64 [(0, v0), (1, v1), (2, v2), (3, v3), (4, .agg T.toArray)] = some C.toArray ∧ C.length = 516 ∧ C[0]? = some v0 ∧ C[1]? = some v1 ∧ C[2]? = some v2 ∧ C[3]? = some v3 ∧ ∀ j, j < 512 → C[4 + j]? = T[j]? := by
  obtain ⟨Z, hZ, hb⟩ := built64 [(0, v0), (1, v1), (2, v2), (3, v3), (4, .agg T.toArray)]
  have s0 : 0 + v0.cells.size ≤ Z.size := by rw [k0, hZ]; simp
  have z1 := lay_size s0
  have s1 : 1 + v1.cells.size ≤ (lay Z 0 v0.cells).size := by rw [k1, z1, hZ]; simp
  have z2 := lay_size s1
  have s2 : 2 + v2.cells.size ≤ (lay (lay Z 0 v0.cells) 1 v1.cells).size := by rw [k2, z2, z1, hZ]; simp
  have z3 := lay_size s2
  have s3 : 3 + v3.cells.size ≤ (lay (lay (lay Z 0 v0.cells) 1 v1.cells) 2 v2.cells).size := by rw [k3, z3, z2, z1, hZ]; simp
  have z4 := lay_size s3
  have s4 : 4 + T.toArray.size ≤ (lay (lay (lay (lay Z 0 v0.cells) 1 v1.cells) 2 v2.cells) 3 v3.cells).size := by rw [z4, z3, z2, z1, hZ]; simp [hT]
  have z5 := lay_size s4
  refine ⟨(lay (lay (lay (lay (lay Z 0 v0.cells) 1 v1.cells) 2 v2.cells) 3 v3.cells) 4 T.toArray).toList, ?_, ?_, ?_, ?_, ?_, ?_, fun j hj => ?_⟩
  · rw [hb, fill_cons rfl (by rw [k0]; rfl) (by omega), fill_cons rfl (by rw [k1]; rfl) (by rw [z1]; omega), fill_cons rfl (by rw [k2]; rfl) (by rw [z2, z1]; omega), fill_cons rfl (by rw [k3]; rfl) (by rw [z3, z2, z1]; omega), fill_cons (off := 4) (size := 512) rfl (by show T.toArray.size = 512; simpa using hT) (by rw [z4, z3, z2, z1]; omega), Instr.fill]
    simp [Value.cells]
  · rw [Array.length_toList, z5, z4, z3, z2, z1, hZ]
  · rw [Array.getElem?_toList, lay_get s4, if_neg (by omega), lay_get s3, if_neg (by omega), lay_get s2, if_neg (by omega), lay_get s1, if_neg (by omega), lay_get s0, k0, if_pos (by simp)]; rfl
  · rw [Array.getElem?_toList, lay_get s4, if_neg (by omega), lay_get s3, if_neg (by omega), lay_get s2, if_neg (by omega), lay_get s1, k1, if_pos (by simp)]; rfl
  · rw [Array.getElem?_toList, lay_get s4, if_neg (by omega), lay_get s3, if_neg (by omega), lay_get s2, k2, if_pos (by simp)]; rfl
  · rw [Array.getElem?_toList, lay_get s4, if_neg (by omega), lay_get s3, k3, if_pos (by simp)]; rfl
  · rw [Array.getElem?_toList, lay_get s4, if_pos (by simp [hT]; omega), Nat.add_sub_cancel_left]; simp
theorem wpList_build_is {P : Program} {ops : Array Oper} {rest : List Oper} {o : Oper} {a : Act} {w : World} {Q : Exit → Act → World → Prop} (hg : o.guard = none) (t : TypeId) (parts : Array (Nat × Operand)) (ho : o.op = .build t parts) (cells : Array Value)
    (hf : P.built t (parts.map fun (i, x) => (i, a.eval x)).toList = some cells) (h : wpList P ops Q rest (a.put o.dst (.agg cells)) w) : wpList P ops Q (o :: rest) a w :=
  wpList_build hg t parts ho (by rw [hf]; rfl) (by rw [hf]; exact h)
theorem Fld_new' {w : World} {m : Nat} (hm : Em m) (hg : Glob w) (h0 : 0 < w.heap.size) : Fld (w.alloc (blk m 0 (.slice none 0 0) (.slice none 0 0))) w.heap.size m :=
  .inl ⟨hm, hg.kept (Below.heap_alloc _ _ _ h0), h0, heap_alloc_new w _⟩
theorem Step.since' {w w' : World} {o : Obj} (hs : Step w.heap.size (w.alloc o) w') : w.grownBy w' none :=
  ⟨hs.grown.os, hs.grown.tape, hs.grown.output, by have := hs.grown.size; simp at this; omega, fun k hk _ => (hs.grown.block k (by simp; omega) (by simp; omega)).trans (Below.heap_alloc _ _ _ hk)⟩
theorem Res.rdN {b : Nat} {w : World} {B : Nat} {v : Value} {xs : List Nat} (h : Res b w B v xs) (hne : xs ≠ []) : ∃ ao cap, v = .slice ao xs.length cap ∧ RdN w ao xs ∧ xs.length ≤ cap := by
  rcases h with ⟨_, h2⟩ | ⟨g, L, h1, h2, h3, h4, _⟩
  · exact absurd h2 hne
  · refine ⟨_, _, h1, .inr ⟨g, 0, rfl, fun i hi => ?_⟩, h4⟩
    rw [Nat.zero_add, h2.cell, take_cell h3 i hi]
theorem IsM.two {bytes t m : Nat} (h : IsM bytes t m) : 2 * t ≤ sz m := by
  have h1 := h.fits
  have h2 : 2 * t ≤ m * t := Nat.mul_le_mul_right t (by have := h.lo; omega)
  omega
set_option maxHeartbeats 1600000 in
set_option maxRecDepth 4000 in
theorem bchNew_more {w : World} (bytes t : Nat) (h1 : 1 ≤ bytes) (h2 : bytes ≤ 512) (h3 : 1 ≤ t) (h4 : t ≤ 8) (hG : Glob w) (h0 : 0 < w.heap.size) :
    Calls Tryd.prog 10 #[num bytes, num t] w fun e w' => ∃ c b m, IsM bytes t m ∧ e = .returned (.tuple #[ptr c, num 0]) ∧ Cod w' c b m bytes t ∧ w.grownBy w' none ∧ w.heap.size ≤ b ∧ w.heap.size ≤ c ∧ ∀ r, 0 < r → r < w.heap.size → Free w' b r := by
  go_enter Tryd.func10, Tryd.ntmps10
  go_wp2_with fail
  refine (leastM_ok bytes t h2 h4 w).mono ?_
  rintro e w1 ⟨m, hM, rfl, rfl⟩
  go_wp2_with fail
  refine (new_ok m hM.em w1).mono ?_
  rintro e w2 ⟨rfl, rfl⟩
  have hF := Fld_new' hM.em hG h0
  go_wp2_with fail
  refine (generator_ok hF t h3 h4 hM.two).mono ?_
  rintro e w3 ⟨v3, rfl, hR3, hF3, hs3⟩
  have hgi := genGo_is hM.em (2 * t)
  obtain ⟨ao, cap, rfl, hrd, hcap⟩ := hR3.rdN hgi.ne
  have h2g := genS_two hM.em h3
  have hlg : (genS m t).length ≤ 105 := by
    have := genS_len hM.em t
    have : m * t ≤ 13 * 8 := Nat.mul_le_mul hM.hi h4
    omega
  have hrb := restsBy_ok ao cap (genS m t) hrd hgi.bits h2g (by omega) hcap
  have HRb : Hid (Calls Tryd.prog 27 #[.slice ao (genS m t).length cap] w3 _) := hrb
  have b1 : (1 : Int) ≤ ((genS m t).length : Int) := by omega
  clear hrb hrd
  go_wp2_with fail
  refine HRb.out.mono ?_
  rintro e w4 ⟨bh, bl, T, hLow, rfl, hT, hg4⟩
  obtain ⟨C, hC, hCl, k0, k1, k2, k3, k4⟩ := code_built (v0 := ptr w1.heap.size) (v1 := num bytes) (v2 := num t) (v3 := .int .i64 (((genS m t).length : Int) - 1)) rfl rfl rfl rfl hT.1
  have HC : Hid _ := hC
  have HK4 : Hid _ := k4
  clear hC k4 h1
  have h1 : 1 ≤ bytes := by omega
  have hgA : w1.grownBy w4 none := grownBy_trans hs3.since' hg4
  have hFw : Fld (w4.alloc (.cells C.toArray 64)) w1.heap.size m := (hF3.more hg4).alloc _
  have hcod : Cod (w4.alloc (.cells C.toArray 64)) w4.heap.size w1.heap.size m bytes t := by
    have hce : ∀ i, (w4.alloc (.cells C.toArray 64)).cell? ⟨w4.heap.size, i, none⟩ = C[i]? := fun i => cell_row (heap_alloc_new w4 _)
    refine ⟨hFw, ((hF3.more hg4).free_new (Nat.le_refl _)).of_block (Below.heap_alloc _ _ _ (hF3.more hg4).lt), hM.lo, h1, h2, h3, h4, hM.fits, by rw [hce]; exact k0, by rw [hce]; exact k1, by rw [hce]; exact k2, ?_, fun q hq => ?_⟩
    · rw [hce, k3]
      unfold rS
      rw [show (((genS m t).length - 1 : Nat) : Int) = ((genS m t).length : Int) - 1 by omega]
    · obtain ⟨th, tl, e1, e2, e3⟩ := hT.2.2 q hq
      refine ⟨th, tl, ?_, ?_, ?_⟩
      · rw [show gB m t = rb bh bl from (funext fun j => (hLow.gen j).symm)]; exact e1
      · rw [hce, HK4.out _ (by omega), Nat.mul_comm]; exact e2
      · rw [hce, show 4 + q * 2 + 1 = 4 + (2 * q + 1) by omega, HK4.out _ (by omega)]; exact e3
  have hgf : w1.grownBy (w4.alloc (.cells C.toArray 64)) none := grownBy_trans hgA (World.grownBy_alloc _ _ none)
  have hsz := hgA.size
  have hfree : ∀ r, 0 < r → r < w1.heap.size → Free (w4.alloc (.cells C.toArray 64)) w1.heap.size r := fun r r1 r2 => by
    have f0 : Free (w1.alloc (blk m 0 (.slice none 0 0) (.slice none 0 0))) w1.heap.size r := by
      refine ⟨by omega, by omega, fun m' d pv lv e => ?_⟩
      rw [heap_alloc_new] at e
      simp only [blk, Option.some.injEq, Obj.cells.injEq, Array.mk.injEq, List.cons.injEq] at e
      obtain ⟨⟨_, _, _, _, rfl, rfl, _⟩, _⟩ := e
      simp [Value.ownBlock]
    have f1 := hs3.free r (by simp; omega) f0
    have f2 := f1.of_block (hg4.block w1.heap.size hF3.lt (by simp))
    exact f2.of_block (Below.heap_alloc _ _ _ (hF3.more hg4).lt)
  have HFree : Hid _ := hfree
  clear hfree
  clear k0 k1 k2 k3 HK4 hT hFw hgA hg4
  go_wp2_with (refine wpList_build_is rfl 64 _ rfl C.toArray ?hf ?_)
  case hf => exact HC.out
  go_ret2
  exact ⟨_, _, m, hM, rfl, hcod, hgf, Nat.le_refl _, hsz, HFree.out⟩
theorem bchNew_ok {w : World} (bytes t : Nat) (h1 : 1 ≤ bytes) (h2 : bytes ≤ 512) (h3 : 1 ≤ t) (h4 : t ≤ 8) (hG : Glob w) (h0 : 0 < w.heap.size) :
    Calls Tryd.prog 10 #[num bytes, num t] w fun e w' => ∃ c b m, IsM bytes t m ∧ e = .returned (.tuple #[ptr c, num 0]) ∧ Cod w' c b m bytes t ∧ w.grownBy w' none ∧ w.heap.size ≤ b ∧ w.heap.size ≤ c :=
  (bchNew_more bytes t h1 h2 h3 h4 hG h0).mono fun _ _ ⟨c, b, m, k1, k2, k3, k4, k5, k6, _⟩ => ⟨c, b, m, k1, k2, k3, k4, k5, k6⟩
set_option maxHeartbeats 800000 in
theorem bchNew_no {w : World} (bytes t : Int) (h : bytes < 1 ∨ 512 < bytes ∨ t < 1 ∨ 8 < t) :
    Calls Tryd.prog 10 #[num bytes, num t] w fun e w' => e = .returned (.tuple #[.pointer none, num 1]) ∧ w' = w := by
  by_cases a1 : bytes < 1
  · go_enter Tryd.func10, Tryd.ntmps10
    go_wp2_with fail
    go_ret2
    exact ⟨rfl, rfl⟩
  by_cases a2 : 512 < bytes
  · go_enter Tryd.func10, Tryd.ntmps10
    go_wp2_with fail
    go_ret2
    exact ⟨rfl, rfl⟩
  by_cases a3 : t < 1
  · go_enter Tryd.func10, Tryd.ntmps10
    go_wp2_with fail
    go_ret2
    exact ⟨rfl, rfl⟩
  · have a4 : 8 < t := by omega
    clear h
    go_enter Tryd.func10, Tryd.ntmps10
    go_wp2_with fail
    go_ret2
    exact ⟨rfl, rfl⟩
end Gf
end Go.Proofs.YtiojdoehlooibaaDoor
