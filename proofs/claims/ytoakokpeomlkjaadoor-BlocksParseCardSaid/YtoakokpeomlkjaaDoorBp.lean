/- Layer 7 (blocks): the region of Bytes that appends. -/
import Derived.Test.YtoakokpeomlkjaaDoorBn
import Derived.Test.YtoakokpeomlkjaaDoorXe
import Derived.Maps.AppendAt
namespace Go.Proofs.YtoakokpeomlkjaaDoor
open Go.RowKit Go.Maps Go.Shelf
namespace Bk
open Cr (valsB RdB Glob)
attribute [local go_sem] Oper.semAt_some
theorem exec_append {P : Program} {o : Oper} {a : Act} {w w' : World} {s x : Operand} {t : TypeId} {sv xv v' : Value} (ho : o.op = .call { callee := .builtin .append, args := #[s, x], argTypes := #[t, t] }) (hs : a.eval s = sv) (hx : a.eval x = xv) (hr : (Builtin.append_ #[t, t] o.type #[sv, xv]).run P w = .ok v' w') :
    (execOp a.eval o).run P w = .ok (.value v') w' := by
  unfold execOp
  simp only [ho, resolve, invoke, builtin, Sem.run_bind, Sem.run_pure, Result.andThen_ok, List.map_toArray, List.map_cons, List.map_nil, hs, hx, hr]
theorem info5 : (Tryd.prog.info? 5).map (fun i => (i.zero, i.size, i.bytes)) = some (some (.int .u8 0), 1, 1) := by kernel_rfl
/-- The row under way: a box that holds bytes of one's own. -/
def RowB (base : Nat) (B : Nat) (S : List Nat) (W : World) : Prop := ∃ v, Boxed W B 43 v ∧ W.ownsRow base 5 1 v S.length (valsB S)
def byOps : List Oper :=
  [{ dst := some 36, op := Op.load 43 (Operand.tmp 4), type := 43, pos := "bytes.go:23", after := #[], guard := none }, { dst := some 37, op := Op.move (Operand.tmp 8), type := 56, pos := "bytes.go:23", after := #[], guard := none }, { dst := some 38, op := Op.nilCheck (Operand.tmp 37), type := 0, pos := "bytes.go:23", after := #[{ on := 1, ground := Ground.data }], guard := none }, { dst := some 39, op := Op.fieldAddr 62 (Operand.tmp 38) 0, type := 0, pos := "bytes.go:23", after := #[{ on := 2, ground := Ground.data }], guard := none }, { dst := some 40, op := Op.load 3 (Operand.tmp 39), type := 3, pos := "bytes.go:23", after := #[{ on := 3, ground := Ground.data }], guard := none }, { dst := some 41, op := Op.convert 3 5 (Operand.tmp 40), type := 5, pos := "bytes.go:23", after := #[{ on := 4, ground := Ground.data }], guard := none }, { dst := some 42, op := Op.move (Operand.tmp 8), type := 56, pos := "bytes.go:23", after := #[], guard := none }, { dst := some 43, op := Op.nilCheck (Operand.tmp 42), type := 0, pos := "bytes.go:23", after := #[{ on := 6, ground := Ground.data }], guard := none }, { dst := some 44, op := Op.fieldAddr 62 (Operand.tmp 43) 1, type := 0, pos := "bytes.go:23", after := #[{ on := 7, ground := Ground.data }], guard := none }, { dst := some 45, op := Op.load 60 (Operand.tmp 44), type := 60, pos := "bytes.go:23", after := #[{ on := 8, ground := Ground.data }], guard := none }, { dst := some 46, op := Op.convert 60 5 (Operand.tmp 45), type := 5, pos := "bytes.go:23", after := #[{ on := 9, ground := Ground.data }], guard := none }, { dst := some 47, op := Op.move (Operand.tmp 8), type := 56, pos := "bytes.go:23", after := #[], guard := none }, { dst := some 48, op := Op.nilCheck (Operand.tmp 47), type := 0, pos := "bytes.go:23", after := #[{ on := 11, ground := Ground.data }], guard := none }, { dst := some 49, op := Op.fieldAddr 62 (Operand.tmp 48) 1, type := 0, pos := "bytes.go:23", after := #[{ on := 12, ground := Ground.data }], guard := none }, { dst := some 50, op := Op.load 60 (Operand.tmp 49), type := 60, pos := "bytes.go:23", after := #[{ on := 13, ground := Ground.data }], guard := none }, { dst := some 51, op := Op.binOp BinOp.shr 60 (Operand.tmp 50) (Operand.const (Value.int IntKind.u64 8)) 67, type := 60, pos := "bytes.go:23", after := #[{ on := 14, ground := Ground.data }], guard := none }, { dst := some 52, op := Op.convert 60 5 (Operand.tmp 51), type := 5, pos := "bytes.go:23", after := #[{ on := 15, ground := Ground.data }], guard := none }, { dst := some 53, op := Op.move (Operand.tmp 8), type := 56, pos := "bytes.go:23", after := #[], guard := none }, { dst := some 54, op := Op.nilCheck (Operand.tmp 53), type := 0, pos := "bytes.go:23", after := #[{ on := 17, ground := Ground.data }], guard := none }, { dst := some 55, op := Op.fieldAddr 62 (Operand.tmp 54) 1, type := 0, pos := "bytes.go:23", after := #[{ on := 18, ground := Ground.data }], guard := none }, { dst := some 56, op := Op.load 60 (Operand.tmp 55), type := 60, pos := "bytes.go:23", after := #[{ on := 19, ground := Ground.data }], guard := none }, { dst := some 57, op := Op.binOp BinOp.shr 60 (Operand.tmp 56) (Operand.const (Value.int IntKind.u64 16)) 67, type := 60, pos := "bytes.go:23", after := #[{ on := 20, ground := Ground.data }], guard := none }, { dst := some 58, op := Op.convert 60 5 (Operand.tmp 57), type := 5, pos := "bytes.go:23", after := #[{ on := 21, ground := Ground.data }], guard := none }, { dst := some 59, op := Op.move (Operand.tmp 8), type := 56, pos := "bytes.go:23", after := #[], guard := none }, { dst := some 60, op := Op.nilCheck (Operand.tmp 59), type := 0, pos := "bytes.go:23", after := #[{ on := 23, ground := Ground.data }], guard := none }, { dst := some 61, op := Op.fieldAddr 62 (Operand.tmp 60) 1, type := 0, pos := "bytes.go:23", after := #[{ on := 24, ground := Ground.data }], guard := none }, { dst := some 62, op := Op.load 60 (Operand.tmp 61), type := 60, pos := "bytes.go:23", after := #[{ on := 25, ground := Ground.data }], guard := none }, { dst := some 63, op := Op.binOp BinOp.shr 60 (Operand.tmp 62) (Operand.const (Value.int IntKind.u64 24)) 67, type := 60, pos := "bytes.go:23", after := #[{ on := 26, ground := Ground.data }], guard := none }, { dst := some 64, op := Op.convert 60 5 (Operand.tmp 63), type := 5, pos := "bytes.go:23", after := #[{ on := 27, ground := Ground.data }], guard := none }, { dst := some 65, op := Op.buildSlice 43 5 #[(0, Operand.tmp 41), (1, Operand.tmp 46), (2, Operand.tmp 52), (3, Operand.tmp 58), (4, Operand.tmp 64)], type := 43, pos := "bytes.go:23", after := #[{ on := 5, ground := Ground.data }, { on := 10, ground := Ground.data }, { on := 16, ground := Ground.data }, { on := 22, ground := Ground.data }, { on := 28, ground := Ground.data }], guard := none }, { dst := some 66, op := Op.call { callee := Callee.builtin Builtin.append, args := #[Operand.tmp 36, Operand.tmp 65], argTypes := #[43, 43] }, type := 43, pos := "bytes.go:23", after := #[{ on := 0, ground := Ground.data }, { on := 29, ground := Ground.data }], guard := none }, { dst := none, op := Op.store 43 (Operand.tmp 4) (Operand.tmp 66), type := 0, pos := "bytes.go:23", after := #[{ on := 30, ground := Ground.data }, { on := 30, ground := Ground.chain }, { on := 0, ground := Ground.phase }, { on := 1, ground := Ground.phase }, { on := 2, ground := Ground.phase }, { on := 3, ground := Ground.phase }, { on := 4, ground := Ground.phase }, { on := 5, ground := Ground.phase }, { on := 6, ground := Ground.phase }, { on := 7, ground := Ground.phase }, { on := 8, ground := Ground.phase }, { on := 9, ground := Ground.phase }, { on := 10, ground := Ground.phase }, { on := 11, ground := Ground.phase }, { on := 12, ground := Ground.phase }, { on := 13, ground := Ground.phase }, { on := 14, ground := Ground.phase }, { on := 15, ground := Ground.phase }, { on := 16, ground := Ground.phase }, { on := 17, ground := Ground.phase }, { on := 18, ground := Ground.phase }, { on := 19, ground := Ground.phase }, { on := 20, ground := Ground.phase }, { on := 21, ground := Ground.phase }, { on := 22, ground := Ground.phase }, { on := 23, ground := Ground.phase }, { on := 24, ground := Ground.phase }, { on := 25, ground := Ground.phase }, { on := 26, ground := Ground.phase }, { on := 27, ground := Ground.phase }, { on := 28, ground := Ground.phase }, { on := 29, ground := Ground.phase }, { on := 30, ground := Ground.phase }], guard := none }]
set_option maxRecDepth 100000 in
set_option maxHeartbeats 8000000 in
theorem bytes_region {Q : Exit → Act → World → Prop} {k m : Nat} (hlo : ¬ LetsOut Q) (hp : ∀ c (a a' : Act) w, Q (.panic c) a w → Q (.panic c) a' w) {W : World} {B g o s e b0 b1 b2 b3 : Nat} (v0 v1 v2 v3 v5 v6 v7 v9 v10 v11 v12 v13 v14 v15 v16 v17 v18 v19 v20 v21 v22 v23 v24 v25 v26 v27 v28 v29 v30 v31 v32 v33 v34 v35 v36 v37 v38 v39 v40 v41 v42 v43 v44 v45 v46 v47 v48 v49 v50 v51 v52 v53 v54 v55 v56 v57 v58 v59 v60 v61 v62 v63 v64 v65 v66 v67 v68 v69 : Value)
    (c0 : W.cell? ⟨g, o, none⟩ = some (num (s : Int))) (c1 : W.cell? ⟨g, o + 1, none⟩ = some (q32 e)) 
    (f0 : IntKind.u8.wrap (e : Int) = (b0 : Int)) (f1 : IntKind.u8.wrap ((e : Int) / 256) = (b1 : Int)) (f2 : IntKind.u8.wrap ((e : Int) / 65536) = (b2 : Int)) (f3 : IntKind.u8.wrap ((e : Int) / 16777216) = (b3 : Int)) (fs : IntKind.u8.wrap (s : Int) = (s : Int))
    {base : Nat} {v : Value} {S : List Nat} (hb : Boxed W B 43 v) (hown : W.ownsRow base 5 1 v S.length (valsB S)) (hbase : base ≤ W.heap.size) (hB : base ≤ B) (hg : g < base) (hS : S.length ≤ 100000)
    (HQ' : ∀ a' W4, RowB base B (S ++ [s, b0, b1, b2, b3]) W4 → KeepsOthers W W4 → Below base W W4 → (∀ x t u, Boxed W x t u → t ≠ 5 → x ≠ B → W4.heap[x]? = W.heap[x]?) → Q .normal a' W4) :
    (Code.region 10 byOps.toArray true).wpIn (Fence.wide.inRound k) m Tryd.prog Q { tmps := #[v0, v1, v2, v3, .pointer (some ⟨B, 0, none⟩), v5, v6, v7, ptr g o, v9, v10, v11, v12, v13, v14, v15, v16, v17, v18, v19, v20, v21, v22, v23, v24, v25, v26, v27, v28, v29, v30, v31, v32, v33, v34, v35, v36, v37, v38, v39, v40, v41, v42, v43, v44, v45, v46, v47, v48, v49, v50, v51, v52, v53, v54, v55, v56, v57, v58, v59, v60, v61, v62, v63, v64, v65, v66, v67, v68, v69], defers := [] } W := by
  have HQ := hide HQ'
  have hS0 : W.drew.cell? ⟨g, o, none⟩ = some (num (s : Int)) ∧ W.drew.cell? ⟨g, o + 1, none⟩ = some (q32 e) := ⟨c0, c1⟩
  have hbc : W.cell? ⟨B, 0, none⟩ = some v := hb.cell
  obtain ⟨W1, hW1⟩ : ∃ W1, W1 = W.drew.alloc (.cells #[q8 s, q8 b0, q8 b1, q8 b2, q8 b3] 5) := ⟨_, rfl⟩
  have hsz1 : W1.heap.size = W.heap.size + 1 := by rw [hW1]; simp
  have hgl : g < W.heap.size := by omega
  have hg1 : W.drew.grownBy W1 none := by rw [hW1]; exact World.grownBy_alloc _ _ none
  have e1 := hg1.block g hgl (by simp)
  have hS1 : W1.cell? ⟨g, o, none⟩ = some (num (s : Int)) ∧ W1.cell? ⟨g, o + 1, none⟩ = some (q32 e) := ⟨(cell_of_block e1).trans c0, (cell_of_block e1).trans c1⟩
  have hbd : Boxed W.drew B 43 v := hb
  have hb1 : Boxed W1 B 43 v := by rw [hW1]; exact hbd.alloc _
  have hbc1 := hb1.cell
  have hownd : W.drew.ownsRow base 5 1 v S.length (valsB S) := hown
  have hown1 : W1.ownsRow base 5 1 v S.length (valsB S) := by rw [hW1]; exact hownd.alloc _
  have hnew : W1.heap[W.heap.size]? = some (.cells #[q8 s, q8 b0, q8 b1, q8 b2, q8 b3] 5) := by rw [hW1]; exact heap_alloc_new W.drew _
  obtain ⟨i0, hi, hz0, hz1, hz2⟩ := info_parts info5
  obtain ⟨v', W2, hrun, hown2, hgrow, _, _⟩ := run_append_own_at (P := Tryd.prog) W1 base 43 43 5 i0 (.int .u8 0) 1 1 Tryd.underlying43 hi hz0 hz1 hz2 rfl (by decide) v S.length (valsB S) hown1 ⟨W.heap.size, 0, none⟩ 5 5 (valsB [s, b0, b1, b2, b3]) (by simp [Cr.valsB]) (fun j u hu => by
    rw [addr_add', Nat.zero_add]
    refine cell_at hnew ?_
    simpa [Cr.valsB] using hu) (Cr.valsB_one _) (by unfold maxLen; omega) (by omega) (by omega)
  rw [hW1] at hgrow
  obtain ⟨hv1, hv2, hr2, hk2, hb2⟩ := hbd.appended (tmp := .cells #[q8 s, q8 b0, q8 b1, q8 b2, q8 b3] 5) (by decide) hownd hbase hB hown2 hgrow
  have hne := hbd.not_row (by decide) hownd
  have hgne : some g ≠ v.ownBlock := fun e => by
    rcases hown.2 with ⟨rfl, _⟩ | ⟨g', cap, cur, rfl, hbg, _⟩
    · simp [Value.ownBlock] at e
    · have : g = g' := by simpa [Value.ownBlock] using e
      omega
  have hgl1 : g < (W.drew.alloc (.cells #[q8 s, q8 b0, q8 b1, q8 b2, q8 b3] 5)).heap.size := by simp; omega
  have e2 := hgrow.block g hgl1 hgne
  rw [← hW1] at e2
  have hS2 : W2.cell? ⟨g, o, none⟩ = some (num (s : Int)) ∧ W2.cell? ⟨g, o + 1, none⟩ = some (q32 e) := ⟨(cell_of_block e2).trans hS1.1, (cell_of_block e2).trans hS1.2⟩
  obtain ⟨W4, hW4⟩ : ∃ W4, W4 = W2.setCell ⟨B, 0, none⟩ v' := ⟨_, rfl⟩
  have hgB : g ≠ B := by omega
  have hS4 : W4.cell? ⟨g, o, none⟩ = some (num (s : Int)) ∧ W4.cell? ⟨g, o + 1, none⟩ = some (q32 e) := by rw [hW4]; exact ⟨cell_else hS2.1 hgB, cell_else hS2.2 hgB⟩
  have hc2 := hv1.cell
  have hf2 := hv1.frozen
  have hkb : ∀ x t u, Boxed W x t u → t ≠ 5 → x ≠ B → W4.heap[x]? = W.heap[x]? := fun x t u hx ht hxB => by
    have hxd : Boxed W.drew x t u := hx
    have h3 := hxd.alloc (.cells #[q8 s, q8 b0, q8 b1, q8 b2, q8 b3] 5)
    rw [hW4, setCell_else hxB, hgrow.block x h3.lt (hxd.not_row ht hownd)]
    exact Below.heap_alloc _ _ _ hxd.lt
  have HF : Hid (RowB base B (S ++ [s, b0, b1, b2, b3]) W4 ∧ KeepsOthers W W4 ∧ Below base W W4 ∧ ∀ x t u, Boxed W x t u → t ≠ 5 → x ≠ B → W4.heap[x]? = W.heap[x]?) := by
    rw [hW4] at hkb ⊢
    refine ⟨⟨v', hv2, ?_⟩, ⟨hk2.size, hk2.same⟩, ⟨hb2.os, hb2.tape, hb2.output, hb2.size, hb2.block⟩, hkb⟩
    have : valsB S ++ valsB [s, b0, b1, b2, b3] = valsB (S ++ [s, b0, b1, b2, b3]) := by simp [Cr.valsB]
    rw [this] at hr2
    rw [List.length_append]; exact hr2
  have HW1 := hide hW1
  have HW4 := hide hW4
  obtain ⟨ow, lw, cw, hv'⟩ : ∃ a l c, v' = .slice a l c := by
    rcases hown2.2 with ⟨e, _⟩ | ⟨g', cap, _, e, _⟩
    · exact ⟨_, _, _, e⟩
    · exact ⟨_, _, _, e⟩
  subst hv'
  clear hW1 hW4 HQ' hkb hb hown hb1 hown1 hnew hgrow hv1 hv2 hr2 hk2 hb2 hne e1 e2 hown2 hbd hownd hg1 hi hz0 hz1 hz2
  have h0 : byOps.toArray[0]? = some { dst := some 36, op := Op.load 43 (Operand.tmp 4), type := 43, pos := "bytes.go:23", after := #[], guard := none } := rfl
  have h1 : byOps.toArray[1]? = some { dst := some 37, op := Op.move (Operand.tmp 8), type := 56, pos := "bytes.go:23", after := #[], guard := none } := rfl
  have h2 : byOps.toArray[2]? = some { dst := some 38, op := Op.nilCheck (Operand.tmp 37), type := 0, pos := "bytes.go:23", after := #[{ on := 1, ground := Ground.data }], guard := none } := rfl
  have h3 : byOps.toArray[3]? = some { dst := some 39, op := Op.fieldAddr 62 (Operand.tmp 38) 0, type := 0, pos := "bytes.go:23", after := #[{ on := 2, ground := Ground.data }], guard := none } := rfl
  have h4 : byOps.toArray[4]? = some { dst := some 40, op := Op.load 3 (Operand.tmp 39), type := 3, pos := "bytes.go:23", after := #[{ on := 3, ground := Ground.data }], guard := none } := rfl
  have h5 : byOps.toArray[5]? = some { dst := some 41, op := Op.convert 3 5 (Operand.tmp 40), type := 5, pos := "bytes.go:23", after := #[{ on := 4, ground := Ground.data }], guard := none } := rfl
  have h6 : byOps.toArray[6]? = some { dst := some 42, op := Op.move (Operand.tmp 8), type := 56, pos := "bytes.go:23", after := #[], guard := none } := rfl
  have h7 : byOps.toArray[7]? = some { dst := some 43, op := Op.nilCheck (Operand.tmp 42), type := 0, pos := "bytes.go:23", after := #[{ on := 6, ground := Ground.data }], guard := none } := rfl
  have h8 : byOps.toArray[8]? = some { dst := some 44, op := Op.fieldAddr 62 (Operand.tmp 43) 1, type := 0, pos := "bytes.go:23", after := #[{ on := 7, ground := Ground.data }], guard := none } := rfl
  have h9 : byOps.toArray[9]? = some { dst := some 45, op := Op.load 60 (Operand.tmp 44), type := 60, pos := "bytes.go:23", after := #[{ on := 8, ground := Ground.data }], guard := none } := rfl
  have h10 : byOps.toArray[10]? = some { dst := some 46, op := Op.convert 60 5 (Operand.tmp 45), type := 5, pos := "bytes.go:23", after := #[{ on := 9, ground := Ground.data }], guard := none } := rfl
  have h11 : byOps.toArray[11]? = some { dst := some 47, op := Op.move (Operand.tmp 8), type := 56, pos := "bytes.go:23", after := #[], guard := none } := rfl
  have h12 : byOps.toArray[12]? = some { dst := some 48, op := Op.nilCheck (Operand.tmp 47), type := 0, pos := "bytes.go:23", after := #[{ on := 11, ground := Ground.data }], guard := none } := rfl
  have h13 : byOps.toArray[13]? = some { dst := some 49, op := Op.fieldAddr 62 (Operand.tmp 48) 1, type := 0, pos := "bytes.go:23", after := #[{ on := 12, ground := Ground.data }], guard := none } := rfl
  have h14 : byOps.toArray[14]? = some { dst := some 50, op := Op.load 60 (Operand.tmp 49), type := 60, pos := "bytes.go:23", after := #[{ on := 13, ground := Ground.data }], guard := none } := rfl
  have h15 : byOps.toArray[15]? = some { dst := some 51, op := Op.binOp BinOp.shr 60 (Operand.tmp 50) (Operand.const (Value.int IntKind.u64 8)) 67, type := 60, pos := "bytes.go:23", after := #[{ on := 14, ground := Ground.data }], guard := none } := rfl
  have h16 : byOps.toArray[16]? = some { dst := some 52, op := Op.convert 60 5 (Operand.tmp 51), type := 5, pos := "bytes.go:23", after := #[{ on := 15, ground := Ground.data }], guard := none } := rfl
  have h17 : byOps.toArray[17]? = some { dst := some 53, op := Op.move (Operand.tmp 8), type := 56, pos := "bytes.go:23", after := #[], guard := none } := rfl
  have h18 : byOps.toArray[18]? = some { dst := some 54, op := Op.nilCheck (Operand.tmp 53), type := 0, pos := "bytes.go:23", after := #[{ on := 17, ground := Ground.data }], guard := none } := rfl
  have h19 : byOps.toArray[19]? = some { dst := some 55, op := Op.fieldAddr 62 (Operand.tmp 54) 1, type := 0, pos := "bytes.go:23", after := #[{ on := 18, ground := Ground.data }], guard := none } := rfl
  have h20 : byOps.toArray[20]? = some { dst := some 56, op := Op.load 60 (Operand.tmp 55), type := 60, pos := "bytes.go:23", after := #[{ on := 19, ground := Ground.data }], guard := none } := rfl
  have h21 : byOps.toArray[21]? = some { dst := some 57, op := Op.binOp BinOp.shr 60 (Operand.tmp 56) (Operand.const (Value.int IntKind.u64 16)) 67, type := 60, pos := "bytes.go:23", after := #[{ on := 20, ground := Ground.data }], guard := none } := rfl
  have h22 : byOps.toArray[22]? = some { dst := some 58, op := Op.convert 60 5 (Operand.tmp 57), type := 5, pos := "bytes.go:23", after := #[{ on := 21, ground := Ground.data }], guard := none } := rfl
  have h23 : byOps.toArray[23]? = some { dst := some 59, op := Op.move (Operand.tmp 8), type := 56, pos := "bytes.go:23", after := #[], guard := none } := rfl
  have h24 : byOps.toArray[24]? = some { dst := some 60, op := Op.nilCheck (Operand.tmp 59), type := 0, pos := "bytes.go:23", after := #[{ on := 23, ground := Ground.data }], guard := none } := rfl
  have h25 : byOps.toArray[25]? = some { dst := some 61, op := Op.fieldAddr 62 (Operand.tmp 60) 1, type := 0, pos := "bytes.go:23", after := #[{ on := 24, ground := Ground.data }], guard := none } := rfl
  have h26 : byOps.toArray[26]? = some { dst := some 62, op := Op.load 60 (Operand.tmp 61), type := 60, pos := "bytes.go:23", after := #[{ on := 25, ground := Ground.data }], guard := none } := rfl
  have h27 : byOps.toArray[27]? = some { dst := some 63, op := Op.binOp BinOp.shr 60 (Operand.tmp 62) (Operand.const (Value.int IntKind.u64 24)) 67, type := 60, pos := "bytes.go:23", after := #[{ on := 26, ground := Ground.data }], guard := none } := rfl
  have h28 : byOps.toArray[28]? = some { dst := some 64, op := Op.convert 60 5 (Operand.tmp 63), type := 5, pos := "bytes.go:23", after := #[{ on := 27, ground := Ground.data }], guard := none } := rfl
  have h29 : byOps.toArray[29]? = some { dst := some 65, op := Op.buildSlice 43 5 #[(0, Operand.tmp 41), (1, Operand.tmp 46), (2, Operand.tmp 52), (3, Operand.tmp 58), (4, Operand.tmp 64)], type := 43, pos := "bytes.go:23", after := #[{ on := 5, ground := Ground.data }, { on := 10, ground := Ground.data }, { on := 16, ground := Ground.data }, { on := 22, ground := Ground.data }, { on := 28, ground := Ground.data }], guard := none } := rfl
  have h30 : byOps.toArray[30]? = some { dst := some 66, op := Op.call { callee := Callee.builtin Builtin.append, args := #[Operand.tmp 36, Operand.tmp 65], argTypes := #[43, 43] }, type := 43, pos := "bytes.go:23", after := #[{ on := 0, ground := Ground.data }, { on := 29, ground := Ground.data }], guard := none } := rfl
  have h31 : byOps.toArray[31]? = some { dst := none, op := Op.store 43 (Operand.tmp 4) (Operand.tmp 66), type := 0, pos := "bytes.go:23", after := #[{ on := 30, ground := Ground.data }, { on := 30, ground := Ground.chain }, { on := 0, ground := Ground.phase }, { on := 1, ground := Ground.phase }, { on := 2, ground := Ground.phase }, { on := 3, ground := Ground.phase }, { on := 4, ground := Ground.phase }, { on := 5, ground := Ground.phase }, { on := 6, ground := Ground.phase }, { on := 7, ground := Ground.phase }, { on := 8, ground := Ground.phase }, { on := 9, ground := Ground.phase }, { on := 10, ground := Ground.phase }, { on := 11, ground := Ground.phase }, { on := 12, ground := Ground.phase }, { on := 13, ground := Ground.phase }, { on := 14, ground := Ground.phase }, { on := 15, ground := Ground.phase }, { on := 16, ground := Ground.phase }, { on := 17, ground := Ground.phase }, { on := 18, ground := Ground.phase }, { on := 19, ground := Ground.phase }, { on := 20, ground := Ground.phase }, { on := 21, ground := Ground.phase }, { on := 22, ground := Ground.phase }, { on := 23, ground := Ground.phase }, { on := 24, ground := Ground.phase }, { on := 25, ground := Ground.phase }, { on := 26, ground := Ground.phase }, { on := 27, ground := Ground.phase }, { on := 28, ground := Ground.phase }, { on := 29, ground := Ground.phase }, { on := 30, ground := Ground.phase }], guard := none } := rfl
  refine wpIn_region_held_round (fun w' => w'.cell? ⟨g, o, none⟩ = some (num (s : Int)) ∧ w'.cell? ⟨g, o + 1, none⟩ = some (q32 e)) hlo (by kernel_rfl) (by kernel_rfl) ?_
  refine wpAnyH_take (i := 1) (v := _) h1 (by kernel_rfl) (by kernel_rfl) (by kernel_rfl) (fun _ _ _ h => hp _ _ _ _ h) (Or.inl ⟨by rfl, fun w1 hw1 => by (obtain ⟨hw1, hw2⟩ := hw1; go_simp; try with_reducible rfl)⟩) hS0 ?_
  simp only [Act.put]
  refine wpAnyH_take (i := 2) (v := _) h2 (by kernel_rfl) (by kernel_rfl) (by kernel_rfl) (fun _ _ _ h => hp _ _ _ _ h) (Or.inl ⟨by rfl, fun w1 hw1 => by (obtain ⟨hw1, hw2⟩ := hw1; go_simp; try with_reducible rfl)⟩) hS0 ?_
  simp only [Act.put]
  refine wpAnyH_take (i := 3) (v := _) h3 (by kernel_rfl) (by kernel_rfl) (by kernel_rfl) (fun _ _ _ h => hp _ _ _ _ h) (Or.inl ⟨by rfl, fun w1 hw1 => by (obtain ⟨hw1, hw2⟩ := hw1; go_simp; try with_reducible rfl)⟩) hS0 ?_
  simp only [Act.put]
  refine wpAnyH_take (i := 4) (v := _) h4 (by kernel_rfl) (by kernel_rfl) (by kernel_rfl) (fun _ _ _ h => hp _ _ _ _ h) (Or.inl ⟨by rfl, fun w1 hw1 => by (obtain ⟨hw1, hw2⟩ := hw1; go_simp; try with_reducible rfl)⟩) hS0 ?_
  simp only [Act.put]
  refine wpAnyH_take (i := 5) (v := _) h5 (by kernel_rfl) (by kernel_rfl) (by kernel_rfl) (fun _ _ _ h => hp _ _ _ _ h) (Or.inl ⟨by rfl, fun w1 hw1 => by (obtain ⟨hw1, hw2⟩ := hw1; go_simp; try with_reducible rfl)⟩) hS0 ?_
  simp only [Act.put]
  refine wpAnyH_take (i := 6) (v := _) h6 (by kernel_rfl) (by kernel_rfl) (by kernel_rfl) (fun _ _ _ h => hp _ _ _ _ h) (Or.inl ⟨by rfl, fun w1 hw1 => by (obtain ⟨hw1, hw2⟩ := hw1; go_simp; try with_reducible rfl)⟩) hS0 ?_
  simp only [Act.put]
  refine wpAnyH_take (i := 7) (v := _) h7 (by kernel_rfl) (by kernel_rfl) (by kernel_rfl) (fun _ _ _ h => hp _ _ _ _ h) (Or.inl ⟨by rfl, fun w1 hw1 => by (obtain ⟨hw1, hw2⟩ := hw1; go_simp; try with_reducible rfl)⟩) hS0 ?_
  simp only [Act.put]
  refine wpAnyH_take (i := 8) (v := _) h8 (by kernel_rfl) (by kernel_rfl) (by kernel_rfl) (fun _ _ _ h => hp _ _ _ _ h) (Or.inl ⟨by rfl, fun w1 hw1 => by (obtain ⟨hw1, hw2⟩ := hw1; go_simp; try with_reducible rfl)⟩) hS0 ?_
  simp only [Act.put]
  refine wpAnyH_take (i := 9) (v := _) h9 (by kernel_rfl) (by kernel_rfl) (by kernel_rfl) (fun _ _ _ h => hp _ _ _ _ h) (Or.inl ⟨by rfl, fun w1 hw1 => by (obtain ⟨hw1, hw2⟩ := hw1; go_simp; try with_reducible rfl)⟩) hS0 ?_
  simp only [Act.put]
  refine wpAnyH_take (i := 10) (v := _) h10 (by kernel_rfl) (by kernel_rfl) (by kernel_rfl) (fun _ _ _ h => hp _ _ _ _ h) (Or.inl ⟨by rfl, fun w1 hw1 => by (obtain ⟨hw1, hw2⟩ := hw1; go_simp; try with_reducible rfl)⟩) hS0 ?_
  simp only [Act.put]
  refine wpAnyH_take (i := 11) (v := _) h11 (by kernel_rfl) (by kernel_rfl) (by kernel_rfl) (fun _ _ _ h => hp _ _ _ _ h) (Or.inl ⟨by rfl, fun w1 hw1 => by (obtain ⟨hw1, hw2⟩ := hw1; go_simp; try with_reducible rfl)⟩) hS0 ?_
  simp only [Act.put]
  refine wpAnyH_take (i := 12) (v := _) h12 (by kernel_rfl) (by kernel_rfl) (by kernel_rfl) (fun _ _ _ h => hp _ _ _ _ h) (Or.inl ⟨by rfl, fun w1 hw1 => by (obtain ⟨hw1, hw2⟩ := hw1; go_simp; try with_reducible rfl)⟩) hS0 ?_
  simp only [Act.put]
  refine wpAnyH_take (i := 13) (v := _) h13 (by kernel_rfl) (by kernel_rfl) (by kernel_rfl) (fun _ _ _ h => hp _ _ _ _ h) (Or.inl ⟨by rfl, fun w1 hw1 => by (obtain ⟨hw1, hw2⟩ := hw1; go_simp; try with_reducible rfl)⟩) hS0 ?_
  simp only [Act.put]
  refine wpAnyH_take (i := 14) (v := _) h14 (by kernel_rfl) (by kernel_rfl) (by kernel_rfl) (fun _ _ _ h => hp _ _ _ _ h) (Or.inl ⟨by rfl, fun w1 hw1 => by (obtain ⟨hw1, hw2⟩ := hw1; go_simp; try with_reducible rfl)⟩) hS0 ?_
  simp only [Act.put]
  refine wpAnyH_take (i := 15) (v := _) h15 (by kernel_rfl) (by kernel_rfl) (by kernel_rfl) (fun _ _ _ h => hp _ _ _ _ h) (Or.inl ⟨by rfl, fun w1 hw1 => by (obtain ⟨hw1, hw2⟩ := hw1; go_simp; try with_reducible rfl)⟩) hS0 ?_
  simp only [Act.put]
  refine wpAnyH_take (i := 16) (v := _) h16 (by kernel_rfl) (by kernel_rfl) (by kernel_rfl) (fun _ _ _ h => hp _ _ _ _ h) (Or.inl ⟨by rfl, fun w1 hw1 => by (obtain ⟨hw1, hw2⟩ := hw1; go_simp; try with_reducible rfl)⟩) hS0 ?_
  simp only [Act.put]
  refine wpAnyH_take (i := 17) (v := _) h17 (by kernel_rfl) (by kernel_rfl) (by kernel_rfl) (fun _ _ _ h => hp _ _ _ _ h) (Or.inl ⟨by rfl, fun w1 hw1 => by (obtain ⟨hw1, hw2⟩ := hw1; go_simp; try with_reducible rfl)⟩) hS0 ?_
  simp only [Act.put]
  refine wpAnyH_take (i := 18) (v := _) h18 (by kernel_rfl) (by kernel_rfl) (by kernel_rfl) (fun _ _ _ h => hp _ _ _ _ h) (Or.inl ⟨by rfl, fun w1 hw1 => by (obtain ⟨hw1, hw2⟩ := hw1; go_simp; try with_reducible rfl)⟩) hS0 ?_
  simp only [Act.put]
  refine wpAnyH_take (i := 19) (v := _) h19 (by kernel_rfl) (by kernel_rfl) (by kernel_rfl) (fun _ _ _ h => hp _ _ _ _ h) (Or.inl ⟨by rfl, fun w1 hw1 => by (obtain ⟨hw1, hw2⟩ := hw1; go_simp; try with_reducible rfl)⟩) hS0 ?_
  simp only [Act.put]
  refine wpAnyH_take (i := 20) (v := _) h20 (by kernel_rfl) (by kernel_rfl) (by kernel_rfl) (fun _ _ _ h => hp _ _ _ _ h) (Or.inl ⟨by rfl, fun w1 hw1 => by (obtain ⟨hw1, hw2⟩ := hw1; go_simp; try with_reducible rfl)⟩) hS0 ?_
  simp only [Act.put]
  refine wpAnyH_take (i := 21) (v := _) h21 (by kernel_rfl) (by kernel_rfl) (by kernel_rfl) (fun _ _ _ h => hp _ _ _ _ h) (Or.inl ⟨by rfl, fun w1 hw1 => by (obtain ⟨hw1, hw2⟩ := hw1; go_simp; try with_reducible rfl)⟩) hS0 ?_
  simp only [Act.put]
  refine wpAnyH_take (i := 22) (v := _) h22 (by kernel_rfl) (by kernel_rfl) (by kernel_rfl) (fun _ _ _ h => hp _ _ _ _ h) (Or.inl ⟨by rfl, fun w1 hw1 => by (obtain ⟨hw1, hw2⟩ := hw1; go_simp; try with_reducible rfl)⟩) hS0 ?_
  simp only [Act.put]
  refine wpAnyH_take (i := 23) (v := _) h23 (by kernel_rfl) (by kernel_rfl) (by kernel_rfl) (fun _ _ _ h => hp _ _ _ _ h) (Or.inl ⟨by rfl, fun w1 hw1 => by (obtain ⟨hw1, hw2⟩ := hw1; go_simp; try with_reducible rfl)⟩) hS0 ?_
  simp only [Act.put]
  refine wpAnyH_take (i := 24) (v := _) h24 (by kernel_rfl) (by kernel_rfl) (by kernel_rfl) (fun _ _ _ h => hp _ _ _ _ h) (Or.inl ⟨by rfl, fun w1 hw1 => by (obtain ⟨hw1, hw2⟩ := hw1; go_simp; try with_reducible rfl)⟩) hS0 ?_
  simp only [Act.put]
  refine wpAnyH_take (i := 25) (v := _) h25 (by kernel_rfl) (by kernel_rfl) (by kernel_rfl) (fun _ _ _ h => hp _ _ _ _ h) (Or.inl ⟨by rfl, fun w1 hw1 => by (obtain ⟨hw1, hw2⟩ := hw1; go_simp; try with_reducible rfl)⟩) hS0 ?_
  simp only [Act.put]
  refine wpAnyH_take (i := 26) (v := _) h26 (by kernel_rfl) (by kernel_rfl) (by kernel_rfl) (fun _ _ _ h => hp _ _ _ _ h) (Or.inl ⟨by rfl, fun w1 hw1 => by (obtain ⟨hw1, hw2⟩ := hw1; go_simp; try with_reducible rfl)⟩) hS0 ?_
  simp only [Act.put]
  refine wpAnyH_take (i := 27) (v := _) h27 (by kernel_rfl) (by kernel_rfl) (by kernel_rfl) (fun _ _ _ h => hp _ _ _ _ h) (Or.inl ⟨by rfl, fun w1 hw1 => by (obtain ⟨hw1, hw2⟩ := hw1; go_simp; try with_reducible rfl)⟩) hS0 ?_
  simp only [Act.put]
  refine wpAnyH_take (i := 28) (v := _) h28 (by kernel_rfl) (by kernel_rfl) (by kernel_rfl) (fun _ _ _ h => hp _ _ _ _ h) (Or.inl ⟨by rfl, fun w1 hw1 => by (obtain ⟨hw1, hw2⟩ := hw1; go_simp; try with_reducible rfl)⟩) hS0 ?_
  simp only [Act.put]
  refine wpAnyH_all (rs := [0, 29]) (by kernel_rfl) (by simp) ?_
  intro j hj
  obtain rfl | rfl : j = 0 ∨ j = 29 := by simpa using hj
  · skip
    refine wpOp_runs (w2 := W.drew) (v := _) h0 (by rfl) (by (go_simp; try with_reducible rfl)) ⟨hS0, ?_⟩
    simp only [Act.put]
    refine wpAnyH_all (rs := [29]) (by kernel_rfl) (by simp) ?_
    intro j hj
    obtain rfl : j = 29 := by simpa using hj
    refine wpOp_runs (w2 := W1) (v := _) h29 (by rfl) (by (rw [HW1.out]; go_simp; try with_reducible rfl)) ⟨hS1, ?_⟩
    simp only [Act.put]
    refine wpAnyH_all (rs := [30]) (by kernel_rfl) (by simp) ?_
    intro j hj
    obtain rfl : j = 30 := by simpa using hj
    refine wpOp_runs (w2 := W2) h30 (by rfl) (exec_append rfl (by go_simp) (by go_simp) hrun) ⟨hS2, ?_⟩
    simp only [Act.put]
    refine wpAnyH_all (rs := [31]) (by kernel_rfl) (by simp) ?_
    intro j hj
    obtain rfl : j = 31 := by simpa using hj
    refine wpOp_skips (w2 := W4) h31 (by rfl) (by (rw [HW4.out]; go_simp; try with_reducible rfl)) ⟨hS4, ?_⟩
    simp only [Act.put]
    exact wpAnyH_done (by kernel_rfl) (HQ.out _ _ HF.out.1 HF.out.2.1 HF.out.2.2.1 HF.out.2.2.2) _
  · skip
    refine wpOp_runs (w2 := W1) (v := _) h29 (by rfl) (by (rw [HW1.out]; go_simp; try with_reducible rfl)) ⟨hS1, ?_⟩
    simp only [Act.put]
    refine wpAnyH_all (rs := [0]) (by kernel_rfl) (by simp) ?_
    intro j hj
    obtain rfl : j = 0 := by simpa using hj
    refine wpOp_runs (w2 := W1) (v := _) h0 (by rfl) (by (go_simp; try with_reducible rfl)) ⟨hS1, ?_⟩
    simp only [Act.put]
    refine wpAnyH_all (rs := [30]) (by kernel_rfl) (by simp) ?_
    intro j hj
    obtain rfl : j = 30 := by simpa using hj
    refine wpOp_runs (w2 := W2) h30 (by rfl) (exec_append rfl (by go_simp) (by go_simp) hrun) ⟨hS2, ?_⟩
    simp only [Act.put]
    refine wpAnyH_all (rs := [31]) (by kernel_rfl) (by simp) ?_
    intro j hj
    obtain rfl : j = 31 := by simpa using hj
    refine wpOp_skips (w2 := W4) h31 (by rfl) (by (rw [HW4.out]; go_simp; try with_reducible rfl)) ⟨hS4, ?_⟩
    simp only [Act.put]
    exact wpAnyH_done (by kernel_rfl) (HQ.out _ _ HF.out.1 HF.out.2.1 HF.out.2.2.1 HF.out.2.2.2) _
end Bk
end Go.Proofs.YtoakokpeomlkjaaDoor
