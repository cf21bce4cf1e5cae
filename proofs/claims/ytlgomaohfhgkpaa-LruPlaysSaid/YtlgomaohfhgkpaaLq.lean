/- Layer 10 (lru): a region that appends, in a round. -/
import Derived.Test.YtlgomaohfhgkpaaLp
import Derived.Test.YtlgomaohfhgkpaaLm
import Derived.Maps.AppendAt
namespace Go.Proofs.Ytlgomaohfhgkpaa
open Go.RowKit Go.Maps Go.Shelf
namespace Lr
attribute [local go_sem] Oper.semAt_some
theorem infoE : (Try.prog.info? 37).map (fun i => (i.zero, i.size, i.bytes)) = some (some (.agg #[num 0, u64v 0, .bool false]), 3, 24) := by kernel_rfl
/-- Entries' cells. -/
def entC (S : List Ent) : List Value := S.flatMap fun x => [num x.key, u64v x.val, .bool x.dirty]
theorem entC_app (a b : List Ent) : entC (a ++ b) = entC a ++ entC b := by simp [entC]
theorem entC_one (x : Ent) : entC [x] = [num x.key, u64v x.val, .bool x.dirty] := rfl
theorem entC_len (S : List Ent) : (entC S).length = S.length * 3 := by
  induction S with
  | nil => rfl
  | cons x S ih =>
    have : entC (x :: S) = [num x.key, u64v x.val, .bool x.dirty] ++ entC S := rfl
    rw [this, List.length_append, ih, List.length_cons]
    simp; omega
/-- The row under way: a box that holds entries of one's own. -/
def RowE (base B : Nat) (S : List Ent) (W : World) : Prop := ∃ v, Boxed W B 47 v ∧ W.ownsRow base 37 3 v S.length (entC S)
theorem rowE_ownFrom {β : Type} (base B C : Nat) (S : β → List Ent) : OwnFrom C (fun s W => RowE base B (S s) W) := fun s X Y row hs hg hr => by
  obtain ⟨v, h1, h2⟩ := (holdsRow_own base B 47 37 3 (fun s => (S s).length) (fun s => entC (S s)) (fun (_ : β) (_ : Value) => True)).from C s X Y row (by obtain ⟨v, h1, h2⟩ := hs; exact ⟨v, h1, h2, trivial⟩) hg hr
  exact ⟨v, h1, h2.1⟩
/-- What an append leaves. -/
structure ApPost (W : World) (base B : Nat) (S : List Ent) (x : Ent) (W4 : World) : Prop where
  row : RowE base B (S ++ [x]) W4
  keep : KeepsOthers W W4
  low : Below base W W4
  old : ∀ g, g < W.heap.size → g ≠ B → (∀ v, Boxed W B 47 v → some g ≠ v.ownBlock) → W4.heap[g]? = W.heap[g]?
/-- One entry is appended to a row of one's own. -/
theorem append_ent {W : World} {base B : Nat} {S : List Ent} {x : Ent} {v : Value} (hb : Boxed W B 47 v) (hown : W.ownsRow base 37 3 v S.length (entC S)) (hbase : base ≤ W.heap.size) (hB : base ≤ B) (hS : S.length ≤ 1000000) (ty : TypeId) :
    ∃ v' W2, (Builtin.append_ #[47, 47] ty #[v, .slice (some ⟨W.heap.size, 0, none⟩) 1 1]).run Try.prog (W.alloc (entO x)) = .ok v' W2 ∧
      Boxed W2 B 47 v ∧ ApPost W base B S x (W2.setCell ⟨B, 0, none⟩ v') ∧ (∃ a l c, v' = .slice a l c) ∧ (W.alloc (entO x)).grownBy W2 v.ownBlock := by
  obtain ⟨i0, hi, hz0, hz1, hz2⟩ := info_parts infoE
  have hnew : (W.alloc (entO x)).heap[W.heap.size]? = some (entO x) := heap_alloc_new W _
  obtain ⟨v', W2, hrun, hown2, hgrow, _, _⟩ := run_append_own_at (P := Try.prog) (W.alloc (entO x)) base 47 ty 37 i0 (.agg #[num 0, u64v 0, .bool false]) 3 24 Try.underlying47 hi hz0 hz1 hz2 rfl (by decide) v S.length (entC S) (hown.alloc _) ⟨W.heap.size, 0, none⟩ 1 1 (entC [x]) (by simp [entC]) (fun j u hu => by
    rw [addr_add', Nat.zero_add]
    refine cell_at hnew ?_
    simpa [entC] using hu) (by intro u hu; simp [entC] at hu; rcases hu with rfl | rfl | rfl <;> rfl) (by unfold maxLen; omega) (by omega) (by simp; omega)
  obtain ⟨hv1, hv2, hr2, hk2, hb2⟩ := hb.appended (tmp := entO x) (by decide) hown hbase hB hown2 hgrow
  refine ⟨v', W2, hrun, hv1, ⟨⟨v', hv2, ?_⟩, hk2, hb2, fun g hg hgB hgv => ?_⟩, ?_, hgrow⟩
  · rw [← entC_app] at hr2
    rw [List.length_append]; exact hr2
  · rw [setCell_else hgB, hgrow.block g (by simp; omega) (hgv v hb)]
    exact Below.heap_alloc _ _ _ hg
  · rcases hown2.2 with ⟨e, _⟩ | ⟨g', cap, _, e, _⟩
    · exact ⟨_, _, _, e⟩
    · exact ⟨_, _, _, e⟩
def apaOps : List Oper :=
  [{ dst := some 8, op := Op.load 47 (Operand.tmp 3), type := 47, pos := "lru.go:87", after := #[], guard := none }, { dst := some 9, op := Op.move (Operand.tmp 4), type := 62, pos := "lru.go:87", after := #[], guard := none }, { dst := some 10, op := Op.nilCheck (Operand.tmp 9), type := 0, pos := "lru.go:87", after := #[{ on := 1, ground := Ground.data }], guard := none }, { dst := some 11, op := Op.fieldAddr 68 (Operand.tmp 10) 0, type := 0, pos := "lru.go:87", after := #[{ on := 2, ground := Ground.data }], guard := none }, { dst := some 12, op := Op.load 37 (Operand.tmp 11), type := 37, pos := "lru.go:87", after := #[{ on := 3, ground := Ground.data }], guard := none }, { dst := some 13, op := Op.buildSlice 47 1 #[(0, Operand.tmp 12)], type := 47, pos := "lru.go:87", after := #[{ on := 4, ground := Ground.data }], guard := none }, { dst := some 14, op := Op.call { callee := Callee.builtin Builtin.append, args := #[Operand.tmp 8, Operand.tmp 13], argTypes := #[47, 47] }, type := 47, pos := "lru.go:87", after := #[{ on := 0, ground := Ground.data }, { on := 5, ground := Ground.data }], guard := none }, { dst := none, op := Op.store 47 (Operand.tmp 3) (Operand.tmp 14), type := 0, pos := "lru.go:87", after := #[{ on := 6, ground := Ground.data }, { on := 6, ground := Ground.chain }, { on := 0, ground := Ground.phase }, { on := 1, ground := Ground.phase }, { on := 2, ground := Ground.phase }, { on := 3, ground := Ground.phase }, { on := 4, ground := Ground.phase }, { on := 5, ground := Ground.phase }, { on := 6, ground := Ground.phase }], guard := none }]
set_option maxRecDepth 100000 in
set_option maxHeartbeats 8000000 in
theorem apa_region {Q : Exit → Act → World → Prop} {k m : Nat} (hlo : ¬ LetsOut Q) (hp : ∀ c (a a' : Act) w, Q (.panic c) a w → Q (.panic c) a' w) {W : World} {B b base : Nat} {S : List Ent} {x : Ent} {v : Value} (v0 v1 v2 v5 v6 v7 v8 v9 v10 v11 v12 v13 v14 v15 : Value)
    (c0 : W.cell? ⟨b, 0, none⟩ = some (num x.key)) (c1 : W.cell? ⟨b, 1, none⟩ = some (u64v x.val)) (c2 : W.cell? ⟨b, 2, none⟩ = some (.bool x.dirty)) (hbl : b < W.heap.size) (hbB : b ≠ B) (hbv : some b ≠ v.ownBlock)
    (hb : Boxed W B 47 v) (hown : W.ownsRow base 37 3 v S.length (entC S)) (hbase : base ≤ W.heap.size) (hB : base ≤ B) (hS : S.length ≤ 1000000)
    (HQ' : ∀ a' W4, ApPost W base B S x W4 → Q .normal a' W4) :
    (Code.region 4 apaOps.toArray true).wpIn (Fence.wide.inRound k) m Try.prog Q { tmps := #[v0, v1, v2, .pointer (some ⟨B, 0, none⟩), ptr b, v5, v6, v7, v8, v9, v10, v11, v12, v13, v14, v15], defers := [] } W := by
  have HQ := hide HQ'
  have hS0 : W.drew.cell? ⟨b, 0, none⟩ = some (num x.key) ∧ W.drew.cell? ⟨b, 1, none⟩ = some (u64v x.val) ∧ W.drew.cell? ⟨b, 2, none⟩ = some (.bool x.dirty) := ⟨c0, c1, c2⟩
  have hbc : W.cell? ⟨B, 0, none⟩ = some v := hb.cell
  have hbd : Boxed W.drew B 47 v := hb
  have hownd : W.drew.ownsRow base 37 3 v S.length (entC S) := hown
  obtain ⟨W1, hW1⟩ : ∃ W1, W1 = W.drew.alloc (entO x) := ⟨_, rfl⟩
  have hg1 : W.drew.grownBy W1 none := by rw [hW1]; exact World.grownBy_alloc _ _ none
  have hS1 : W1.cell? ⟨b, 0, none⟩ = some (num x.key) ∧ W1.cell? ⟨b, 1, none⟩ = some (u64v x.val) ∧ W1.cell? ⟨b, 2, none⟩ = some (.bool x.dirty) := by
    have e1 := hg1.block b hbl (by simp)
    exact ⟨(cell_of_block e1).trans c0, (cell_of_block e1).trans c1, (cell_of_block e1).trans c2⟩
  have hbc1 : W1.cell? ⟨B, 0, none⟩ = some v := (cell_of_block (hg1.block B hb.lt (by simp))).trans hbc
  obtain ⟨v', W2, hrun, hv1, hpost, ⟨ow, lw, cw, hv'⟩, hgrow⟩ := append_ent (x := x) hbd hownd hbase hB hS 47
  rw [← hW1] at hrun hgrow
  subst hv'
  have e2 := hgrow.block b (by have := hg1.size; exact Nat.lt_of_lt_of_le hbl this) hbv
  have hS2 : W2.cell? ⟨b, 0, none⟩ = some (num x.key) ∧ W2.cell? ⟨b, 1, none⟩ = some (u64v x.val) ∧ W2.cell? ⟨b, 2, none⟩ = some (.bool x.dirty) := ⟨(cell_of_block e2).trans hS1.1, (cell_of_block e2).trans hS1.2.1, (cell_of_block e2).trans hS1.2.2⟩
  obtain ⟨W4, hW4⟩ : ∃ W4, W4 = W2.setCell ⟨B, 0, none⟩ (.slice ow lw cw) := ⟨_, rfl⟩
  have hS4 : W4.cell? ⟨b, 0, none⟩ = some (num x.key) ∧ W4.cell? ⟨b, 1, none⟩ = some (u64v x.val) ∧ W4.cell? ⟨b, 2, none⟩ = some (.bool x.dirty) := by rw [hW4]; exact ⟨cell_else hS2.1 hbB, cell_else hS2.2.1 hbB, cell_else hS2.2.2 hbB⟩
  have hc2 := hv1.cell
  have hf2 := hv1.frozen
  have HF : Hid (ApPost W base B S x W4) := by
    rw [hW4]
    exact ⟨hpost.row, ⟨hpost.keep.size, hpost.keep.same⟩, ⟨hpost.low.os, hpost.low.tape, hpost.low.output, hpost.low.size, hpost.low.block⟩, hpost.old⟩
  have HW1 : Hid (W1 = W.drew.alloc (.cells #[num x.key, u64v x.val, .bool x.dirty] 37)) := hW1
  have HW4 := hide hW4
  clear hW1 hW4 HQ' hb hown hpost hv1 e2 hbd hownd hg1 hgrow hbl hbB hbv
  have h0 : apaOps.toArray[0]? = some { dst := some 8, op := Op.load 47 (Operand.tmp 3), type := 47, pos := "lru.go:87", after := #[], guard := none } := rfl
  have h1 : apaOps.toArray[1]? = some { dst := some 9, op := Op.move (Operand.tmp 4), type := 62, pos := "lru.go:87", after := #[], guard := none } := rfl
  have h2 : apaOps.toArray[2]? = some { dst := some 10, op := Op.nilCheck (Operand.tmp 9), type := 0, pos := "lru.go:87", after := #[{ on := 1, ground := Ground.data }], guard := none } := rfl
  have h3 : apaOps.toArray[3]? = some { dst := some 11, op := Op.fieldAddr 68 (Operand.tmp 10) 0, type := 0, pos := "lru.go:87", after := #[{ on := 2, ground := Ground.data }], guard := none } := rfl
  have h4 : apaOps.toArray[4]? = some { dst := some 12, op := Op.load 37 (Operand.tmp 11), type := 37, pos := "lru.go:87", after := #[{ on := 3, ground := Ground.data }], guard := none } := rfl
  have h5 : apaOps.toArray[5]? = some { dst := some 13, op := Op.buildSlice 47 1 #[(0, Operand.tmp 12)], type := 47, pos := "lru.go:87", after := #[{ on := 4, ground := Ground.data }], guard := none } := rfl
  have h6 : apaOps.toArray[6]? = some { dst := some 14, op := Op.call { callee := Callee.builtin Builtin.append, args := #[Operand.tmp 8, Operand.tmp 13], argTypes := #[47, 47] }, type := 47, pos := "lru.go:87", after := #[{ on := 0, ground := Ground.data }, { on := 5, ground := Ground.data }], guard := none } := rfl
  have h7 : apaOps.toArray[7]? = some { dst := none, op := Op.store 47 (Operand.tmp 3) (Operand.tmp 14), type := 0, pos := "lru.go:87", after := #[{ on := 6, ground := Ground.data }, { on := 6, ground := Ground.chain }, { on := 0, ground := Ground.phase }, { on := 1, ground := Ground.phase }, { on := 2, ground := Ground.phase }, { on := 3, ground := Ground.phase }, { on := 4, ground := Ground.phase }, { on := 5, ground := Ground.phase }, { on := 6, ground := Ground.phase }], guard := none } := rfl
  refine wpIn_region_held_round (fun w' => w'.cell? ⟨b, 0, none⟩ = some (num x.key) ∧ w'.cell? ⟨b, 1, none⟩ = some (u64v x.val) ∧ w'.cell? ⟨b, 2, none⟩ = some (.bool x.dirty)) hlo (by kernel_rfl) (by kernel_rfl) ?_
  refine wpAnyH_take (i := 1) (v := _) h1 (by kernel_rfl) (by kernel_rfl) (by kernel_rfl) (fun _ _ _ h => hp _ _ _ _ h) (Or.inl ⟨by rfl, fun w1 hw1 => by (obtain ⟨hw1, hw2, hw3⟩ := hw1; go_simp; try with_reducible rfl)⟩) hS0 ?_
  simp only [Act.put]
  refine wpAnyH_take (i := 2) (v := _) h2 (by kernel_rfl) (by kernel_rfl) (by kernel_rfl) (fun _ _ _ h => hp _ _ _ _ h) (Or.inl ⟨by rfl, fun w1 hw1 => by (obtain ⟨hw1, hw2, hw3⟩ := hw1; go_simp; try with_reducible rfl)⟩) hS0 ?_
  simp only [Act.put]
  refine wpAnyH_take (i := 3) (v := _) h3 (by kernel_rfl) (by kernel_rfl) (by kernel_rfl) (fun _ _ _ h => hp _ _ _ _ h) (Or.inl ⟨by rfl, fun w1 hw1 => by (obtain ⟨hw1, hw2, hw3⟩ := hw1; go_simp; try with_reducible rfl)⟩) hS0 ?_
  simp only [Act.put]
  refine wpAnyH_take (i := 4) (v := _) h4 (by kernel_rfl) (by kernel_rfl) (by kernel_rfl) (fun _ _ _ h => hp _ _ _ _ h) (Or.inl ⟨by rfl, fun w1 hw1 => by (obtain ⟨hw1, hw2, hw3⟩ := hw1; go_simp; try with_reducible rfl)⟩) hS0 ?_
  simp only [Act.put]
  refine wpAnyH_all (rs := [0, 5]) (by kernel_rfl) (by simp) ?_
  intro j hj
  obtain rfl | rfl : j = 0 ∨ j = 5 := by simpa using hj
  · skip
    refine wpOp_runs (w2 := W.drew) (v := _) h0 (by rfl) (by (go_simp; try with_reducible rfl)) ⟨hS0, ?_⟩
    simp only [Act.put]
    refine wpAnyH_all (rs := [5]) (by kernel_rfl) (by simp) ?_
    intro j hj
    obtain rfl : j = 5 := by simpa using hj
    refine wpOp_runs (w2 := W1) (v := _) h5 (by rfl) (by (rw [HW1.out]; go_simp; try with_reducible rfl)) ⟨hS1, ?_⟩
    simp only [Act.put]
    refine wpAnyH_all (rs := [6]) (by kernel_rfl) (by simp) ?_
    intro j hj
    obtain rfl : j = 6 := by simpa using hj
    refine wpOp_runs (w2 := W2) h6 (by rfl) (exec_append rfl (by go_simp) (by go_simp) hrun) ⟨hS2, ?_⟩
    simp only [Act.put]
    refine wpAnyH_all (rs := [7]) (by kernel_rfl) (by simp) ?_
    intro j hj
    obtain rfl : j = 7 := by simpa using hj
    refine wpOp_skips (w2 := W4) h7 (by rfl) (by (rw [HW4.out]; go_simp; try with_reducible rfl)) ⟨hS4, ?_⟩
    simp only [Act.put]
    exact wpAnyH_done (by kernel_rfl) (HQ.out _ _ HF.out) _
  · skip
    refine wpOp_runs (w2 := W1) (v := _) h5 (by rfl) (by (rw [HW1.out]; go_simp; try with_reducible rfl)) ⟨hS1, ?_⟩
    simp only [Act.put]
    refine wpAnyH_all (rs := [0]) (by kernel_rfl) (by simp) ?_
    intro j hj
    obtain rfl : j = 0 := by simpa using hj
    refine wpOp_runs (w2 := W1) (v := _) h0 (by rfl) (by (go_simp; try with_reducible rfl)) ⟨hS1, ?_⟩
    simp only [Act.put]
    refine wpAnyH_all (rs := [6]) (by kernel_rfl) (by simp) ?_
    intro j hj
    obtain rfl : j = 6 := by simpa using hj
    refine wpOp_runs (w2 := W2) h6 (by rfl) (exec_append rfl (by go_simp) (by go_simp) hrun) ⟨hS2, ?_⟩
    simp only [Act.put]
    refine wpAnyH_all (rs := [7]) (by kernel_rfl) (by simp) ?_
    intro j hj
    obtain rfl : j = 7 := by simpa using hj
    refine wpOp_skips (w2 := W4) h7 (by rfl) (by (rw [HW4.out]; go_simp; try with_reducible rfl)) ⟨hS4, ?_⟩
    simp only [Act.put]
    exact wpAnyH_done (by kernel_rfl) (HQ.out _ _ HF.out) _
end Lr
end Go.Proofs.Ytlgomaohfhgkpaa
