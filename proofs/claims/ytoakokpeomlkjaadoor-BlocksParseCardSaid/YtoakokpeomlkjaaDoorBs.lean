/- Layer 7 (blocks): the region of Spread that writes. -/
import Derived.Test.YtoakokpeomlkjaaDoorBg
namespace Go.Proofs.YtoakokpeomlkjaaDoor
open Go.RowKit Go.Maps Go.Shelf
namespace Bk
attribute [local go_sem] Oper.semAt_some
def spOps : List Oper :=
  [{ dst := some 20, op := Op.load 60 (Operand.tmp 5), type := 60, pos := "blocks.go:130", after := #[], guard := none }, { dst := some 21, op := Op.move (Operand.tmp 8), type := 56, pos := "blocks.go:130", after := #[], guard := none }, { dst := some 22, op := Op.nilCheck (Operand.tmp 21), type := 0, pos := "blocks.go:130", after := #[{ on := 1, ground := Ground.data }], guard := none }, { dst := some 23, op := Op.fieldAddr 62 (Operand.tmp 22) 1, type := 0, pos := "blocks.go:130", after := #[{ on := 2, ground := Ground.data }], guard := none }, { dst := some 24, op := Op.load 60 (Operand.tmp 23), type := 60, pos := "blocks.go:130", after := #[{ on := 3, ground := Ground.data }], guard := none }, { dst := some 25, op := Op.call { callee := Callee.builtin Builtin.min, args := #[Operand.tmp 20, Operand.tmp 24], argTypes := #[60, 60] }, type := 60, pos := "blocks.go:130", after := #[{ on := 0, ground := Ground.data }, { on := 4, ground := Ground.data }], guard := none }, { dst := some 26, op := Op.load 60 (Operand.tmp 6), type := 60, pos := "blocks.go:130", after := #[], guard := none }, { dst := some 27, op := Op.move (Operand.tmp 8), type := 56, pos := "blocks.go:130", after := #[], guard := none }, { dst := some 28, op := Op.nilCheck (Operand.tmp 27), type := 0, pos := "blocks.go:130", after := #[{ on := 7, ground := Ground.data }], guard := none }, { dst := some 29, op := Op.fieldAddr 62 (Operand.tmp 28) 1, type := 0, pos := "blocks.go:130", after := #[{ on := 8, ground := Ground.data }], guard := none }, { dst := some 30, op := Op.load 60 (Operand.tmp 29), type := 60, pos := "blocks.go:130", after := #[{ on := 9, ground := Ground.data }], guard := none }, { dst := some 31, op := Op.call { callee := Callee.builtin Builtin.max, args := #[Operand.tmp 26, Operand.tmp 30], argTypes := #[60, 60] }, type := 60, pos := "blocks.go:130", after := #[{ on := 6, ground := Ground.data }, { on := 10, ground := Ground.data }], guard := none }, { dst := none, op := Op.store 60 (Operand.tmp 5) (Operand.tmp 25), type := 0, pos := "blocks.go:130", after := #[{ on := 5, ground := Ground.data }, { on := 0, ground := Ground.phase }, { on := 1, ground := Ground.phase }, { on := 2, ground := Ground.phase }, { on := 3, ground := Ground.phase }, { on := 4, ground := Ground.phase }, { on := 5, ground := Ground.phase }, { on := 6, ground := Ground.textOnly Departure.inlinedCapture }, { on := 7, ground := Ground.textOnly Departure.lateStores }, { on := 8, ground := Ground.textOnly Departure.inlinedCapture }, { on := 9, ground := Ground.textOnly Departure.inlinedCapture }, { on := 10, ground := Ground.textOnly Departure.inlinedCapture }, { on := 11, ground := Ground.textOnly Departure.lateStoresUnsure }], guard := none }, { dst := none, op := Op.store 60 (Operand.tmp 6) (Operand.tmp 31), type := 0, pos := "blocks.go:130", after := #[{ on := 11, ground := Ground.data }, { on := 12, ground := Ground.chain }, { on := 0, ground := Ground.phase }, { on := 1, ground := Ground.phase }, { on := 2, ground := Ground.phase }, { on := 3, ground := Ground.phase }, { on := 4, ground := Ground.phase }, { on := 5, ground := Ground.phase }, { on := 6, ground := Ground.phase }, { on := 7, ground := Ground.phase }, { on := 8, ground := Ground.phase }, { on := 9, ground := Ground.phase }, { on := 10, ground := Ground.phase }, { on := 11, ground := Ground.phase }, { on := 12, ground := Ground.phase }], guard := none }]
set_option maxRecDepth 100000 in
set_option maxHeartbeats 8000000 in
theorem spread_region {Q : Exit → Act → World → Prop} {k m : Nat} (hlo : ¬ LetsOut Q) (hp : ∀ c (a a' : Act) w, Q (.panic c) a w → Q (.panic c) a' w) {W : World} {B g o lo hi e mn mx : Nat} (v0 v1 v2 v3 v4 v7 v9 v10 v11 v12 v13 v14 v15 v16 v17 v18 v19 v20 v21 v22 v23 v24 v25 v26 v27 v28 v29 v30 v31 v32 v33 v34 v35 v36 v37 v38 : Value)
    (hbc : W.cell? ⟨B, 0, none⟩ = some (q32 lo)) (hbf : W.frozen? ⟨B, 0, none⟩ = false) (hxc : W.cell? ⟨B + 1, 0, none⟩ = some (q32 hi)) (hxf : W.frozen? ⟨B + 1, 0, none⟩ = false)
    (c1 : W.cell? ⟨g, o + 1, none⟩ = some (q32 e)) (n1 : g ≠ B) (n2 : g ≠ B + 1) (f1 : (if e < lo then (e : Int) else (lo : Int)) = (mn : Int)) (f2 : (if hi < e then (e : Int) else (hi : Int)) = (mx : Int))
    (HQ : ∀ a', Q .normal a' ((W.drew.setCell ⟨B, 0, none⟩ (q32 mn)).setCell ⟨B + 1, 0, none⟩ (q32 mx))) :
    (Code.region 5 spOps.toArray true).wpIn (Fence.wide.inRound k) m Tryd.prog Q { tmps := #[v0, v1, v2, v3, v4, .pointer (some ⟨B, 0, none⟩), .pointer (some ⟨B + 1, 0, none⟩), v7, ptr g o, v9, v10, v11, v12, v13, v14, v15, v16, v17, v18, v19, v20, v21, v22, v23, v24, v25, v26, v27, v28, v29, v30, v31, v32, v33, v34, v35, v36, v37, v38], defers := [] } W := by
  have hS1 : (W.drew.setCell ⟨B, 0, none⟩ (q32 mn)).cell? ⟨g, o + 1, none⟩ = some (q32 e) := cell_else (w := W.drew) c1 n1
  have hS2 := cell_else (g' := B + 1) (o' := 0) (u := q32 mx) hS1 n2
  have hS0 : W.drew.cell? ⟨g, o + 1, none⟩ = some (q32 e) := c1
  have n3 : B + 1 ≠ B := by omega
  have h0 : spOps.toArray[0]? = some { dst := some 20, op := Op.load 60 (Operand.tmp 5), type := 60, pos := "blocks.go:130", after := #[], guard := none } := rfl
  have h1 : spOps.toArray[1]? = some { dst := some 21, op := Op.move (Operand.tmp 8), type := 56, pos := "blocks.go:130", after := #[], guard := none } := rfl
  have h2 : spOps.toArray[2]? = some { dst := some 22, op := Op.nilCheck (Operand.tmp 21), type := 0, pos := "blocks.go:130", after := #[{ on := 1, ground := Ground.data }], guard := none } := rfl
  have h3 : spOps.toArray[3]? = some { dst := some 23, op := Op.fieldAddr 62 (Operand.tmp 22) 1, type := 0, pos := "blocks.go:130", after := #[{ on := 2, ground := Ground.data }], guard := none } := rfl
  have h4 : spOps.toArray[4]? = some { dst := some 24, op := Op.load 60 (Operand.tmp 23), type := 60, pos := "blocks.go:130", after := #[{ on := 3, ground := Ground.data }], guard := none } := rfl
  have h5 : spOps.toArray[5]? = some { dst := some 25, op := Op.call { callee := Callee.builtin Builtin.min, args := #[Operand.tmp 20, Operand.tmp 24], argTypes := #[60, 60] }, type := 60, pos := "blocks.go:130", after := #[{ on := 0, ground := Ground.data }, { on := 4, ground := Ground.data }], guard := none } := rfl
  have h6 : spOps.toArray[6]? = some { dst := some 26, op := Op.load 60 (Operand.tmp 6), type := 60, pos := "blocks.go:130", after := #[], guard := none } := rfl
  have h7 : spOps.toArray[7]? = some { dst := some 27, op := Op.move (Operand.tmp 8), type := 56, pos := "blocks.go:130", after := #[], guard := none } := rfl
  have h8 : spOps.toArray[8]? = some { dst := some 28, op := Op.nilCheck (Operand.tmp 27), type := 0, pos := "blocks.go:130", after := #[{ on := 7, ground := Ground.data }], guard := none } := rfl
  have h9 : spOps.toArray[9]? = some { dst := some 29, op := Op.fieldAddr 62 (Operand.tmp 28) 1, type := 0, pos := "blocks.go:130", after := #[{ on := 8, ground := Ground.data }], guard := none } := rfl
  have h10 : spOps.toArray[10]? = some { dst := some 30, op := Op.load 60 (Operand.tmp 29), type := 60, pos := "blocks.go:130", after := #[{ on := 9, ground := Ground.data }], guard := none } := rfl
  have h11 : spOps.toArray[11]? = some { dst := some 31, op := Op.call { callee := Callee.builtin Builtin.max, args := #[Operand.tmp 26, Operand.tmp 30], argTypes := #[60, 60] }, type := 60, pos := "blocks.go:130", after := #[{ on := 6, ground := Ground.data }, { on := 10, ground := Ground.data }], guard := none } := rfl
  have h12 : spOps.toArray[12]? = some { dst := none, op := Op.store 60 (Operand.tmp 5) (Operand.tmp 25), type := 0, pos := "blocks.go:130", after := #[{ on := 5, ground := Ground.data }, { on := 0, ground := Ground.phase }, { on := 1, ground := Ground.phase }, { on := 2, ground := Ground.phase }, { on := 3, ground := Ground.phase }, { on := 4, ground := Ground.phase }, { on := 5, ground := Ground.phase }, { on := 6, ground := Ground.textOnly Departure.inlinedCapture }, { on := 7, ground := Ground.textOnly Departure.lateStores }, { on := 8, ground := Ground.textOnly Departure.inlinedCapture }, { on := 9, ground := Ground.textOnly Departure.inlinedCapture }, { on := 10, ground := Ground.textOnly Departure.inlinedCapture }, { on := 11, ground := Ground.textOnly Departure.lateStoresUnsure }], guard := none } := rfl
  have h13 : spOps.toArray[13]? = some { dst := none, op := Op.store 60 (Operand.tmp 6) (Operand.tmp 31), type := 0, pos := "blocks.go:130", after := #[{ on := 11, ground := Ground.data }, { on := 12, ground := Ground.chain }, { on := 0, ground := Ground.phase }, { on := 1, ground := Ground.phase }, { on := 2, ground := Ground.phase }, { on := 3, ground := Ground.phase }, { on := 4, ground := Ground.phase }, { on := 5, ground := Ground.phase }, { on := 6, ground := Ground.phase }, { on := 7, ground := Ground.phase }, { on := 8, ground := Ground.phase }, { on := 9, ground := Ground.phase }, { on := 10, ground := Ground.phase }, { on := 11, ground := Ground.phase }, { on := 12, ground := Ground.phase }], guard := none } := rfl
  refine wpIn_region_held_round (fun w' => w'.cell? ⟨g, o + 1, none⟩ = some (q32 e)) hlo (by kernel_rfl) (by kernel_rfl) ?_
  refine wpAnyH_take (i := 1) (v := _) h1 (by kernel_rfl) (by kernel_rfl) (by kernel_rfl) (fun _ _ _ h => hp _ _ _ _ h) (Or.inl ⟨by rfl, fun w1 hw1 => by (go_simp; try with_reducible rfl)⟩) hS0 ?_
  simp only [Act.put]
  refine wpAnyH_take (i := 2) (v := _) h2 (by kernel_rfl) (by kernel_rfl) (by kernel_rfl) (fun _ _ _ h => hp _ _ _ _ h) (Or.inl ⟨by rfl, fun w1 hw1 => by (go_simp; try with_reducible rfl)⟩) hS0 ?_
  simp only [Act.put]
  refine wpAnyH_take (i := 3) (v := _) h3 (by kernel_rfl) (by kernel_rfl) (by kernel_rfl) (fun _ _ _ h => hp _ _ _ _ h) (Or.inl ⟨by rfl, fun w1 hw1 => by (go_simp; try with_reducible rfl)⟩) hS0 ?_
  simp only [Act.put]
  refine wpAnyH_take (i := 4) (v := _) h4 (by kernel_rfl) (by kernel_rfl) (by kernel_rfl) (fun _ _ _ h => hp _ _ _ _ h) (Or.inl ⟨by rfl, fun w1 hw1 => by (go_simp; try with_reducible rfl)⟩) hS0 ?_
  simp only [Act.put]
  refine wpAnyH_take (i := 7) (v := _) h7 (by kernel_rfl) (by kernel_rfl) (by kernel_rfl) (fun _ _ _ h => hp _ _ _ _ h) (Or.inl ⟨by rfl, fun w1 hw1 => by (go_simp; try with_reducible rfl)⟩) hS0 ?_
  simp only [Act.put]
  refine wpAnyH_take (i := 8) (v := _) h8 (by kernel_rfl) (by kernel_rfl) (by kernel_rfl) (fun _ _ _ h => hp _ _ _ _ h) (Or.inl ⟨by rfl, fun w1 hw1 => by (go_simp; try with_reducible rfl)⟩) hS0 ?_
  simp only [Act.put]
  refine wpAnyH_take (i := 9) (v := _) h9 (by kernel_rfl) (by kernel_rfl) (by kernel_rfl) (fun _ _ _ h => hp _ _ _ _ h) (Or.inl ⟨by rfl, fun w1 hw1 => by (go_simp; try with_reducible rfl)⟩) hS0 ?_
  simp only [Act.put]
  refine wpAnyH_take (i := 10) (v := _) h10 (by kernel_rfl) (by kernel_rfl) (by kernel_rfl) (fun _ _ _ h => hp _ _ _ _ h) (Or.inl ⟨by rfl, fun w1 hw1 => by (go_simp; try with_reducible rfl)⟩) hS0 ?_
  simp only [Act.put]
  refine wpAnyH_all (rs := [0, 6]) (by kernel_rfl) (by simp) ?_
  intro j hj
  obtain rfl | rfl : j = 0 ∨ j = 6 := by simpa using hj
  · skip
    refine wpOp_runs (w2 := W.drew) (v := _) h0 (by rfl) (by (go_simp; try with_reducible rfl)) ⟨hS0, ?_⟩
    simp only [Act.put]
    refine wpAnyH_take (i := 5) (v := _) h5 (by kernel_rfl) (by kernel_rfl) (by kernel_rfl) (fun _ _ _ h => hp _ _ _ _ h) (Or.inl ⟨by rfl, fun w1 hw1 => by (go_simp; try with_reducible rfl)⟩) hS0 ?_
    simp only [Act.put]
    refine wpAnyH_all (rs := [6, 12]) (by kernel_rfl) (by simp) ?_
    intro j hj
    obtain rfl | rfl : j = 6 ∨ j = 12 := by simpa using hj
    · skip
      refine wpOp_runs (w2 := W.drew) (v := _) h6 (by rfl) (by (go_simp; try with_reducible rfl)) ⟨hS0, ?_⟩
      simp only [Act.put]
      refine wpAnyH_take (i := 11) (v := _) h11 (by kernel_rfl) (by kernel_rfl) (by kernel_rfl) (fun _ _ _ h => hp _ _ _ _ h) (Or.inl ⟨by rfl, fun w1 hw1 => by (go_simp; try with_reducible rfl)⟩) hS0 ?_
      simp only [Act.put]
      refine wpAnyH_all (rs := [12]) (by kernel_rfl) (by simp) ?_
      intro j hj
      obtain rfl : j = 12 := by simpa using hj
      refine wpOp_skips (w2 := (W.drew.setCell ⟨B, 0, none⟩ (q32 mn))) h12 (by rfl) (by (go_simp; try with_reducible rfl)) ⟨hS1, ?_⟩
      simp only [Act.put]
      refine wpAnyH_all (rs := [13]) (by kernel_rfl) (by simp) ?_
      intro j hj
      obtain rfl : j = 13 := by simpa using hj
      refine wpOp_skips (w2 := (W.drew.setCell ⟨B, 0, none⟩ (q32 mn)).setCell ⟨B + 1, 0, none⟩ (q32 mx)) h13 (by rfl) (by (go_simp; try with_reducible rfl)) ⟨hS2, ?_⟩
      simp only [Act.put]
      exact wpAnyH_done (by kernel_rfl) (HQ _) _
    · skip
      refine wpOp_skips (w2 := (W.drew.setCell ⟨B, 0, none⟩ (q32 mn))) h12 (by rfl) (by (go_simp; try with_reducible rfl)) ⟨hS1, ?_⟩
      simp only [Act.put]
      refine wpAnyH_all (rs := [6]) (by kernel_rfl) (by simp) ?_
      intro j hj
      obtain rfl : j = 6 := by simpa using hj
      refine wpOp_runs (w2 := (W.drew.setCell ⟨B, 0, none⟩ (q32 mn))) (v := _) h6 (by rfl) (by (go_simp; try with_reducible rfl)) ⟨hS1, ?_⟩
      simp only [Act.put]
      refine wpAnyH_take (i := 11) (v := _) h11 (by kernel_rfl) (by kernel_rfl) (by kernel_rfl) (fun _ _ _ h => hp _ _ _ _ h) (Or.inl ⟨by rfl, fun w1 hw1 => by (go_simp; try with_reducible rfl)⟩) hS1 ?_
      simp only [Act.put]
      refine wpAnyH_all (rs := [13]) (by kernel_rfl) (by simp) ?_
      intro j hj
      obtain rfl : j = 13 := by simpa using hj
      refine wpOp_skips (w2 := (W.drew.setCell ⟨B, 0, none⟩ (q32 mn)).setCell ⟨B + 1, 0, none⟩ (q32 mx)) h13 (by rfl) (by (go_simp; try with_reducible rfl)) ⟨hS2, ?_⟩
      simp only [Act.put]
      exact wpAnyH_done (by kernel_rfl) (HQ _) _
  · skip
    refine wpOp_runs (w2 := W.drew) (v := _) h6 (by rfl) (by (go_simp; try with_reducible rfl)) ⟨hS0, ?_⟩
    simp only [Act.put]
    refine wpAnyH_take (i := 11) (v := _) h11 (by kernel_rfl) (by kernel_rfl) (by kernel_rfl) (fun _ _ _ h => hp _ _ _ _ h) (Or.inl ⟨by rfl, fun w1 hw1 => by (go_simp; try with_reducible rfl)⟩) hS0 ?_
    simp only [Act.put]
    refine wpAnyH_all (rs := [0]) (by kernel_rfl) (by simp) ?_
    intro j hj
    obtain rfl : j = 0 := by simpa using hj
    refine wpOp_runs (w2 := W.drew) (v := _) h0 (by rfl) (by (go_simp; try with_reducible rfl)) ⟨hS0, ?_⟩
    simp only [Act.put]
    refine wpAnyH_take (i := 5) (v := _) h5 (by kernel_rfl) (by kernel_rfl) (by kernel_rfl) (fun _ _ _ h => hp _ _ _ _ h) (Or.inl ⟨by rfl, fun w1 hw1 => by (go_simp; try with_reducible rfl)⟩) hS0 ?_
    simp only [Act.put]
    refine wpAnyH_all (rs := [12]) (by kernel_rfl) (by simp) ?_
    intro j hj
    obtain rfl : j = 12 := by simpa using hj
    refine wpOp_skips (w2 := (W.drew.setCell ⟨B, 0, none⟩ (q32 mn))) h12 (by rfl) (by (go_simp; try with_reducible rfl)) ⟨hS1, ?_⟩
    simp only [Act.put]
    refine wpAnyH_all (rs := [13]) (by kernel_rfl) (by simp) ?_
    intro j hj
    obtain rfl : j = 13 := by simpa using hj
    refine wpOp_skips (w2 := (W.drew.setCell ⟨B, 0, none⟩ (q32 mn)).setCell ⟨B + 1, 0, none⟩ (q32 mx)) h13 (by rfl) (by (go_simp; try with_reducible rfl)) ⟨hS2, ?_⟩
    simp only [Act.put]
    exact wpAnyH_done (by kernel_rfl) (HQ _) _
end Bk
end Go.Proofs.YtoakokpeomlkjaaDoor
