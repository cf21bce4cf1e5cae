/- Layer 8 (record): records plainly, and their bytes; rows of bytes that are made. -/
import Derived.Test.YtfmkmfjmhpgglaaDoorXf
import Derived.Test.YtfmkmfjmhpgglaaDoorXg
import Derived.Test.YtfmkmfjmhpgglaaDoorXh
import Derived.WalkKit
import Derived.WalkLawsBesides
import Derived.StillTailTactics
import Derived.Deep.AppendLies
import Derived.Laws.AppendOwnNone
import Derived.Laws.ShiftsVarLaws
import Derived.Laws.BitsAllLaws
import Derived.Laws.StructEq
namespace Go.Proofs.YtfmkmfjmhpgglaaDoor
open Go.RowKit
namespace Rc
open Cr
abbrev q64 (n : Nat) : Value := .int .u64 n
abbrev q8 (n : Nat) : Value := .int .u8 n
theorem grownBy_alloc' {a b : World} (h : a.grownBy b none) (o : Obj) : a.grownBy (b.alloc o) none := grownBy_trans h (World.grownBy_alloc b o none)
theorem grownBy_refl (w : World) (r : Option Nat) : w.grownBy w r := ⟨rfl, rfl, rfl, Nat.le_refl _, fun _ _ _ => rfl⟩
theorem grownBy_set {w W : World} (h : w.grownBy W none) {g o : Nat} (hg : w.heap.size ≤ g) (v : Value) : w.grownBy (W.setCell ⟨g, o, none⟩ v) none :=
  ⟨h.os, h.tape, h.output, by have := h.size; simp [World.setCell]; omega, fun x hx _ => by
    rw [setCell_else (by omega)]; exact h.block x hx (by simp)⟩
theorem cell_of_block {w w' : World} {g o : Nat} (e : w'.heap[g]? = w.heap[g]?) : w'.cell? ⟨g, o, none⟩ = w.cell? ⟨g, o, none⟩ := World.cell?_of_block (w := w) (a := ⟨g, o, none⟩) e
theorem cell_at {w : World} {g o : Nat} {L : Array Value} {t : TypeId} {v : Value} (h : w.heap[g]? = some (.cells L t)) (hv : L[o]? = some v) : w.cell? ⟨g, o, none⟩ = some v := by simp [World.cell?, h, hv]
theorem free_at {w : World} {g o : Nat} {L : Array Value} {t : TypeId} (h : w.heap[g]? = some (.cells L t)) : w.frozen? ⟨g, o, none⟩ = false := by simp [World.frozen?, h]
theorem obj_more {w w' : World} {g : Nat} {o : Obj} (h : w.heap[g]? = some o) (hg : w.grownBy w' none) : w'.heap[g]? = some o := (hg.block g (lt_of_heap h) (by simp)).trans h
theorem hide {p : Prop} (h : p) : Hid p := h
/-! ### Rows of bytes that are made -/
structure OwnF (W0 w : World) (v : Value) (bs : List Nat) : Prop where
  gr : W0.grownBy w none
  own : w.ownsRow W0.heap.size 5 1 v bs.length (valsB bs)
  le : ∀ i, nth bs i ≤ 255
theorem own_more {w w' : World} {base : Nat} {e : TypeId} {size : Nat} {v : Value} {n : Nat} {xs : List Value} (h : w.ownsRow base e size v n xs) (hg : w.grownBy w' none) : w'.ownsRow base e size v n xs :=
  ⟨h.1, h.2.imp id fun ⟨g, cap, cur, a, b, c, d⟩ => ⟨g, cap, cur, a, b, (hg.block g (lt_of_heap c) (by simp)).trans c, d⟩⟩
theorem own_step {w1 wr w5 : World} {e : TypeId} {size : Nat} {v : Value} {n : Nat} {xs : List Value} (h : w1.grownBy wr none) (hown : wr.ownsRow w1.heap.size e size v n xs) (hg : wr.grownBy w5 v.ownBlock) : w1.grownBy w5 none := by
  refine ⟨hg.os.trans h.os, hg.tape.trans h.tape, hg.output.trans h.output, Nat.le_trans h.size hg.size, fun x hx _ => (hg.block x (Nat.lt_of_lt_of_le hx h.size) ?_).trans (h.block x hx (by simp))⟩
  rcases hown.2 with ⟨rfl, _⟩ | ⟨g, cap, cur, rfl, hb, _⟩
  · simp [Value.ownBlock]
  · simp only [Value.ownBlock, ne_eq, Option.some.injEq]; omega
theorem nth_app_le {a b : List Nat} (ha : ∀ i, nth a i ≤ 255) (hb : ∀ i, nth b i ≤ 255) : ∀ i, nth (a ++ b) i ≤ 255 := fun i => by
  unfold nth at ha hb ⊢
  simp only [List.getD_eq_getElem?_getD] at ha hb ⊢
  by_cases h : i < a.length
  · rw [List.getElem?_append_left h]; exact ha i
  · rw [List.getElem?_append_right (by omega)]; exact hb _
theorem OwnF.nil {W0 w : World} (gr : W0.grownBy w none) : OwnF W0 w (.slice none 0 0) [] := ⟨gr, World.ownsRow_nil _ _ _ _, fun i => by simp [nth]⟩
theorem OwnF.more {W0 w w' : World} {v : Value} {bs : List Nat} (h : OwnF W0 w v bs) (hg : w.grownBy w' none) : OwnF W0 w' v bs := ⟨grownBy_trans h.gr hg, own_more h.own hg, h.le⟩
theorem OwnF.base {W W0 w : World} {v : Value} {bs : List Nat} (h : OwnF W0 w v bs) (hg : W.grownBy W0 none) : OwnF W w v bs :=
  ⟨grownBy_trans hg h.gr, ⟨h.own.1, h.own.2.imp id fun ⟨g, cap, cur, a, b, c⟩ => ⟨g, cap, cur, a, Nat.le_trans hg.size b, c⟩⟩, h.le⟩
theorem OwnF.app {W0 w w' : World} {v v' : Value} {bs cs : List Nat} (h : OwnF W0 w v bs) (hc : ∀ i, nth cs i ≤ 255) (hown : w'.ownsRow W0.heap.size 5 1 v' (bs.length + cs.length) (valsB bs ++ valsB cs)) (hg : w.grownBy w' v.ownBlock) : OwnF W0 w' v' (bs ++ cs) :=
  ⟨own_step h.gr h.own hg, by rw [valsB_app, List.length_append]; exact hown, nth_app_le h.le hc⟩
theorem OwnF.rd {W0 w : World} {v : Value} {bs : List Nat} (h : OwnF W0 w v bs) : ∃ ao cap, v = .slice ao bs.length cap ∧ RdB w ao bs ∧ bs.length ≤ cap ∧ (ao = none → cap = 0) := by
  rcases h.own.2 with ⟨rfl, h0⟩ | ⟨g, cap, cur, rfl, hb, hg, hnc, hcm, hcs, htk⟩
  · exact ⟨none, 0, by rw [h0], ⟨h.le, .inl (List.eq_nil_of_length_eq_zero h0)⟩, by omega, fun _ => rfl⟩
  · refine ⟨_, cap, rfl, ⟨h.le, .inr ⟨g, 0, rfl, fun i hi => ?_⟩⟩, hnc, fun e => by cases e⟩
    have e : (cur.toList.take (bs.length * 1))[i]? = some (.int .u8 (nth bs i : Nat)) := by rw [htk]; exact Cr.valsB_at hi
    rw [List.getElem?_take_of_lt (by omega)] at e
    rw [Nat.zero_add]
    simp only [World.cell?, hg]
    simpa using e
theorem nth_one (x : Nat) (h : x ≤ 255) : ∀ i, nth [x] i ≤ 255 := fun i => by
  cases i with
  | zero => simpa [nth] using h
  | succ i => simp [nth]
/-- A row of bytes that was laid as it is: one's own. -/
theorem OwnF.laid {W0 w : World} (gr : W0.grownBy w none) {g : Nat} {bs : List Nat} (hg : W0.heap.size ≤ g) (hh : w.heap[g]? = some (.cells (valsB bs).toArray 5)) (hl : bs.length ≤ 1000000) (hle : ∀ i, nth bs i ≤ 255) : OwnF W0 w (.slice (some ⟨g, 0, none⟩) bs.length bs.length) bs :=
  ⟨gr, ⟨by rw [valsB_len, Nat.mul_one], .inr ⟨g, bs.length, _, rfl, hg, hh, Nat.le_refl _, by unfold maxLen; omega, by simp [valsB_len], by rw [Nat.mul_one]; exact List.take_of_length_le (by simp [valsB_len])⟩⟩, hle⟩
/-! ### Numbers in bytes, the lowest first -/
def leB (n k : Nat) : List Nat := (List.range k).map fun i => n / 2 ^ (8 * i) % 256
theorem leB_next (n k : Nat) : leB n (k + 1) = leB n k ++ [n / 2 ^ (8 * k) % 256] := by simp [leB, List.range_succ]
theorem leB_len (n k : Nat) : (leB n k).length = k := by simp [leB]
theorem leB_zero (n : Nat) : leB n 0 = [] := rfl
theorem leB_le (n k : Nat) : ∀ i, nth (leB n k) i ≤ 255 := by
  induction k with
  | zero => intro i; simp [leB, nth]
  | succ k ih => rw [leB_next]; exact nth_app_le ih (nth_one _ (by have := Nat.mod_lt (n / 2 ^ (8 * k)) (show 256 > 0 by decide); omega))
theorem nm_leB (n : Nat) : ∀ k, nm (leB n k) = n % 2 ^ (8 * k)
  | 0 => by simp [leB, nm, Nat.mod_one]
  | k + 1 => by
    have h1 : nm (leB n k) < 2 ^ (8 * k) := by rw [nm_leB n k]; exact Nat.mod_lt _ (Nat.pow_pos (by decide))
    rw [leB_next, Cr.nm_app, leB_len]
    have e : nm [n / 2 ^ (8 * k) % 256] = n / 2 ^ (8 * k) % 256 := by simp [nm]
    rw [e, Cr.xor_add _ h1, nm_leB n k, show 8 * (k + 1) = 8 * k + 8 by omega, Nat.pow_add, Nat.mod_mul]
    rw [Nat.mul_comm (2 ^ (8 * k))]
theorem nm_leB8 {n : Nat} (h : n < 18446744073709551616) : nm (leB n 8) = n := by
  rw [nm_leB, Nat.mod_eq_of_lt (by simpa using h)]
/-! ### Records -/
structure Rec where
  kind : Int
  seq : Nat
  a : Nat
  b : Nat
  c : Nat
deriving DecidableEq
def U64 (n : Nat) : Prop := n < 18446744073709551616
structure Rec.Fits (r : Rec) : Prop where
  kind : I64 r.kind
  seq : U64 r.seq
  a : U64 r.a
  b : U64 r.b
  c : U64 r.c
abbrev recV (r : Rec) : Value := .agg #[num r.kind, q64 r.seq, q64 r.a, q64 r.b, q64 r.c]
abbrev recL (r : Rec) : Obj := .cells #[num r.kind, q64 r.seq, q64 r.a, q64 r.b, q64 r.c] 24
def noR : Rec := ⟨0, 0, 0, 0, 0⟩
def MayR (r : Rec) : Prop := 1 ≤ r.kind ∧ r.kind ≤ 4
instance (r : Rec) : Decidable (MayR r) := by unfold MayR; infer_instance
def recB (r : Rec) : List Nat := [r.kind.toNat] ++ leB r.seq 8 ++ leB r.a 8 ++ leB r.b 8 ++ leB r.c 8
theorem recB_len (r : Rec) : (recB r).length = 33 := by simp [recB, leB_len]
theorem recB_le {r : Rec} (h : MayR r) : ∀ i, nth (recB r) i ≤ 255 := by
  have := h.2
  exact nth_app_le (nth_app_le (nth_app_le (nth_app_le (nth_one _ (by omega)) (leB_le _ _)) (leB_le _ _)) (leB_le _ _)) (leB_le _ _)
/-- The j-th number in bytes. -/
def n8 (b : List Nat) (j : Nat) : Nat := nm ((b.drop (1 + 8 * j)).take 8)
def recOf (b : List Nat) : Rec := ⟨(nth b 0 : Nat), n8 b 0, n8 b 1, n8 b 2, n8 b 3⟩
theorem mid {p x s : List Nat} {n k : Nat} (hp : p.length = n) (hx : x.length = k) : ((p ++ x ++ s).drop n).take k = x := by
  subst hp hx
  rw [List.append_assoc, List.drop_left, List.take_left]
theorem recOf_recB {r : Rec} (hf : r.Fits) (h : MayR r) : recOf (recB r) = r := by
  obtain ⟨k, s, a, b, c⟩ := r
  have e0 : nth (recB ⟨k, s, a, b, c⟩) 0 = k.toNat := rfl
  have e1 : n8 (recB ⟨k, s, a, b, c⟩) 0 = s := by
    rw [n8, recB, show [k.toNat] ++ leB s 8 ++ leB a 8 ++ leB b 8 ++ leB c 8 = [k.toNat] ++ leB s 8 ++ (leB a 8 ++ leB b 8 ++ leB c 8) by simp, mid (by simp) (leB_len _ _)]
    exact nm_leB8 hf.seq
  have e2 : n8 (recB ⟨k, s, a, b, c⟩) 1 = a := by
    rw [n8, recB, show [k.toNat] ++ leB s 8 ++ leB a 8 ++ leB b 8 ++ leB c 8 = ([k.toNat] ++ leB s 8) ++ leB a 8 ++ (leB b 8 ++ leB c 8) by simp, mid (by simp [leB_len]) (leB_len _ _)]
    exact nm_leB8 hf.a
  have e3 : n8 (recB ⟨k, s, a, b, c⟩) 2 = b := by
    rw [n8, recB, show [k.toNat] ++ leB s 8 ++ leB a 8 ++ leB b 8 ++ leB c 8 = ([k.toNat] ++ leB s 8 ++ leB a 8) ++ leB b 8 ++ leB c 8 by simp, mid (by simp [leB_len]) (leB_len _ _)]
    exact nm_leB8 hf.b
  have e4 : n8 (recB ⟨k, s, a, b, c⟩) 3 = c := by
    rw [n8, recB, show [k.toNat] ++ leB s 8 ++ leB a 8 ++ leB b 8 ++ leB c 8 = ([k.toNat] ++ leB s 8 ++ leB a 8 ++ leB b 8) ++ leB c 8 ++ [] by simp, mid (by simp [leB_len]) (leB_len _ _)]
    exact nm_leB8 hf.c
  unfold recOf
  rw [e0, e1, e2, e3, e4]
  have h1 := h.1
  simp only at h1
  have : ((k.toNat : Nat) : Int) = k := by omega
  rw [this]
theorem n8_lt {b : List Nat} (hb : ∀ x ∈ b, x ≤ 255) (j : Nat) : U64 (n8 b j) := by
  have h := Cr.nm_lt ((b.drop (1 + 8 * j)).take 8) (fun x hx => hb x (List.mem_of_mem_drop (List.mem_of_mem_take hx)))
  refine Nat.lt_of_lt_of_le h (Nat.le_trans (Nat.pow_le_pow_right (by decide) (show 8 * ((b.drop (1 + 8 * j)).take 8).length ≤ 64 by simp; omega)) (by decide))
theorem recOf_fits {b : List Nat} (hb : ∀ x ∈ b, x ≤ 255) : (recOf b).Fits := by
  refine ⟨?_, n8_lt hb 0, n8_lt hb 1, n8_lt hb 2, n8_lt hb 3⟩
  have h0 : nth b 0 ≤ 255 := by
    by_cases h : 0 < b.length
    · rw [nth_of h]; exact hb _ (List.getElem_mem h)
    · rw [nth_over _ (by omega)]; omega
  simp only [recOf, I64]; omega
end Rc
end Go.Proofs.YtfmkmfjmhpgglaaDoor
