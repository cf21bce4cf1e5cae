/- The document's own answers of layer 2 (bch): bits as bytes. -/
import Derived.Test.YtiojdoehlooibaaDoorZSb
namespace Go.Proofs.YtiojdoehlooibaaDoor
open Go.RowKit
namespace Gf
/-- 'make([]byte, n)' or like it: the world behind it, written out. -/
theorem wpList_make_byte {P : Program} (w : World) {ops : Array Oper} {rest : List Oper} {o : Oper} {a : Act} {Q : Exit → Act → World → Prop}
    (hg : o.guard = none) (l c : Operand) (t : TypeId) (hop : o.op = Op.makeSlice t l c)
    (e : TypeId) (i : TypeInfo) (h1 : P.underlying t = some (.slice e)) (h2 : P.info? e = some i) (h3 : i.zero = some (.int .u8 0)) (h4 : i.size = 1) (h5 : i.bytes = 1)
    (kl kc : IntKind) (L C : Int) (n : Nat) (hl : a.eval l = .int kl L) (hc : a.eval c = .int kc C) (hL : L = (n : Int)) (hC : C = (n : Int)) (b2 : n ≤ 281474976710656)
    (hK : wpList P ops Q rest (a.put o.dst (.slice (some ⟨w.heap.size, 0, none⟩) n n)) (w.alloc (.cells (List.replicate n (.int .u8 0)).toArray e))) :
    wpList P ops Q (o :: rest) a w := by
  refine wpList_plain hg fun K hK' => ?_
  have hr := run_make (P := P) w t e i (.int .u8 0) h1 h2 h3 kl kc n n (by omega) (Int.le_refl _) (by rw [h5]; omega) (by omega)
  simp only [Int.toNat_natCast, h4, Nat.mul_one] at hr
  have e1 : (madeCells (Value.int .u8 0).cells n) = (List.replicate n (Value.int .u8 0)).toArray := by
    apply Array.toList_inj.1
    exact (toList_madeCells_one (.int .u8 0) n)
  rw [e1] at hr
  subst hL
  subst hC
  unfold Oper.wp
  simp [execOp, hop, hl, hc, hr, Result.andThen]
  exact hK' _ _ hK
theorem Tryd.info5 : (Tryd.prog.info? 5).map (fun i => (i.zero, i.size, i.bytes)) = some (some (.int .u8 0), 1, 1) := by kernel_rfl
/-- Bytes as they lie. -/
def valsB (l : List Nat) : List Value := l.map fun (x : Nat) => .int .u8 x
theorem valsB_len (l : List Nat) : (valsB l).length = l.length := by simp [valsB]
theorem valsB_set (R : List Nat) (k v : Nat) : (valsB R).set k (.int .u8 (v : Nat)) = valsB (R.set k v) := by
  simp only [valsB, List.map_set]
theorem valsB_at {R : List Nat} {k : Nat} (h : k < R.length) : (valsB R)[k]? = some (.int .u8 (nth R k : Nat)) := by simp [valsB, h, nth]
theorem valsB_zeros (n : Nat) : List.replicate n (Value.int .u8 0) = valsB (List.replicate n 0) := by simp [valsB]
/-- Bits laid into bytes, the first i of them. -/
def packGo (l : List Nat) : Nat → List Nat
  | 0 => List.replicate ((l.length + 7) / 8) 0
  | i + 1 => if nth l i = 1 then (packGo l i).set (i / 8) (nth (packGo l i) (i / 8) ||| 128 >>> (i % 8)) else packGo l i
def bytesS (l : List Nat) : List Nat := packGo l l.length
theorem packGo_len (l : List Nat) (i : Nat) : (packGo l i).length = (l.length + 7) / 8 := by
  induction i with
  | zero => simp [packGo]
  | succ i ih => rw [packGo]; split <;> simp [ih]
theorem shr_le (k : Nat) : 128 >>> k ≤ 128 := by rw [Nat.shiftRight_eq_div_pow]; exact Nat.div_le_self _ _
theorem or_byte {a b : Nat} (ha : a ≤ 255) (hb : b ≤ 255) : a ||| b ≤ 255 := by
  have := Nat.or_lt_two_pow (x := a) (y := b) (n := 8) (by omega) (by omega)
  omega
theorem packGo_le (l : List Nat) (i : Nat) : ∀ k, nth (packGo l i) k ≤ 255 := by
  induction i with
  | zero => intro k; rw [packGo, nth_zeros]; omega
  | succ i ih =>
    intro k
    rw [packGo]
    split
    · unfold nth
      rw [List.getD_eq_getElem?_getD, List.getElem?_set]
      split
      · split
        · exact or_byte (ih _) (by have := shr_le (i % 8); omega)
        · exact Nat.zero_le _
      · rw [← List.getD_eq_getElem?_getD]; exact ih k
    · exact ih k
theorem or_u8 (a k : Nat) (ha : a ≤ 255) : bits .or .u8 (a : Int) (128 / 2 ^ k) = ((a ||| 128 >>> k : Nat) : Int) := by
  have e : ((128 : Int) / (2 : Int) ^ k) = ((128 >>> k : Nat) : Int) := by rw [Nat.shiftRight_eq_div_pow]; simp
  have hs := shr_le k
  rw [e]
  exact (bits_nat .u8 8 (by decide) (fun n h1 h2 => by
    have h3 : n < 256 := by simpa using h2
    rw [IntKind.wrap_u8]; omega) a (128 >>> k) (by omega) (by omega)).2
/-- What holds while bits are laid into bytes. -/
structure PkRel (w wr : World) (R : List Nat) : Prop where
  at_ : wr.heap[w.heap.size]? = some (.cells (valsB R).toArray 5)
  grown : w.grownBy wr none
theorem PkRel.store {w wr : World} {R : List Nat} (h : PkRel w wr R) (k v : Nat) : PkRel w (wr.setCell ⟨w.heap.size, k, none⟩ (.int .u8 (v : Nat))) (R.set k v) :=
  ⟨by
    have := setCell_row (i := k) h.at_ (.int .u8 (v : Nat))
    rw [valsB_set] at this; exact this, grownBy_setCell h.grown (.inl (Nat.le_refl _)) _⟩
theorem PkRel.drew {w wr : World} {R : List Nat} (h : PkRel w wr R) : PkRel w wr.drew R := ⟨h.at_, grownBy_drew h.grown⟩
set_option maxHeartbeats 1600000 in
set_option maxRecDepth 4000 in
theorem sbytes_ok {w : World} {b : Nat} (ao : Option Addr) (cap : Nat) (l : List Nat) (hx : Rd b w ao (ints l)) (hl : l.length ≤ 100000) :
    Calls Tryd.prog 33 #[.slice ao l.length cap] w fun e w' => e = .returned (.slice (some ⟨w.heap.size, 0, none⟩) ((l.length + 7) / 8) ((l.length + 7) / 8)) ∧ PkRel w w' (bytesS l) := by
  obtain ⟨i0, hi, hz0, hz1, hz2⟩ := info_parts Tryd.info5
  have hP0 : PkRel w (w.alloc (.cells (List.replicate ((l.length + 7) / 8) (.int .u8 0)).toArray 5)) (packGo l 0) :=
    ⟨by rw [packGo, ← valsB_zeros]; exact heap_alloc_new w _, World.grownBy_alloc _ _ none⟩
  go_enter Tryd.func33, Tryd.ntmps33
  go_wp2_with (first | (at_make; go_must (refine wpList_make_byte _ rfl _ _ 35 rfl 5 i0 Tryd.underlying35 hi hz0 hz1 hz2 .i64 .i64 _ _ ((l.length + 7) / 8) rfl rfl (by omega) (by omega) (by omega) ?_)))
  go_loopw [4] (fun c wr => ∃ i : Nat, i ≤ l.length ∧ c = num i ∧ PkRel w wr (packGo l i)) (fun c _ => l.length - (intOf c).toNat)
  case atStart => exact ⟨0, Nat.zero_le _, rfl, hP0⟩
  case round =>
    obtain ⟨i, hil, rfl, hP⟩ := hrel
    have hpl := packGo_len l i
    by_cases hlt : i < l.length
    · have b1 : (i : Int) < (l.length : Int) := by omega
      obtain ⟨g, off, rfl, -, hc⟩ := hx.resolve_left (fun e => by have := ints_len l; rw [e] at this; simp at this; omega)
      have ck : wr.cell? ⟨g, off + i, none⟩ = some (num (nth l i : Nat)) := by
        have h1 := hc i (by rw [ints_len]; exact hlt)
        rw [ints_getD] at h1
        rw [World.cell?_of_block (w := w) (a := ⟨g, off + i, none⟩) (hP.grown.block g (lt_of_cell h1) (by simp))]
        exact h1
      clear hc hP0
      by_cases h1 : nth l i = 1
      · have HP : Hid (packGo l (i + 1) = (packGo l i).set (i / 8) (nth (packGo l i) (i / 8) ||| 128 >>> (i % 8))) := by rw [packGo, if_pos h1]; rfl
        rw [h1] at ck
        clear h1
        have hle := packGo_le l i (i / 8)
        have cr : wr.cell? ⟨w.heap.size, i / 8, none⟩ = some (.int .u8 (nth (packGo l i) (i / 8) : Nat)) := by rw [cell_row hP.at_, valsB_at (by omega)]
        have zr : wr.frozen? ⟨w.heap.size, i / 8, none⟩ = false := frozen_row hP.at_
        have hN := hP.store (i / 8) (nth (packGo l i) (i / 8) ||| 128 >>> (i % 8))
        obtain ⟨A, hA⟩ : ∃ A, A = nth (packGo l i) (i / 8) := ⟨_, rfl⟩
        rw [← hA] at hle cr hN HP
        clear hA
        have HO : Hid (bits .or .u8 (A : Int) (128 / 2 ^ (i % 8)) = ((A ||| 128 >>> (i % 8) : Nat) : Int)) := or_u8 A (i % 8) hle
        go_wp2_with fail
        go_roundw
        case rel => exact ⟨i + 1, by omega, by go_num, by rw [HO.out, HP.out]; exact hN⟩
        case measure => simp [intOf]; omega
      · have h1' : (((nth l i : Nat) : Int) == 1) = false := by simp; omega
        have HP : Hid (packGo l (i + 1) = packGo l i) := by rw [packGo, if_neg h1]; rfl
        clear h1
        go_wp2_with fail
        go_roundw
        case rel => exact ⟨i + 1, by omega, by go_num, by rw [HP.out]; exact hP⟩
        case measure => simp [intOf]; omega
    · obtain rfl : i = l.length := by omega
      go_wp2_with fail
      go_ret
      exact ⟨rfl, hP⟩
end Gf
end Go.Proofs.YtiojdoehlooibaaDoor
