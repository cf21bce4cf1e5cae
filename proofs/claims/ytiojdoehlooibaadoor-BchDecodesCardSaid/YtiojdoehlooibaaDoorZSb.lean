/- The document's own answers of layer 2 (bch): R, Parity, Bits. -/
import Derived.Test.YtiojdoehlooibaaDoorZPa
import Derived.Test.YtiojdoehlooibaaDoorZRef
namespace Go.Proofs.YtiojdoehlooibaaDoor
open Go.RowKit
namespace Gf
/-- A code as a value. -/
abbrev codeV (m bytes t : Int) (g : Value) : Value := .agg #[num m, num bytes, num t, g]
set_option maxHeartbeats 400000 in
theorem sR_ok (m bytes t : Int) (ao : Option Addr) (len cap : Nat) (hl : len ≤ 1000000) (w : World) :
    Calls Tryd.prog 14 #[codeV m bytes t (.slice ao len cap)] w fun e w' => e = .returned (num ((len : Int) - 1)) ∧ w.grownBy w' none := by
  go_enter Tryd.func14, Tryd.ntmps14
  go_wp2
  go_ret
  exact ⟨rfl, World.grownBy_alloc _ _ none⟩
set_option maxHeartbeats 400000 in
theorem sParity_ok (m bytes t : Int) (ao : Option Addr) (len cap : Nat) (hl : len ≤ 1000000) (w : World) :
    Calls Tryd.prog 16 #[codeV m bytes t (.slice ao len cap)] w fun e w' => e = .returned (num (((len + 6) / 8 : Nat) : Int)) ∧ w.grownBy w' none := by
  go_enter Tryd.func16, Tryd.ntmps16
  go_wp2
  go_ret
  exact ⟨ret_int (by omega), World.grownBy_alloc _ _ none⟩
/-- Bytes that can be read. -/
def RdB (w : World) (ao : Option Addr) (bs : List Nat) : Prop :=
  (∀ i, nth bs i ≤ 255) ∧ (bs = [] ∨ ∃ g off, ao = some ⟨g, off, none⟩ ∧ ∀ i, i < bs.length → w.cell? ⟨g, off + i, none⟩ = some (.int .u8 (nth bs i : Nat)))
theorem RdB.more {w w' : World} {ao : Option Addr} {bs : List Nat} (h : RdB w ao bs) (hg : w.grownBy w' none) : RdB w' ao bs := by
  refine ⟨h.1, ?_⟩
  rcases h.2 with h | ⟨g, off, h1, h3⟩
  · exact .inl h
  · refine .inr ⟨g, off, h1, fun i hi => ?_⟩
    rw [World.cell?_of_block (w := w) (a := ⟨g, off + i, none⟩) (hg.block g (lt_of_cell (h3 i hi)) (by simp))]
    exact h3 i hi
/-- A byte's bits, the highest first. -/
def byteBits (x : Nat) : List Nat := (List.range 8).map fun j => x / 2 ^ (7 - j) % 2
def bitsS (bs : List Nat) : List Nat := bs.flatMap byteBits
theorem byteBits_len (x : Nat) : (byteBits x).length = 8 := by simp [byteBits]
theorem bitsS_snoc (bs : List Nat) {i : Nat} (hi : i < bs.length) : bitsS (bs.take (i + 1)) = bitsS (bs.take i) ++ byteBits (nth bs i) := by
  rw [take_snoc' hi, bitsS, List.flatMap_append]; simp [bitsS]
theorem bitsS_len (bs : List Nat) : (bitsS bs).length = 8 * bs.length := by
  induction bs with
  | nil => rfl
  | cons b bs ih => rw [bitsS, List.flatMap_cons, List.length_append, byteBits_len, List.length_cons, ← bitsS, ih]; omega
theorem byteBits_take {x j : Nat} (hj : j < 8) : (byteBits x).take (j + 1) = (byteBits x).take j ++ [x / 2 ^ (7 - j) % 2] := by
  rw [take_snoc' (by rw [byteBits_len]; exact hj), nth_of (by rw [byteBits_len]; exact hj)]; simp [byteBits]
/-- A row of one's own that grows, whatever was there stays. -/
structure Row (w0 wr : World) (v : Value) (S : List Nat) : Prop where
  own : wr.ownsRow w0.heap.size 3 1 v S.length (vals S)
  more : w0.grownBy wr none
theorem Row.start (w : World) : Row w w (.slice none 0 0) [] := ⟨World.ownsRow_nil _ _ _ _, World.grownBy.refl _ _⟩
theorem Row.append {w0 wr w6 : World} {v v' o : Value} {S : List Nat} {c : Nat} (h : Row w0 wr v S) (hown : w6.ownsRow w0.heap.size 3 1 v' (S.length + 1) (vals S ++ [num c])) (hgrow : (wr.alloc (.cells #[o] 3)).grownBy w6 v.ownBlock) : Row w0 w6 v' (S ++ [c]) := by
  have hsz := h.more.size
  have hsz6 := hgrow.size
  simp at hsz6
  have hob : ∀ k, v.ownBlock = some k → w0.heap.size ≤ k := fun k hk => (h.own.lt k hk).1
  refine ⟨?_, ⟨hgrow.os.trans h.more.os, hgrow.tape.trans h.more.tape, hgrow.output.trans h.more.output, by omega, fun k hk _ => ?_⟩⟩
  · have e1 : vals (S ++ [c]) = vals S ++ [num c] := by simp [vals]
    rw [e1, List.length_append]
    exact hown
  · rw [hgrow.block k (by simp; omega) (fun e => by have := hob k e.symm; omega), ← h.more.block k hk (by simp)]
    exact Below.heap_alloc _ _ _ (by omega)
theorem and_bit_val (b i : Nat) (hb : b ≤ 8191) : bits .and .i64 ((b : Int) / 2 ^ i) 1 = ((b / 2 ^ i % 2 : Nat) : Int) := by
  have e : ((b : Int) / 2 ^ i) = ((b / 2 ^ i : Nat) : Int) := by simp
  have hle : b / 2 ^ i ≤ b := Nat.div_le_self _ _
  have h := (bits_nat .i64 62 (by decide) (fun n h1 h2 => by
    have h3 : n < 4611686018427387904 := by simpa using h2
    rw [IntKind.wrap_i64]; omega) (b / 2 ^ i) 1 (by omega) (by decide)).1
  rw [e]
  have h' : bits .and .i64 ((b / 2 ^ i : Nat) : Int) 1 = ((b / 2 ^ i &&& 1 : Nat) : Int) := h
  rw [h', Nat.and_one_is_mod]
set_option maxHeartbeats 1600000 in
set_option maxRecDepth 4000 in
theorem sBits_ok {w : World} (ao : Option Addr) (cap : Nat) (bs : List Nat) (hx : RdB w ao bs) (hl : bs.length ≤ 100000) :
    Calls Tryd.prog 32 #[.slice ao bs.length cap] w fun e w' => ∃ v, e = .returned v ∧ Row w w' v (bitsS bs) := by
  obtain ⟨i0, hi, hz0, hz1, hz2⟩ := info_parts Tryd.info3
  go_enter Tryd.func32, Tryd.ntmps32
  go_wp2_with fail
  go_loopw [3, 4] (fun v c wr => ∃ i : Nat, i ≤ bs.length ∧ c = num i ∧ Row w wr v (bitsS (bs.take i))) (fun _ c _ => bs.length - (intOf c).toNat)
  case atStart => exact ⟨0, Nat.zero_le _, rfl, Row.start w⟩
  case round =>
    obtain ⟨i, hil, rfl, hR⟩ := hrel
    by_cases hlt : i < bs.length
    · have b1 : (i : Int) < (bs.length : Int) := by omega
      have hSl := bitsS_len (bs.take i)
      rw [List.length_take, Nat.min_eq_left (by omega)] at hSl
      have HS : Hid (bitsS (bs.take (i + 1)) = bitsS (bs.take i) ++ byteBits (nth bs i)) := bitsS_snoc bs hlt
      have hb := hx.1 i
      obtain ⟨g, off, rfl, hcell⟩ := hx.2.resolve_left (fun e => by rw [e] at hlt; simp at hlt)
      have hck := hcell i hlt
      have hgl := lt_of_cell hck
      clear hcell
      obtain ⟨x, hxe⟩ : ∃ x, x = nth bs i := ⟨_, rfl⟩
      rw [← hxe] at hb hck HS
      obtain ⟨S0, hS0⟩ : ∃ S0, S0 = bitsS (bs.take i) := ⟨_, rfl⟩
      rw [← hS0] at hSl hR HS
      clear hxe hS0
      have hbl := byteBits_len x
      go_wp2_with fail
      go_loopw [3, 5] (fun v c ws => ∃ j : Nat, j ≤ 8 ∧ c = num (7 - (j : Int)) ∧ Row w ws v (S0 ++ (byteBits x).take j)) (fun _ c _ => (intOf c + 1).toNat)
      case atStart => exact ⟨0, by omega, rfl, by rw [List.take_zero, List.append_nil]; exact hR⟩
      case round =>
        obtain ⟨j, hj8, rfl, hQ⟩ := hrel
        have hTl : (S0 ++ (byteBits x).take j).length = 8 * i + j := by
          rw [List.length_append, List.length_take, hbl, hSl, Nat.min_eq_left hj8]
        by_cases hjl : j < 8
        · have hj1 : (0 : Int) ≤ 7 - (j : Int) := by omega
          have ck : wr.cell? ⟨g, off + i, none⟩ = some (.int .u8 (x : Nat)) := by
            rw [World.cell?_of_block (w := w) (a := ⟨g, off + i, none⟩) (hQ.more.block g hgl (by simp))]
            exact hck
          have ha := and_bit_val x (7 - j) (by omega)
          have HT : Hid ((byteBits x).take (j + 1) = (byteBits x).take j ++ [x / 2 ^ (7 - j) % 2]) := byteBits_take hjl
          obtain ⟨S1, hS1⟩ : ∃ S1, S1 = S0 ++ (byteBits x).take j := ⟨_, rfl⟩
          have HS1 : Hid (S1 = S0 ++ (byteBits x).take j) := hS1
          rw [← hS1] at hTl hQ
          clear hS1
          have HN : Hid (((x / 2 ^ (7 - j) % 2 : Nat) : Int) = (x : Int) / 2 ^ (7 - j) % 2) := by simp [Hid]
          go_wp2_with (first | (at_builtin; refine wpList_append_own _ rfl _ _ 27 rfl w.heap.size 3 i0 (.int .i64 0) 1 8 Tryd.underlying27 hi hz0 hz1 hz2 rfl (by decide) _ _ _ rfl (hQ.own.alloc _) ⟨wr.heap.size, 0, none⟩ 1 1 [.int .i64 ((x : Int) / 2 ^ (7 - j) % 2)] rfl rfl ?c1 ?c2 ?c3 ?c4 ?c5 ?_))
          case c1 => exact cell_one_new _ _ _
          case c2 => intro u hu; simp at hu; subst hu; rfl
          case c3 => unfold maxLen; omega
          case c4 => omega
          case c5 => have := hQ.more.size; simp; omega
          intro v' w6 hown hgrow _
          rw [← HN.out, ← hTl] at hown
          have hA := hQ.append hown hgrow
          have HA : Hid (S1 ++ [x / 2 ^ (7 - j) % 2] = S0 ++ (byteBits x).take (j + 1)) := by
            rw [HS1.out, HT.out, List.append_assoc]; rfl
          rw [HA.out] at hA
          clear hown hgrow hQ
          go_wp2_with fail
          go_roundw
          case rel => exact ⟨j + 1, by omega, by go_num, hA⟩
          case measure => simp [intOf]; omega
        · obtain rfl : j = 8 := by omega
          have HE : Hid (S0 ++ (byteBits x).take 8 = bitsS (bs.take (i + 1))) := by
            rw [HS.out, List.take_of_length_le (by omega)]; rfl
          rw [HE.out] at hQ
          go_wp2_with fail
          go_roundw
          case rel => exact ⟨i + 1, by omega, by go_num, hQ⟩
          case measure => simp [intOf]; omega
    · obtain rfl : i = bs.length := by omega
      have HE : Hid (bitsS (bs.take bs.length) = bitsS bs) := by rw [List.take_length]; rfl
      rw [HE.out] at hR
      go_wp2_with fail
      go_ret
      exact ⟨_, rfl, hR⟩
end Gf
end Go.Proofs.YtiojdoehlooibaaDoor
