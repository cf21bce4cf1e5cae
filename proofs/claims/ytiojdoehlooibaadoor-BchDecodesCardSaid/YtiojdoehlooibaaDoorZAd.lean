/- Sums of data have sums of parities. -/
import Derived.Test.YtiojdoehlooibaaDoorZDg
namespace Go.Proofs.YtiojdoehlooibaaDoor
namespace Gf
theorem xl_append {a b c d : List Nat} (h : a.length = b.length) : xl (a ++ c) (b ++ d) = xl a b ++ xl c d := by
  unfold xl
  rw [List.zipWith_append h]
theorem par_xl {m t : Nat} (h : Em m) {A B : List Nat} (hA : Bits A) (hB : Bits B) (hl : A.length = B.length) : par m t (xl A B) = xl (par m t A) (par m t B) := by
  have hpl : (par m t A).length = (par m t B).length := by rw [par_len, par_len]
  refine (par_one h t (bits_xl hl hA hB) (by rw [xl_len hpl, par_len]) ?_).symm
  rw [← xl_append hl, xl_rev (by simp [hl, hpl])]
  exact isW_xl h (by simp [hl, hpl]) (par_word h t hA) (par_word h t hB)
theorem bytes_xl {P Q : List Nat} (hP : Bits P) (hQ : Bits Q) (hl : P.length = Q.length) (i : Nat) : nth (bytesS (xl P Q)) i = nth (bytesS P) i ^^^ nth (bytesS Q) i := by
  have h1 := bytesS_le P i
  have h2 := bytesS_le Q i
  have hx := Nat.xor_lt_two_pow (x := nth (bytesS P) i) (y := nth (bytesS Q) i) (n := 8) (by omega) (by omega)
  refine byte_eq (bytesS_le _ i) (by omega) fun j hj => ?_
  have e1 := nth_bits_bytes hP (8 * i + j)
  have e2 := nth_bits_bytes hQ (8 * i + j)
  have e3 := nth_bits_bytes (bits_xl hl hP hQ) (8 * i + j)
  rw [nth_bitsS, show (8 * i + j) / 8 = i by omega, show (8 * i + j) % 8 = j by omega, testBit_val] at e1 e2 e3
  rw [testBit_val, testBit_val, Nat.testBit_xor]
  rw [nth_xl hl, ← e1, ← e2] at e3
  rw [e3]
  cases (nth (bytesS P) i).testBit (7 - j) <;> cases (nth (bytesS Q) i).testBit (7 - j) <;> rfl
theorem bits_xorB {a b : List Nat} (hl : a.length = b.length) : bitsS (xl a b) = xl (bitsS a) (bitsS b) := by
  have hll : (bitsS a).length = (bitsS b).length := by rw [bitsS_len, bitsS_len, hl]
  apply List.ext_getElem
  · rw [bitsS_len, xl_len hl, xl_len hll, bitsS_len]
  · intro i h1 h2
    have e : nth (bitsS (xl a b)) i = nth (xl (bitsS a) (bitsS b)) i := by
      rw [nth_xl hll, nth_bitsS, nth_bitsS, nth_bitsS, nth_xl hl, testBit_val, testBit_val, testBit_val, Nat.testBit_xor]
      cases (nth a (i / 8)).testBit (7 - i % 8) <;> cases (nth b (i / 8)).testBit (7 - i % 8) <;> rfl
    rwa [nth_of h1, nth_of h2] at e
/-- The parity's bytes of a sum. -/
theorem parB_xl {m t : Nat} (h : Em m) {a b : List Nat} (hl : a.length = b.length) (i : Nat) : nth (parB m t (xl a b)) i = nth (parB m t a) i ^^^ nth (parB m t b) i := by
  show nth (bytesS (par m t (bitsS (xl a b)))) i = _
  rw [bits_xorB hl, par_xl h (bits_bitsS a) (bits_bitsS b) (by rw [bitsS_len, bitsS_len, hl])]
  exact bytes_xl (bits_par h t (bits_bitsS a)) (bits_par h t (bits_bitsS b)) (by rw [par_len, par_len]) i
end Gf
end Go.Proofs.YtiojdoehlooibaaDoor
