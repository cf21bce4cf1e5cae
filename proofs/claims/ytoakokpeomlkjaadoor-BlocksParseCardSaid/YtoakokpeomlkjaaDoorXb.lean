/- Worlds of layer 3 (crc): bytes that can be read, bytes of one's own, the table; More, Sum. -/
import Derived.Test.YtoakokpeomlkjaaDoorXa
import Derived.WalkKit
import Derived.WalkSpells
import Derived.WalkLawsBesides
import Derived.Laws.CopyOwn
import Derived.Laws.BitsAllLaws
import Derived.Laws.BytesArg
import Derived.Deep.QuietTactic
import Derived.BigQuiet
import Derived.BigRegion
import Derived.Deep.RegionWith
namespace Go.Proofs.YtoakokpeomlkjaaDoor
open Go.RowKit
namespace Cr
abbrev num (n : Int) : Value := .int .i64 n
abbrev q32 (n : Nat) : Value := .int .u32 n
/-- The table lies where the program's text lays it. -/
def Glob (w : World) : Prop := ∀ i, i < 16 → w.cell? ⟨0, i, none⟩ = some (.int .u32 (stn 4 i : Nat))
theorem ret_int {k : IntKind} {a b : Int} (h : a = b) : Ending.returned (.int k a) = .returned (.int k b) := by rw [h]
theorem ret_bool {a b : Bool} (h : a = b) : Ending.returned (.bool a) = .returned (.bool b) := by rw [h]
theorem ret_slice2 {a : Option Addr} {l l' c c' : Nat} (h : l = l') (h' : c = c') : Ending.returned (.slice a l c) = .returned (.slice a l' c') := by rw [h, h']
theorem addr_add' (g off i : Nat) : (⟨g, off, none⟩ : Addr).add i = ⟨g, off + i, none⟩ := by unfold Addr.add; split <;> simp_all
theorem grownBy_trans {a b c : World} {r : Option Nat} (h : a.grownBy b r) (k : b.grownBy c r) : a.grownBy c r :=
  ⟨k.os.trans h.os, k.tape.trans h.tape, k.output.trans h.output, Nat.le_trans h.size k.size, fun i hi hr => (k.block i (Nat.lt_of_lt_of_le hi h.size) hr).trans (h.block i hi hr)⟩
theorem grownBy_drew {a b : World} {r : Option Nat} (h : a.grownBy b r) : a.grownBy b.drew r := ⟨h.os, h.tape, h.output, h.size, h.block⟩
theorem grownBy_drewN {a b : World} {r : Option Nat} (h : a.grownBy b r) (n : Nat) : a.grownBy (b.drewN n) r := ⟨h.os, h.tape, h.output, h.size, h.block⟩
theorem lt_of_heap {w : World} {b : Nat} {o : Obj} (h : w.heap[b]? = some o) : b < w.heap.size := (Array.getElem?_eq_some_iff.1 h).1
theorem lt_of_cell {w : World} {b o : Nat} {v : Value} (h : w.cell? ⟨b, o, none⟩ = some v) : b < w.heap.size := World.block_lt_of_cell? w ⟨b, o, none⟩ h
theorem heap_alloc_at {w : World} {n : Nat} (o : Obj) (h : n = w.heap.size) : (w.alloc o).heap[n]? = some o := by rw [h]; exact heap_alloc_new w o
theorem Glob.more {w w' : World} (h : Glob w) (hg : w.grownBy w' none) : Glob w' := fun i hi => by
  rw [World.cell?_of_block (w := w) (a := ⟨0, i, none⟩) (hg.block 0 (lt_of_cell (h i hi)) (by simp))]; exact h i hi
theorem Glob.pos {w : World} (h : Glob w) : 0 < w.heap.size := lt_of_cell (h 0 (by decide))
/-- The number at a place; 0 where there is none. -/
def nth (l : List Nat) (k : Nat) : Nat := l.getD k 0
def nthI (l : List Int) (k : Nat) : Int := l.getD k 0
theorem nth_of {l : List Nat} {k : Nat} (h : k < l.length) : nth l k = l[k] := by simp [nth, h]
theorem nth_over (l : List Nat) {k : Nat} (h : l.length ≤ k) : nth l k = 0 := by simp [nth, h]
theorem take_snoc {l : List Nat} {k : Nat} (h : k < l.length) : l.take (k + 1) = l.take k ++ [nth l k] := by
  rw [nth_of h, List.take_append_getElem h]
def ints (xs : List Nat) : List Int := xs.map fun n : Nat => (n : Int)
theorem ints_len (xs : List Nat) : (ints xs).length = xs.length := by simp [ints]
theorem ints_getD (xs : List Nat) (i : Nat) : nthI (ints xs) i = ((nth xs i : Nat) : Int) := by
  simp only [ints, nth, nthI, List.getD_eq_getElem?_getD, List.getElem?_map]
  cases xs[i]? <;> rfl
/-- Bytes that can be read. -/
def RdB (w : World) (ao : Option Addr) (bs : List Nat) : Prop :=
  (∀ i, nth bs i ≤ 255) ∧ (bs = [] ∨ ∃ g off, ao = some ⟨g, off, none⟩ ∧ ∀ i, i < bs.length → w.cell? ⟨g, off + i, none⟩ = some (.int .u8 (nth bs i : Nat)))
theorem RdB.more {w w' : World} {ao : Option Addr} {bs : List Nat} (h : RdB w ao bs) (hg : w.grownBy w' none) : RdB w' ao bs := by
  refine ⟨h.1, ?_⟩
  rcases h.2 with h | ⟨g, off, h1, h3⟩
  · exact .inl h
  · refine .inr ⟨g, off, h1, fun i hi => ?_⟩
    rw [World.cell?_of_block (w := w) (a := ⟨g, off + i, none⟩) (hg.block g (lt_of_cell (h3 i hi)) (by simp))]
    exact h3 i hi
theorem mem_le {bs : List Nat} (h : ∀ i, nth bs i ≤ 255) : ∀ x ∈ bs, x ≤ 255 := fun x hx => by
  obtain ⟨i, hi, rfl⟩ := List.getElem_of_mem hx
  have := h i
  rwa [nth_of hi] at this
theorem RdB.le {w : World} {ao : Option Addr} {bs : List Nat} (h : RdB w ao bs) : ∀ x ∈ bs, x ≤ 255 := mem_le h.1
/-- Bytes as they lie. -/
def valsB (l : List Nat) : List Value := l.map fun (x : Nat) => .int .u8 x
theorem valsB_len (l : List Nat) : (valsB l).length = l.length := by simp [valsB]
theorem valsB_set (R : List Nat) (k v : Nat) : (valsB R).set k (.int .u8 (v : Nat)) = valsB (R.set k v) := by
  simp only [valsB, List.map_set]
theorem valsB_at {R : List Nat} {k : Nat} (h : k < R.length) : (valsB R)[k]? = some (.int .u8 (nth R k : Nat)) := by simp [valsB, h, nth]
theorem valsB_zeros (n : Nat) : List.replicate n (Value.int .u8 0) = valsB (List.replicate n 0) := by simp [valsB]
theorem valsB_one (l : List Nat) : ∀ u ∈ valsB l, u.oneCell' = true := fun u hu => by
  simp [valsB] at hu
  obtain ⟨x, _, rfl⟩ := hu
  rfl
theorem setCell_row {w : World} {g i : Nat} {L : List Value} {t : TypeId} (h : w.heap[g]? = some (.cells L.toArray t)) (v : Value) : (w.setCell ⟨g, i, none⟩ v).heap[g]? = some (.cells (L.set i v).toArray t) := by
  simp [World.setCell, Array.getElem?_modify, h]
theorem setCell_else {w : World} {g i j : Nat} (hne : j ≠ g) (v : Value) : (w.setCell ⟨g, i, none⟩ v).heap[j]? = w.heap[j]? := Below.heap_setCell w ⟨g, i, none⟩ v j hne
theorem cell_row {w : World} {g i : Nat} {L : List Value} {t : TypeId} (h : w.heap[g]? = some (.cells L.toArray t)) : w.cell? ⟨g, i, none⟩ = L[i]? := by
  simp [World.cell?, h]
theorem frozen_row {w : World} {g i : Nat} {L : List Value} {t : TypeId} (h : w.heap[g]? = some (.cells L.toArray t)) : w.frozen? ⟨g, i, none⟩ = false := by
  simp [World.frozen?, h]
theorem grownBy_setCell {w w' : World} {r : Option Nat} (h : w.grownBy w' r) {g i : Nat} (hg : w.heap.size ≤ g ∨ r = some g) (v : Value) : w.grownBy (w'.setCell ⟨g, i, none⟩ v) r :=
  ⟨h.os, h.tape, h.output, by have := h.size; simp [World.setCell]; omega, fun k hk hne => by
    rw [setCell_else (by rintro rfl; rcases hg with hg | hg; omega; exact hne hg.symm)]; exact h.block k hk hne⟩
theorem nth_set_le {bs : List Nat} (h : ∀ i, nth bs i ≤ 255) (k : Nat) {v : Nat} (hv : v ≤ 255) : ∀ i, nth (bs.set k v) i ≤ 255 := fun i => by
  unfold nth
  rw [List.getD_eq_getElem?_getD, List.getElem?_set]
  split
  · split
    · exact hv
    · exact Nat.zero_le _
  · rw [← List.getD_eq_getElem?_getD]; exact h i
/-- A row of bytes of one's own, with more behind it. -/
structure OwnB (w : World) (g : Nat) (bs : List Nat) (T : List Value) : Prop where
  at_ : w.heap[g]? = some (.cells (valsB bs ++ T).toArray 5)
  le : ∀ i, nth bs i ≤ 255
theorem OwnB.lt {w : World} {g : Nat} {bs : List Nat} {T : List Value} (h : OwnB w g bs T) : g < w.heap.size := lt_of_heap h.at_
theorem OwnB.more {w w' : World} {g : Nat} {bs : List Nat} {T : List Value} (h : OwnB w g bs T) (hg : w.grownBy w' none) : OwnB w' g bs T :=
  ⟨by rw [hg.block g h.lt (by simp)]; exact h.at_, h.le⟩
theorem OwnB.cell {w : World} {g : Nat} {bs : List Nat} {T : List Value} (h : OwnB w g bs T) {k : Nat} (hk : k < bs.length) : w.cell? ⟨g, k, none⟩ = some (.int .u8 (nth bs k : Nat)) := by
  rw [cell_row h.at_, List.getElem?_append_left (by rw [valsB_len]; exact hk), valsB_at hk]
theorem OwnB.frozen {w : World} {g : Nat} {bs : List Nat} {T : List Value} (h : OwnB w g bs T) (k : Nat) : w.frozen? ⟨g, k, none⟩ = false := frozen_row h.at_
theorem OwnB.rdB {w : World} {g : Nat} {bs : List Nat} {T : List Value} (h : OwnB w g bs T) : RdB w (some ⟨g, 0, none⟩) bs :=
  ⟨h.le, .inr ⟨g, 0, rfl, fun i hi => by rw [Nat.zero_add]; exact h.cell hi⟩⟩
theorem OwnB.store {w : World} {g : Nat} {bs : List Nat} {T : List Value} (h : OwnB w g bs T) {k v : Nat} (hk : k < bs.length) (hv : v ≤ 255) : OwnB (w.setCell ⟨g, k, none⟩ (.int .u8 (v : Nat))) g (bs.set k v) T :=
  ⟨by
    have := setCell_row (i := k) h.at_ (.int .u8 (v : Nat))
    rw [List.set_append_left _ _ (by rw [valsB_len]; exact hk), valsB_set] at this
    exact this, nth_set_le h.le k hv⟩
/-! ### Go's own operations on numbers of 32 bits, as plain ones -/
def W32 (n : Nat) : Prop := n < 4294967296
theorem xor_u32 {a b : Nat} (ha : W32 a) (hb : W32 b) : bits .xor .u32 (a : Int) (b : Int) = ((a ^^^ b : Nat) : Int) := u32_xor_nat a b ha hb
theorem and15_u32 {a : Nat} (ha : W32 a) : bits .and .u32 (a : Int) 15 = ((a % 16 : Nat) : Int) := by
  rw [show (15 : Int) = ((15 : Nat) : Int) from rfl, u32_and_nat a 15 ha (by decide), nat_mask4]
theorem and1_u32 {a : Nat} (ha : W32 a) : bits .and .u32 (a : Int) 1 = ((a % 2 : Nat) : Int) := by
  rw [show (1 : Int) = ((1 : Nat) : Int) from rfl, u32_and_nat a 1 ha (by decide), nat_mask1]
theorem reg_snoc (r : Nat) {bs : List Nat} {k : Nat} (h : k < bs.length) : reg r (bs.take (k + 1)) = stn 8 (reg r (bs.take k) ^^^ nth bs k) := by
  rw [take_snoc h, reg_app, reg_one]
theorem reg_w {r : Nat} {bs : List Nat} (hr : W32 r) (hb : ∀ x ∈ bs, x ≤ 255) (k : Nat) : W32 (reg r (bs.take k)) := reg_lt hr (fun x hx => hb x (List.mem_of_mem_take hx))
theorem w_xor {a b : Nat} (ha : W32 a) (hb : W32 b) : W32 (a ^^^ b) := xor32 ha hb
theorem w_byte {x : Nat} (h : x ≤ 255) : W32 x := by unfold W32; omega
theorem w_stn (n : Nat) {x : Nat} (h : W32 x) : W32 (stn n x) := stn_lt n h
theorem w_FF : W32 FF := by unfold W32 FF; decide
theorem not_u32 {a : Nat} (ha : W32 a) : bits .xor .u32 4294967295 (a : Int) = ((a ^^^ FF : Nat) : Int) := by
  rw [Nat.xor_comm]; exact u32_xor_nat FF a w_FF ha
theorem w_div {x : Nat} (h : W32 x) (k : Nat) : W32 (x / k) := Nat.lt_of_le_of_lt (Nat.div_le_self _ _) h
set_option maxHeartbeats 1600000 in
theorem more_ok {w : World} (hG : Glob w) (s : Nat) (hs : W32 s) (ao : Option Addr) (cap : Nat) (bs : List Nat) (hx : RdB w ao bs) (hl : bs.length ≤ 1000000000000000) :
    Calls Tryd.prog 48 #[q32 s, .slice ao bs.length cap] w fun e w' => e = .returned (q32 (more s bs)) ∧ w' = w := by
  have hsg : IntKind.u32.signed = false := rfl
  have hmx : IntKind.u32.max = 4294967295 := rfl
  have hnt := not_u32 hs
  go_enter Tryd.func48, Tryd.ntmps48
  go_wp2_with fail
  go_loopw [12, 5] (fun i r wr => wr = w ∧ ∃ k : Nat, k ≤ bs.length ∧ i = num k ∧ r = q32 (reg (s ^^^ FF) (bs.take k))) (fun i _ _ => bs.length - (intOf i).toNat)
  case atStart => exact ⟨rfl, 0, Nat.zero_le _, rfl, rfl⟩
  case round =>
    clear hnt
    obtain ⟨rfl, k, hk, rfl, rfl⟩ := hrel
    have hR := reg_w (w_xor hs w_FF) hx.le k
    by_cases hlt : k < bs.length
    · have b1 : (k : Int) < (bs.length : Int) := by omega
      have hbk := hx.1 k
      obtain ⟨gd, od, rfl, hcd⟩ := hx.2.resolve_left (fun e => by rw [e] at hlt; simp at hlt)
      have ck := hcd k hlt
      have hn := reg_snoc (s ^^^ FF) hlt
      have e1 := xor_u32 hR (w_byte hbk)
      have hA := w_xor hR (w_byte hbk)
      generalize reg (s ^^^ FF) (bs.take k) = R at hR e1 hA hn ⊢
      generalize nth bs k = X at hbk ck e1 hA hn
      generalize R ^^^ X = A at e1 hA hn
      have e2 := and15_u32 hA
      have b2 : A % 16 < 16 := by omega
      have c2 := hG (A % 16) b2
      have e3 : bits .xor .u32 ((A : Int) / 16) ((stn 4 (A % 16) : Nat) : Int) = ((stn 4 A : Nat) : Int) := by
        rw [stn4 A, ← xor_u32 (w_div hA 16) (w_stn 4 (w_byte (by omega)))]; simp
      have hB := w_stn 4 hA
      have hn2 : stn 8 A = stn 4 (stn 4 A) := stn_add 4 4 A
      rw [hn2] at hn
      clear hn2
      generalize stn 4 (A % 16) = T at c2 e3
      generalize A % 16 = I at e2 b2 c2
      generalize stn 4 A = B at e3 hB hn
      have e4 := and15_u32 hB
      have b4 : B % 16 < 16 := by omega
      have c4 := hG (B % 16) b4
      have e5 : bits .xor .u32 ((B : Int) / 16) ((stn 4 (B % 16) : Nat) : Int) = ((stn 4 B : Nat) : Int) := by
        rw [stn4 B, ← xor_u32 (w_div hB 16) (w_stn 4 (w_byte (by omega)))]; simp
      generalize stn 4 (B % 16) = T' at c4 e5
      generalize B % 16 = I' at e4 b4 c4
      generalize stn 4 B = C at e5 hn
      have HN : Hid _ := hn
      clear hcd hR hA hB hG hn
      go_wp2
      go_roundw
      case rel => exact ⟨trivial, k + 1, by omega, by go_num, by rw [HN.out]⟩
      case measure => simp [intOf]; omega
    · have hke : k = bs.length := by omega
      have b1 : ¬ (k : Int) < (bs.length : Int) := by omega
      have HN : Hid (bits .xor .u32 4294967295 ((reg (s ^^^ FF) (bs.take k) : Nat) : Int) = ((more s bs : Nat) : Int)) := by
        rw [Hid, not_u32 hR, hke, List.take_length]; rfl
      clear hke hR
      go_wp2
      go_ret
      exact ⟨ret_int HN.out, rfl⟩
set_option maxHeartbeats 400000 in
theorem sum_ok {w : World} (hG : Glob w) (ao : Option Addr) (cap : Nat) (bs : List Nat) (hx : RdB w ao bs) (hl : bs.length ≤ 1000000000000000) :
    Calls Tryd.prog 46 #[.slice ao bs.length cap] w fun e w' => e = .returned (q32 (crc bs)) ∧ w' = w := by
  have h := more_ok hG 0 (by unfold W32; decide) ao cap bs hx hl
  go_enter Tryd.func46, Tryd.ntmps46
  go_wp2_with fail
  refine h.mono ?_
  rintro e w ⟨rfl, rfl⟩
  go_wp2
  go_ret
  exact ⟨rfl, rfl⟩
end Cr
end Go.Proofs.YtoakokpeomlkjaaDoor
