/- Layer 4 (nand): bits that are turned, plainly and in memory. -/
import Derived.Test.YtojamicakkecbabNu
namespace Go.Proofs.Ytojamicakkecbab
open Go.RowKit Go.Maps
namespace Nd
/-- A bit is turned. -/
def tb (bs : List Nat) (x : Int) : List Nat := bs.set (x.toNat / 8) (nth bs (x.toNat / 8) ^^^ (128 >>> (x.toNat % 8)))
def tbs (bs : List Nat) (l : List Int) : List Nat := l.foldl tb bs
theorem xor_u8 {a b : Nat} (ha : a ≤ 255) (hb : b ≤ 255) : bits .xor .u8 (a : Int) (b : Int) = ((a ^^^ b : Nat) : Int) := u8_xor_nat a b (by omega) (by omega)
theorem xor_byte {a b : Nat} (ha : a ≤ 255) (hb : b ≤ 255) : a ^^^ b ≤ 255 := by
  have := Nat.xor_lt_two_pow (x := a) (y := b) (n := 8) (by omega) (by omega)
  omega
theorem shr_le (k : Nat) : 128 >>> k ≤ 128 := by rw [Nat.shiftRight_eq_div_pow]; exact Nat.div_le_self _ _
theorem nth_set (l : List Nat) (i v j : Nat) : nth (l.set i v) j = if i = j ∧ j < l.length then v else nth l j := by
  simp only [nth, List.getD_eq_getElem?_getD, List.getElem?_set]
  by_cases h1 : i = j
  · subst h1
    by_cases h2 : i < l.length
    · simp [h2]
    · simp [h2]
  · simp [h1]
theorem nth_set_le {l : List Nat} (h : ∀ j, nth l j ≤ 255) {i v : Nat} (hv : v ≤ 255) : ∀ j, nth (l.set i v) j ≤ 255 := fun j => by
  rw [nth_set]
  split
  · exact hv
  · exact h j
theorem tb_len (bs : List Nat) (x : Int) : (tb bs x).length = bs.length := by simp [tb]
theorem tb_le {bs : List Nat} (h : ∀ i, nth bs i ≤ 255) (x : Int) : ∀ i, nth (tb bs x) i ≤ 255 :=
  nth_set_le h (xor_byte (h _) (Nat.le_trans (shr_le _) (by decide)))
theorem tbs_len (l : List Int) : ∀ bs : List Nat, (tbs bs l).length = bs.length := by
  induction l with
  | nil => intro bs; rfl
  | cons x l ih => intro bs; exact (ih _).trans (tb_len bs x)
theorem tbs_le (l : List Int) : ∀ {bs : List Nat}, (∀ i, nth bs i ≤ 255) → ∀ i, nth (tbs bs l) i ≤ 255 := by
  induction l with
  | nil => intro bs h; exact h
  | cons x l ih => intro bs h; exact ih (tb_le h x)
theorem nthI_of {l : List Int} {k : Nat} (h : k < l.length) : nthI l k = l[k] := by simp [nthI, h]
theorem tbs_next (bs : List Nat) (l : List Int) {k : Nat} (h : k < l.length) : tbs bs (l.take (k + 1)) = tb (tbs bs (l.take k)) (nthI l k) := by
  rw [nthI_of h]
  unfold tbs
  rw [List.take_add_one, List.getElem?_eq_getElem h, List.foldl_append]
  rfl
theorem nthF_of {l : List Flip} {k : Nat} (h : k < l.length) : nthF l k = l[k] := by simp [nthF, h]
theorem nthF_set {l : List Flip} {k : Nat} (F : Flip) (h : k < l.length) (j : Nat) : nthF (l.set k F) j = if j = k then F else nthF l j := by
  simp only [nthF, List.getD_eq_getElem?_getD, List.getElem?_set]
  by_cases h1 : k = j
  · subst h1; simp [h]
  · have h2 : ¬ j = k := fun e => h1 e.symm
    rw [if_neg h1, if_neg h2]
def Flip.dec (F : Flip) : Flip := { F with times := F.times - 1 }
def Blk.decF (k : Nat) (x : Blk) : Blk := { x with flips := x.flips.set k (nthF x.flips k).dec }
/-- Is it a read that the fault is for? -/
abbrev Flip.hit (F : Flip) (p : Nat) (n : Int) : Prop := F.page = p ∧ F.frm ≤ n ∧ F.times ≠ 0
/-- A flip of a read: what becomes of the array. -/
def St.turn (A : St) (n : Int) (d b p k : Nat) : St :=
  if (nthF (A.blk d b).flips k).hit p n then (A.upB d b (Blk.decF k)).setCnt 3 (wr (A.cnt 3 + ((nthF (A.blk d b).flips k).bits.length : Nat))) else A
/-- A flip of a read: what becomes of the bytes. -/
def turnB (F : Flip) (n : Int) (p : Nat) (bs : List Nat) : List Nat := if F.hit p n then tbs bs F.bits else bs
/-- The first k flips of a read. -/
def St.turns (A : St) (n : Int) (d b p : Nat) : Nat → St
  | 0 => A
  | k + 1 => (A.turns n d b p k).turn n d b p k
def turnsB (fs : List Flip) (n : Int) (p : Nat) (bs : List Nat) : Nat → List Nat
  | 0 => bs
  | k + 1 => turnB (nthF fs k) n p (turnsB fs n p bs k)
/-- Flips that may be. -/
def FlOk (A : St) : Prop := ∀ d b F, F ∈ (A.blk d b).flips → 0 ≤ F.times ∧ F.times ≤ 9223372036854775807 ∧ F.bits.length ≤ 9223372036854775807 ∧ ∀ i, i < F.bits.length → 0 ≤ nthI F.bits i ∧ nthI F.bits i < 8 * A.Y
theorem turnB_len (F : Flip) (n : Int) (p : Nat) (bs : List Nat) : (turnB F n p bs).length = bs.length := by
  unfold turnB; split
  · exact tbs_len _ _
  · rfl
theorem turnB_le (F : Flip) (n : Int) (p : Nat) {bs : List Nat} (h : ∀ i, nth bs i ≤ 255) : ∀ i, nth (turnB F n p bs) i ≤ 255 := by
  unfold turnB; split
  · exact tbs_le _ h
  · exact h
theorem turnsB_len (fs : List Flip) (n : Int) (p : Nat) (bs : List Nat) : ∀ k, (turnsB fs n p bs k).length = bs.length
  | 0 => rfl
  | k + 1 => (turnB_len _ _ _ _).trans (turnsB_len fs n p bs k)
theorem turnsB_le (fs : List Flip) (n : Int) (p : Nat) {bs : List Nat} (h : ∀ i, nth bs i ≤ 255) : ∀ k, ∀ i, nth (turnsB fs n p bs k) i ≤ 255
  | 0 => h
  | k + 1 => turnB_le _ _ _ (turnsB_le fs n p h k)
/-- What a turn leaves. -/
structure Turned (A A' : St) (d b : Nat) (k : Nat) : Prop where
  dims : A'.D = A.D ∧ A'.B = A.B ∧ A'.P = A.P ∧ A'.Y = A.Y ∧ A'.on = A.on ∧ A'.dead = A.dead ∧ A'.cuts = A.cuts ∧ A'.nc = A.nc
  cnt : ∀ i, i ≠ 3 → A'.cnt i = A.cnt i
  blk : ∀ i j, ¬ (i = d ∧ j = b) → A'.blk i j = A.blk i j
  own : (A'.blk d b).next = (A.blk d b).next ∧ (A'.blk d b).erases = (A.blk d b).erases ∧ (A'.blk d b).marked = (A.blk d b).marked ∧ (A'.blk d b).noP = (A.blk d b).noP ∧ (A'.blk d b).noE = (A.blk d b).noE ∧ (A'.blk d b).pages = (A.blk d b).pages
  len : (A'.blk d b).flips.length = (A.blk d b).flips.length
  rest : ∀ j, k ≤ j → nthF (A'.blk d b).flips j = nthF (A.blk d b).flips j
theorem Turned.refl (A : St) (d b k : Nat) : Turned A A d b k := ⟨⟨rfl, rfl, rfl, rfl, rfl, rfl, rfl, rfl⟩, fun _ _ => rfl, fun _ _ _ => rfl, ⟨rfl, rfl, rfl, rfl, rfl, rfl⟩, rfl, fun _ _ => rfl⟩
theorem turns_turned (A : St) (n : Int) (d b p : Nat) : ∀ k, k ≤ (A.blk d b).flips.length → Turned A (A.turns n d b p k) d b k
  | 0, _ => Turned.refl A d b 0
  | k + 1, hk => by
    have ih := turns_turned A n d b p k (by omega)
    obtain ⟨⟨e1, e2, e3, e4, e5, e6, e7, e8⟩, hc, hb, ⟨o1, o2, o3, o4, o5, o6⟩, hl, hr⟩ := ih
    unfold St.turns St.turn
    split
    · refine ⟨⟨e1, e2, e3, e4, e5, e6, e7, e8⟩, fun i hi => ?_, fun i j hij => ?_, ?_, ?_, fun j hj => ?_⟩
      · show (if i = 3 then _ else (A.turns n d b p k).cnt i) = _
        rw [if_neg hi]; exact hc i hi
      · show (if i = d ∧ j = b then _ else (A.turns n d b p k).blk i j) = _
        rw [if_neg hij]; exact hb i j hij
      · have e : (((A.turns n d b p k).upB d b (Blk.decF k)).setCnt 3 (wr ((A.turns n d b p k).cnt 3 + ((nthF ((A.turns n d b p k).blk d b).flips k).bits.length : Nat)))).blk d b = Blk.decF k ((A.turns n d b p k).blk d b) := upB_same _ d b _
        rw [e]
        exact ⟨o1, o2, o3, o4, o5, o6⟩
      · have e : (((A.turns n d b p k).upB d b (Blk.decF k)).setCnt 3 (wr ((A.turns n d b p k).cnt 3 + ((nthF ((A.turns n d b p k).blk d b).flips k).bits.length : Nat)))).blk d b = Blk.decF k ((A.turns n d b p k).blk d b) := upB_same _ d b _
        rw [e]
        simp [Blk.decF, hl]
      · have e : (((A.turns n d b p k).upB d b (Blk.decF k)).setCnt 3 (wr ((A.turns n d b p k).cnt 3 + ((nthF ((A.turns n d b p k).blk d b).flips k).bits.length : Nat)))).blk d b = Blk.decF k ((A.turns n d b p k).blk d b) := upB_same _ d b _
        rw [e, Blk.decF, nthF_set _ (by omega), if_neg (by omega)]
        exact hr j (by omega)
    · exact ⟨⟨e1, e2, e3, e4, e5, e6, e7, e8⟩, hc, hb, ⟨o1, o2, o3, o4, o5, o6⟩, hl, fun j hj => hr j (by omega)⟩
theorem mem_nthF {l : List Flip} {k : Nat} (h : k < l.length) : nthF l k ∈ l := by rw [nthF_of h]; exact List.getElem_mem h
theorem FlOk.turn {A : St} (h : FlOk A) (n : Int) {d b p k : Nat} (hk : k < (A.blk d b).flips.length) : FlOk (A.turn n d b p k) := by
  unfold St.turn
  split
  · rename_i hit
    intro i j F hF
    have e : (((A.upB d b (Blk.decF k)).setCnt 3 (wr (A.cnt 3 + ((nthF (A.blk d b).flips k).bits.length : Nat)))).blk i j) = (if i = d ∧ j = b then Blk.decF k (A.blk d b) else A.blk i j) := rfl
    rw [e] at hF
    by_cases hij : i = d ∧ j = b
    · rw [if_pos hij] at hF
      rcases List.mem_or_eq_of_mem_set hF with hF | hF
      · exact h d b F hF
      · obtain ⟨a1, a2, a3, a4⟩ := h d b _ (mem_nthF hk)
        have := hit.2.2
        rw [hF]
        exact ⟨by show 0 ≤ (nthF (A.blk d b).flips k).times - 1; omega, by show (nthF (A.blk d b).flips k).times - 1 ≤ _; omega, a3, a4⟩
    · rw [if_neg hij] at hF
      exact h i j F hF
  · exact h
theorem FlOk.turns {A : St} (h : FlOk A) (n : Int) (d b p : Nat) : ∀ k, k ≤ (A.blk d b).flips.length → FlOk (A.turns n d b p k)
  | 0, _ => h
  | k + 1, hk => (FlOk.turns h n d b p k (by omega)).turn n (by rw [(turns_turned A n d b p k (by omega)).len]; omega)
/-! ### In memory -/
theorem FlipsM.dec {w : World} {lab : Lab} {d b g cap k : Nat} {fs : List Flip} (h : FlipsM w lab d b (.slice (some ⟨g, 0, none⟩) fs.length cap) fs) (hk : k < fs.length) (x : Int) :
    FlipsM (w.setCell ⟨g, k * 4 + 2, none⟩ (num x)) lab d b (.slice (some ⟨g, 0, none⟩) fs.length cap) (fs.set k { nthF fs k with times := x }) := by
  rcases h with ⟨h, _⟩ | ⟨g', cap', cur, bv, hv, h2, h3, h4, h5, h5', h6⟩
  · rw [h] at hk; simp at hk
  · simp only [Value.slice.injEq, Option.some.injEq, Addr.mk.injEq, and_true, true_and] at hv
    obtain ⟨rfl, rfl⟩ := hv
    have h3' : w.heap[g]? = some (.cells cur.toList.toArray 87) := by simpa using h3
    refine .inr ⟨g, cap, (cur.toList.set (k * 4 + 2) (num x)).toArray, bv, by simp, h2, setCell_row h3' _, by simpa using h4, by simpa using h5, h5', fun j hj => ?_⟩
    rw [List.length_set] at hj
    obtain ⟨a1, a2, a3, a4, a5, a6⟩ := h6 j hj
    have hbg : bv j ≠ g := fun e => by rw [e, h2] at a5; cases a5
    have hbits : (nthF (fs.set k { nthF fs k with times := x }) j).bits = (nthF fs j).bits ∧ (nthF (fs.set k { nthF fs k with times := x }) j).page = (nthF fs j).page ∧ (nthF (fs.set k { nthF fs k with times := x }) j).frm = (nthF fs j).frm := by
      rw [nthF_set _ hk]
      by_cases e : j = k
      · rw [if_pos e, e]; exact ⟨rfl, rfl, rfl⟩
      · rw [if_neg e]; exact ⟨rfl, rfl, rfl⟩
    have hget : ∀ i, i ≠ k * 4 + 2 → (cur.toList.set (k * 4 + 2) (num x)).toArray[i]? = cur[i]? := fun i hi => by
      simp [Ne.symm hi]
    rw [hbits.1, hbits.2.1, hbits.2.2]
    refine ⟨by rw [hget _ (by omega)]; exact a1, by rw [hget _ (by omega)]; exact a2, ?_, by rw [hget _ (by omega)]; exact a4, a5, fun i hi => by rw [cell_of_block (setCell_else hbg _)]; exact a6 i hi⟩
    rw [nthF_set _ hk]
    by_cases e : j = k
    · subst e
      rw [if_pos rfl]
      have hlt : j * 4 + 2 < cur.size := by omega
      simp [hlt]
    · rw [if_neg e, hget _ (by omega)]; exact a3
/-- A flip as it lies. -/
structure FlipAt (w : World) (lab : Lab) (d b g k : Nat) (F : Flip) (gb : Nat) : Prop where
  lg : lab g = some (.flips d b)
  page : At w g (k * 4) (num F.page)
  frm : At w g (k * 4 + 1) (num F.frm)
  times : At w g (k * 4 + 2) (num F.times)
  sl : At w g (k * 4 + 3) (.slice (some ⟨gb, 0, none⟩) F.bits.length F.bits.length)
  lb : lab gb = some (.bits d b k)
  bits : ∀ i, i < F.bits.length → w.cell? ⟨gb, i, none⟩ = some (num (nthI F.bits i))
theorem Arr.flip {w : World} {M : Lay} {A : St} {lab : Lab} (h : Arr w M A lab) {d b k : Nat} (hd : d < A.D) (hb : b < A.B) (hk : k < (A.blk d b).flips.length) :
    ∃ g cap gb, w.cell? ⟨M.bk d, b * 7 + 6, none⟩ = some (.slice (some ⟨g, 0, none⟩) (A.blk d b).flips.length cap) ∧ FlipsM w lab d b (.slice (some ⟨g, 0, none⟩) (A.blk d b).flips.length cap) (A.blk d b).flips ∧ FlipAt w lab d b g k (nthF (A.blk d b).flips k) gb := by
  obtain ⟨v, f1, f2⟩ := (h.blk d b hd hb).flips
  have f2' := f2
  rcases f2' with ⟨e, _⟩ | ⟨g, cap, cur, bv, rfl, h2, h3, h4, h5, h5', h6⟩
  · rw [e] at hk; simp at hk
  · obtain ⟨a1, a2, a3, a4, a5, a6⟩ := h6 k hk
    exact ⟨g, cap, bv k, f1.1, f2, h2, At.of_row h3 a1, At.of_row h3 a2, At.of_row h3 a3, At.of_row h3 a4, a5, a6⟩
theorem Arr.decF {w : World} {M : Lay} {A : St} {lab : Lab} (h : Arr w M A lab) {d b g cap k : Nat} (hd : d < A.D) (hb : b < A.B) (hk : k < (A.blk d b).flips.length) (hl : lab g = some (.flips d b))
    (hv : w.cell? ⟨M.bk d, b * 7 + 6, none⟩ = some (.slice (some ⟨g, 0, none⟩) (A.blk d b).flips.length cap)) :
    Arr (w.setCell ⟨g, k * 4 + 2, none⟩ (num ((nthF (A.blk d b).flips k).times - 1))) M (A.upB d b (Blk.decF k)) lab := by
  have hx := h.blk d b hd hb
  have hgb : M.bk d ≠ g := fun e => by have := h.lbk d hd; rw [e, hl] at this; cases this
  have e0 : ∀ x r, lab x = some r → r ≠ .flips d b → (w.setCell ⟨g, k * 4 + 2, none⟩ (num ((nthF (A.blk d b).flips k).times - 1))).heap[x]? = w.heap[x]? := fun x r hr hne => setCell_else (by rintro rfl; rw [hl] at hr; simp at hr; exact hne hr.symm) _
  have eb : (w.setCell ⟨g, k * 4 + 2, none⟩ (num ((nthF (A.blk d b).flips k).times - 1))).heap[M.bk d]? = w.heap[M.bk d]? := setCell_else hgb _
  obtain ⟨pg, a1, a2, a3⟩ := hx.pages
  obtain ⟨v, f1, f2⟩ := hx.flips
  have ev : v = .slice (some ⟨g, 0, none⟩) (A.blk d b).flips.length cap := Option.some.inj (f1.1.symm.trans hv)
  subst ev
  refine h.setBlk hd hb (fun x r hr hne _ => e0 x r hr (by rintro rfl; exact hne (.inr (.inr (.inr (.inl rfl)))))) (fun o v _ hv => hv.of_heap eb) (fun _ _ hr => hr) (fun x hx => by rw [setCell_size]; exact h.lt x hx) ?_
  refine ⟨hx.next.of_heap eb, hx.erases.of_heap eb, hx.marked.of_heap eb, hx.noP.of_heap eb, hx.noE.of_heap eb, ⟨pg, a1.of_heap eb, a2, fun p hp => ?_⟩, _, f1.of_heap eb, ?_⟩
  · obtain ⟨u, u1, u2⟩ := a3 p hp
    exact ⟨u, u1.of_heap (e0 _ _ a2 (by simp)), u2.kept fun x hx => ⟨e0 _ _ hx (by simp), hx⟩⟩
  · have := f2.dec hk ((nthF (A.blk d b).flips k).times - 1)
    have hl2 : (Blk.decF k (A.blk d b)).flips.length = (A.blk d b).flips.length := by simp [Blk.decF]
    rw [← hl2] at this
    rw [← hl2]
    exact this
end Nd
end Go.Proofs.Ytojamicakkecbab
