/- turn: bits are turned back where the locator tells. -/
import Derived.Test.YtiojdoehlooibaaDoorZDe
import Derived.Test.YtiojdoehlooibaaDoorZDd
import Derived.BigRegion
import Derived.WalkMore
import Derived.BigQuiet
namespace Go.Proofs.YtiojdoehlooibaaDoor
open Go.RowKit
namespace Gf
/-- Bits of bytes turned where f says, the first k of them looked at. -/
def tb (f : Nat → Bool) (bs : List Nat) : Nat → List Nat
  | 0 => bs
  | k + 1 => if f k = true then (tb f bs k).set (k / 8) (nth (tb f bs k) (k / 8) ^^^ 128 >>> (k % 8)) else tb f bs k
theorem tb_len (f : Nat → Bool) (bs : List Nat) (k : Nat) : (tb f bs k).length = bs.length := by
  induction k with
  | zero => rfl
  | succ k ih => rw [tb]; split <;> simp [ih]
theorem xor_byte {a b : Nat} (ha : a ≤ 255) (hb : b ≤ 255) : a ^^^ b ≤ 255 := by
  have := Nat.xor_lt_two_pow (x := a) (y := b) (n := 8) (by omega) (by omega)
  omega
theorem tb_le {f : Nat → Bool} {bs : List Nat} (h : ∀ i, nth bs i ≤ 255) (k : Nat) : ∀ i, nth (tb f bs k) i ≤ 255 := by
  induction k with
  | zero => exact h
  | succ k ih =>
    rw [tb]
    split
    · exact nth_set_le ih _ (xor_byte (ih _) (by have := shr_le (k % 8); omega))
    · exact ih
/-- The bits behind that. -/
theorem nth_tb (f : Nat → Bool) (bs : List Nat) (j : Nat) : ∀ k, k ≤ 8 * bs.length → nth (bitsS (tb f bs k)) j = nth (bitsS bs) j ^^^ (if j < k ∧ f j = true then 1 else 0)
  | 0, _ => by rw [tb, if_neg (by omega), Nat.xor_zero]
  | k + 1, hk => by
    have ih := nth_tb f bs j k (by omega)
    rw [tb]
    by_cases h : f k = true
    · rw [if_pos h, nth_bitsS, nth_set _ _ _ _ (by rw [tb_len]; omega)]
      rw [nth_bitsS] at ih
      by_cases e : j / 8 = k / 8
      · rw [if_pos e, testBit_val, Nat.testBit_xor, shr128 (by omega), Nat.testBit_two_pow]
        rw [testBit_val, e] at ih
        by_cases ek : j = k
        · subst ek
          rw [if_neg (show ¬ (j < j ∧ f j = true) by omega), Nat.xor_zero] at ih
          rw [if_pos (show j < j + 1 ∧ f j = true from ⟨by omega, h⟩), ← ih]
          cases (nth (tb f bs j) (j / 8)).testBit (7 - j % 8) <;> simp
        · rw [decide_eq_false (show ¬ 7 - k % 8 = 7 - j % 8 by omega), Bool.xor_false, ih]
          by_cases a : j < k ∧ f j = true
          · rw [if_pos a, if_pos ⟨by omega, a.2⟩]
          · rw [if_neg a, if_neg fun c => a ⟨by omega, c.2⟩]
      · rw [if_neg e, ih]
        have hne : j ≠ k := fun h => e (by rw [h])
        by_cases a : j < k ∧ f j = true
        · rw [if_pos a, if_pos ⟨by omega, a.2⟩]
        · rw [if_neg a, if_neg fun c => a ⟨by omega, c.2⟩]
    · rw [if_neg h, ih]
      by_cases a : j < k ∧ f j = true
      · rw [if_pos a, if_pos ⟨by omega, a.2⟩]
      · rw [if_neg a, if_neg fun c => a ⟨by
          have : j ≠ k := fun e => h (e ▸ c.2)
          omega, c.2⟩]
/-- How many of the first k. -/
def cn (f : Nat → Bool) : Nat → Nat
  | 0 => 0
  | k + 1 => cn f k + if f k = true then 1 else 0
/-- Where the locator is 0: the J-th place from the highest power down. -/
def rt (m N : Nat) (C : List Nat) : Nat → Bool := fun J => ev m (xp m (-((N : Int) - (J : Int) - 1))) C == 0
/-- What holds while places are looked at: the first J of them. -/
structure TS (m N bytes : Nat) (C ds ps : List Nat) (Td Tp : List Value) (b c t gd gp : Nat) (w0 wr : World) (J : Nat) : Prop where
  le : J ≤ N
  dat : OwnB b wr gd (tb (rt m N C) ds (min J (8 * bytes))) Td
  par : OwnB b wr gp (tb (fun k => rt m N C (8 * bytes + k)) ps (J - 8 * bytes)) Tp
  cod : Cod wr c b m bytes t
  since : Since b w0 wr
/-- Which of the two rows. -/
structure Part (bytes pl gd gp : Nat) (cd cp : Nat) (gq len base cap : Nat) : Prop where
  is : (gq = gd ∧ len = bytes ∧ base = 0 ∧ cap = cd) ∨ (gq = gp ∧ len = pl ∧ base = 8 * bytes ∧ cap = cp)
theorem TS.step {m N bytes : Nat} {C ds ps : List Nat} {Td Tp : List Value} {b c t gd gp : Nat} {w0 wr : World} {J : Nat} (h : TS m N bytes C ds ps Td Tp b c t gd gp w0 wr J) {w' : World} (hs : Step b wr w') (hF : Fld w' b m) : TS m N bytes C ds ps Td Tp b c t gd gp w0 w' J :=
  ⟨h.le, h.dat.step hs, h.par.step hs, h.cod.step hs hF, h.since.step hs⟩
theorem TS.skip {m N bytes : Nat} {C ds ps : List Nat} {Td Tp : List Value} {b c t gd gp : Nat} {w0 wr : World} {J : Nat} (h : TS m N bytes C ds ps Td Tp b c t gd gp w0 wr J) (hJ : J < N) (hn : rt m N C J ≠ true) : TS m N bytes C ds ps Td Tp b c t gd gp w0 wr (J + 1) := by
  refine ⟨by omega, ?_, ?_, h.cod, h.since⟩
  · by_cases a : J < 8 * bytes
    · rw [show min (J + 1) (8 * bytes) = J + 1 by omega, tb, if_neg hn]
      have := h.dat
      rwa [show min J (8 * bytes) = J by omega] at this
    · rw [show min (J + 1) (8 * bytes) = min J (8 * bytes) by omega]; exact h.dat
  · by_cases a : J < 8 * bytes
    · rw [show J + 1 - 8 * bytes = J - 8 * bytes by omega]; exact h.par
    · rw [show J + 1 - 8 * bytes = J - 8 * bytes + 1 by omega, tb, if_neg (by rw [show 8 * bytes + (J - 8 * bytes) = J by omega]; exact hn)]; exact h.par
theorem TS.byte {m N bytes : Nat} {C ds ps : List Nat} {Td Tp : List Value} {b c t gd gp : Nat} {w0 wr : World} {J : Nat} (h : TS m N bytes C ds ps Td Tp b c t gd gp w0 wr J) (hJ : J < N) {pl cd cp gq len base cap i k : Nat} (hP : Part bytes pl gd gp cd cp gq len base cap) (hds : ds.length = bytes) (hps : ps.length = pl) (hne : gd ≠ gp) (hgd : w0.heap.size ≤ gd) (hgp : w0.heap.size ≤ gp) (hcd : c ≠ gd) (hcp : c ≠ gp) (hi : i < len) (hk : k < 8) (hJe : J = base + 8 * i + k) :
    ∃ x, x ≤ 255 ∧ wr.cell? ⟨gq, i, none⟩ = some (.int .u8 (x : Nat)) ∧ wr.frozen? ⟨gq, i, none⟩ = false ∧ (rt m N C J = true → TS m N bytes C ds ps Td Tp b c t gd gp w0 (wr.setCell ⟨gq, i, none⟩ (.int .u8 (x ^^^ 128 >>> k : Nat))) (J + 1)) := by
  have hmk := shr_le k
  rcases hP.is with ⟨rfl, rfl, rfl, rfl⟩ | ⟨rfl, rfl, rfl, rfl⟩
  · have hd := h.dat
    rw [show min J (8 * len) = J by omega] at hd
    have hil : i < (tb (rt m N C) ds J).length := by rw [tb_len]; omega
    refine ⟨_, hd.le i, hd.cell hil, hd.frozen i, fun hr => ⟨by omega, ?_, ?_, ?_, h.since.store hgd hd.free.1 _ _⟩⟩
    · rw [show min (J + 1) (8 * len) = J + 1 by omega, tb, if_pos hr, show J / 8 = i by omega, show J % 8 = k by omega]
      exact hd.store hil (xor_byte (hd.le i) (by omega))
    · rw [show J + 1 - 8 * len = J - 8 * len by omega]
      exact h.par.other hne.symm hd.free.1 _ _
    · exact h.cod.of_block (h.cod.fld.store hd.free _ _) (Free.store hd.free.1 h.cod.free _ _) (setCell_else hcd _)
  · have hd := h.par
    have hil : i < (tb (fun k => rt m N C (8 * bytes + k)) ps (J - 8 * bytes)).length := by rw [tb_len]; omega
    refine ⟨_, hd.le i, hd.cell hil, hd.frozen i, fun hr => ⟨by omega, ?_, ?_, ?_, h.since.store hgp hd.free.1 _ _⟩⟩
    · rw [show min (J + 1) (8 * bytes) = min J (8 * bytes) by omega]
      exact h.dat.other hne hd.free.1 _ _
    · rw [show J + 1 - 8 * bytes = J - 8 * bytes + 1 by omega, tb, if_pos (by rw [show 8 * bytes + (J - 8 * bytes) = J by omega]; exact hr), show (J - 8 * bytes) / 8 = i by omega, show (J - 8 * bytes) % 8 = k by omega]
      exact hd.store hil (xor_byte (hd.le i) (by omega))
    · exact h.cod.of_block (h.cod.fld.store hd.free _ _) (Free.store hd.free.1 h.cod.free _ _) (setCell_else hcp _)
/-- What turn answers: it stopped behind J places. -/
def TurnPost (m N bytes : Nat) (C ds ps : List Nat) (Td Tp : List Value) (b c t gd gp v : Nat) (w0 : World) (e : Ending) (w' : World) : Prop := ∃ J, TS m N bytes C ds ps Td Tp b c t gd gp w0 w' J ∧ e = .returned (num (cn (rt m N C) J : Nat)) ∧ (cn (rt m N C) J = v ∨ J = N)
theorem cn_le (f : Nat → Bool) (k : Nat) : cn f k ≤ k := by
  induction k with
  | zero => exact Nat.le_refl _
  | succ k ih => rw [cn]; split <;> omega
end Gf
end Go.Proofs.YtiojdoehlooibaaDoor

/- turn: its walk. -/
namespace Go.Proofs.YtiojdoehlooibaaDoor
open Go.RowKit
namespace Gf
theorem shr_half (k : Nat) : (128 >>> k) / 2 = 128 >>> (k + 1) := by rw [Nat.shiftRight_succ]
theorem shr_pos {k : Nat} (hk : k < 8) : 0 < 128 >>> k := by rw [shr128 hk]; exact Nat.two_pow_pos _
theorem shr_eight : 128 >>> 8 = 0 := by decide
/-- What stands beside: the two rows' slices, the locator. -/
structure Besides (b gd gp : Nat) (wr : World) (PB : Nat) (sd sp : Value) (gl ol : Nat) (C : List Nat) : Prop where
  parts : wr.heap[PB]? = some (.cells #[sd, sp] 35)
  loc : ∀ i, i < C.length → wr.cell? ⟨gl, ol + i, none⟩ = some (num (nth C i : Nat))
  pb : PB ≠ b ∧ PB ≠ gd ∧ PB ≠ gp
  lb : gl ≠ b ∧ gl ≠ gd ∧ gl ≠ gp
theorem Besides.step {b gd gp : Nat} {wr : World} {PB : Nat} {sd sp : Value} {gl ol : Nat} {C : List Nat} (h : Besides b gd gp wr PB sd sp gl ol C) {w' : World} (hs : Step b wr w') : Besides b gd gp w' PB sd sp gl ol C :=
  ⟨by rw [hs.heap (lt_of_heap h.parts) h.pb.1]; exact h.parts, fun i hi => by rw [hs.cell (lt_of_cell (h.loc i hi)) h.lb.1]; exact h.loc i hi, h.pb, h.lb⟩
theorem Besides.store {b gd gp : Nat} {wr : World} {PB : Nat} {sd sp : Value} {gl ol : Nat} {C : List Nat} (h : Besides b gd gp wr PB sd sp gl ol C) {gq : Nat} (hq : gq = gd ∨ gq = gp) (i : Nat) (v : Value) : Besides b gd gp (wr.setCell ⟨gq, i, none⟩ v) PB sd sp gl ol C := by
  have h1 : PB ≠ gq := by rcases hq with rfl | rfl; exact h.pb.2.1; exact h.pb.2.2
  have h2 : gl ≠ gq := by rcases hq with rfl | rfl; exact h.lb.2.1; exact h.lb.2.2
  exact ⟨by rw [setCell_else h1]; exact h.parts, fun j hj => by rw [World.cell?_of_block (w := wr) (a := ⟨gl, ol + j, none⟩) (setCell_else h2 _)]; exact h.loc j hj, h.pb, h.lb⟩
theorem Besides.rd {b gd gp : Nat} {wr : World} {PB : Nat} {sd sp : Value} {gl ol : Nat} {C : List Nat} (h : Besides b gd gp wr PB sd sp gl ol C) : Rd b wr (some ⟨gl, ol, none⟩) (ints C) :=
  .inr ⟨gl, ol, rfl, h.lb.1, fun i hi => by rw [ints_len] at hi; rw [ints_getD]; exact h.loc i hi⟩
theorem Besides.drew {b gd gp : Nat} {wr : World} {PB : Nat} {sd sp : Value} {gl ol : Nat} {C : List Nat} (h : Besides b gd gp wr PB sd sp gl ol C) : Besides b gd gp wr.drew PB sd sp gl ol C := ⟨h.parts, h.loc, h.pb, h.lb⟩
set_option maxHeartbeats 6400000 in
set_option maxRecDepth 4000 in
theorem turn_ok {w w0 : World} {c b m bytes t : Nat} (h : Cod w c b m bytes t) {gd gp gl ol : Nat} {Td Tp : List Value} (capd capp cl v : Nat) (ds ps C : List Nat) (hd : OwnB b w gd ds Td) (hp : OwnB b w gp ps Tp) (hds : ds.length = bytes) (hps : ps.length = pS m t)
    (hne : gd ≠ gp) (hgd : w0.heap.size ≤ gd) (hgp : w0.heap.size ≤ gp) (hcd : c ≠ gd) (hcp : c ≠ gp) (hI : Since b w0 w) (hC : ∀ i, i < C.length → w.cell? ⟨gl, ol + i, none⟩ = some (num (nth C i : Nat))) (hgl : gl ≠ b ∧ gl ≠ gd ∧ gl ≠ gp) (hCl : C.length ≤ 100000) (hC1 : 1 ≤ C.length) :
    Calls Tryd.prog 41 #[ptr c, .slice (some ⟨gd, 0, none⟩) bytes capd, .slice (some ⟨gp, 0, none⟩) (pS m t) capp, .slice (some ⟨gl, ol, none⟩) C.length cl, num v] w fun e w' => TurnPost m (8 * bytes + rS m t) bytes C ds ps Td Tp b c t gd gp v w0 e w' := by
  have hem := h.em
  have h104 := h.r_104
  have hb2 := h.b2
  have hb1 := h.b1
  have c1 := h.c1
  have c3 := h.c3
  have hpe : pS m t = (rS m t + 7) / 8 := rfl
  obtain ⟨PL, hPL⟩ : ∃ PL, PL = pS m t := ⟨_, rfl⟩
  obtain ⟨R, hR⟩ : ∃ R, R = rS m t := ⟨_, rfl⟩
  rw [← hPL] at hps hpe ⊢
  rw [← hR] at h104 hpe c3 ⊢
  obtain ⟨N, hN⟩ : ∃ N, N = 8 * bytes + R := ⟨_, rfl⟩
  rw [← hN]
  have n1 : R ≤ 8 * PL := by omega
  have n2 : PL ≤ 13 := by omega
  have HN : Hid (N = 8 * bytes + R) := hN
  have bN : ((8 : Int) * (bytes : Int) + (R : Int)) = (N : Int) := by omega
  have bN2 : (N : Int) ≤ 4200 := by omega
  have b0 : (bytes : Int) ≤ 512 := by omega
  have w1 : IntKind.i64.wrap (8 * (bytes : Int)) = 8 * (bytes : Int) := by rw [IntKind.wrap_i64]; omega
  have w2 : IntKind.i64.wrap (N : Int) = (N : Int) := by rw [IntKind.wrap_i64]; omega
  clear hPL hR hpe hN
  have hT0 : TS m N bytes C ds ps Td Tp b c t gd gp w0 w 0 := ⟨by omega, by rw [show min 0 (8 * bytes) = 0 by omega]; exact hd, by rw [show 0 - 8 * bytes = 0 by omega]; exact hp, h, hI⟩
  go_enter Tryd.func41, Tryd.ntmps41
  go_wp2
  go_step3
  go_wp2
  go_region
  all_goals
    go_wp2
    go_step3
    go_wp2
    have hgA := World.grownBy_alloc w (.cells #[.slice (some ⟨gd, 0, none⟩) bytes capd, .slice (some ⟨gp, 0, none⟩) PL capp] 35) none
    have hsA : Step b w (w.alloc (.cells #[.slice (some ⟨gd, 0, none⟩) bytes capd, .slice (some ⟨gp, 0, none⟩) PL capp] 35)).drew := (h.fld.step_more hgA).drew
    have hT1 := hT0.step hsA (h.fld.more (grownBy_drew hgA))
    have hbs : Besides b gd gp (w.alloc (.cells #[.slice (some ⟨gd, 0, none⟩) bytes capd, .slice (some ⟨gp, 0, none⟩) PL capp] 35)).drew w.heap.size (.slice (some ⟨gd, 0, none⟩) bytes capd) (.slice (some ⟨gp, 0, none⟩) PL capp) gl ol C :=
      ⟨heap_alloc_new w _, fun i hi => by rw [hsA.cell (lt_of_cell (hC i hi)) hgl.1]; exact hC i hi, ⟨by have := h.fld.lt; omega, by have := hd.lt; omega, by have := hp.lt; omega⟩, hgl⟩
    obtain ⟨PB, hPB⟩ : ∃ PB, PB = w.heap.size := ⟨_, rfl⟩
    rw [← hPB] at hbs
    rw [← hPB]
    clear hgA hsA hT0 hd hp hC hgl hI c1 c3 h hPB w1 w2 bN
    have hf1 : ∀ J, J ≤ N → ((cn (rt m N C) J : Nat) : Int) ≤ 4200 := fun J hJ => by have := cn_le (rt m N C) J; omega
    have HF1 : Hid _ := hf1
    clear hf1
    go_loopw [11, 12, 31] (fun f q a wr => ∃ (ia J : Nat), a = num ia ∧ f = num (cn (rt m N C) J : Nat) ∧ q = num ((N : Int) - (J : Int)) ∧ ((ia = 0 ∧ J = 0) ∨ (ia = 1 ∧ J = 8 * bytes) ∨ (ia = 2 ∧ J = N)) ∧ TS m N bytes C ds ps Td Tp b c t gd gp w0 wr J ∧ Besides b gd gp wr PB (.slice (some ⟨gd, 0, none⟩) bytes capd) (.slice (some ⟨gp, 0, none⟩) PL capp) gl ol C) (fun _ _ a _ => 2 - (intOf a).toNat)
    case atStart => exact ⟨0, 0, rfl, rfl, by go_num, .inl ⟨rfl, rfl⟩, hT1, hbs⟩
    case round =>
      clear hT1 hbs
      obtain ⟨ia, J, rfl, rfl, rfl, hcase, hT, hbs⟩ := hrel
      by_cases h2 : ia < 2
      · obtain ⟨gq, len, base, cap, hPt, hpart, hJ0, hbase⟩ : ∃ gq len base cap, Part bytes PL gd gp capd capp gq len base cap ∧ wr.cell? ⟨PB, ia, none⟩ = some (.slice (some ⟨gq, 0, none⟩) len cap) ∧ J = base ∧ ((ia = 0 ∧ base + 8 * len = 8 * bytes ∧ base + 8 * len ≤ N) ∨ (ia = 1 ∧ N ≤ base + 8 * len)) := by
          have hq := HN.out
          rcases hcase with ⟨rfl, rfl⟩ | ⟨rfl, rfl⟩ | ⟨rfl, _⟩
          · exact ⟨gd, bytes, 0, capd, ⟨.inl ⟨rfl, rfl, rfl, rfl⟩⟩, by simp [World.cell?, hbs.parts], rfl, .inl ⟨rfl, by omega, by omega⟩⟩
          · exact ⟨gp, PL, 8 * bytes, capp, ⟨.inr ⟨rfl, rfl, rfl, rfl⟩⟩, by simp [World.cell?, hbs.parts], rfl, .inr ⟨rfl, by omega⟩⟩
          · omega
        subst hJ0
        have hgq : gq = gd ∨ gq = gp := by rcases hPt.is with ⟨h, _⟩ | ⟨h, _⟩; exact .inl h; exact .inr h
        have hlen : len ≤ 512 := by rcases hPt.is with ⟨_, h, _⟩ | ⟨_, h, _⟩ <;> omega
        have b2 : (ia : Int) < 2 := by omega
        clear hcase
        go_wp2_with fail
        go_loopw [11, 12, 37] (fun f q a wr => ∃ (i : Nat), i ≤ len ∧ a = num i ∧ f = num (cn (rt m N C) (J + 8 * i) : Nat) ∧ q = num ((N : Int) - ((J + 8 * i : Nat) : Int)) ∧ TS m N bytes C ds ps Td Tp b c t gd gp w0 wr (J + 8 * i) ∧ Besides b gd gp wr PB (.slice (some ⟨gd, 0, none⟩) bytes capd) (.slice (some ⟨gp, 0, none⟩) PL capp) gl ol C) (fun _ _ a _ => len - (intOf a).toNat)
        case atStart => exact ⟨0, Nat.zero_le _, rfl, rfl, rfl, hT, hbs⟩
        case round =>
          clear hT hbs hpart
          obtain ⟨i, hi, rfl, rfl, rfl, hT, hbs⟩ := hrel
          by_cases hil : i < len
          · have b3 : (i : Int) < (len : Int) := by omega
            go_wp2_with fail
            go_loopw [11, 12, 16] (fun f q a wr => ∃ (k : Nat), k ≤ 8 ∧ a = .int .u8 ((128 >>> k : Nat) : Int) ∧ f = num (cn (rt m N C) (J + 8 * i + k) : Nat) ∧ q = num ((N : Int) - ((J + 8 * i + k : Nat) : Int)) ∧ TS m N bytes C ds ps Td Tp b c t gd gp w0 wr (J + 8 * i + k) ∧ Besides b gd gp wr PB (.slice (some ⟨gd, 0, none⟩) bytes capd) (.slice (some ⟨gp, 0, none⟩) PL capp) gl ol C) (fun _ q _ _ => (intOf q).toNat)
            case atStart => exact ⟨0, by omega, rfl, rfl, rfl, hT, hbs⟩
            case round =>
              clear hT hbs
              obtain ⟨k, hk, rfl, rfl, rfl, hT, hbs⟩ := hrel
              by_cases hk8 : k < 8
              · have hpos := shr_pos hk8
                have hmk := shr_le k
                obtain ⟨MK, hMK⟩ : ∃ MK, MK = 128 >>> k := ⟨_, rfl⟩
                have HMK : Hid (MK = 128 >>> k) := hMK
                rw [← hMK] at hpos hmk ⊢
                clear hMK
                have b4 : (0 : Int) < (MK : Int) := by omega
                obtain ⟨j, hj⟩ : ∃ j, j = J + 8 * i + k := ⟨_, rfl⟩
                have HJ : Hid (j = J + 8 * i + k) := hj
                rw [← hj] at hT ⊢
                clear hj
                have hjN := hT.le
                have hFj := HF1.out j hjN
                have HCn : Hid (cn (rt m N C) (j + 1) = cn (rt m N C) j + if rt m N C j = true then 1 else 0) := rfl
                obtain ⟨F, hF⟩ : ∃ F, F = cn (rt m N C) j := ⟨_, rfl⟩
                have HF : Hid (F = cn (rt m N C) j) := hF
                rw [← hF] at hFj HCn ⊢
                clear hF
                by_cases e1 : F = v
                · have e1' : ((F : Int) == (v : Int)) = true := by rw [e1]; simp
                  have HS : Hid (cn (rt m N C) j = v ∨ j = N) := .inl (by rw [← HF.out]; exact e1)
                  clear e1
                  go_wp2_with fail
                  rw [Exit.noGoto_ret]
                  go_ret
                  exact ⟨j, hT, ret_int (by rw [HF.out]), HS.out⟩
                have e1' : ((F : Int) == (v : Int)) = false := by simp; omega
                by_cases e2 : j = N
                · have e2' : (((N : Int) - (j : Int)) == 0) = true := by rw [e2]; simp
                  have HS : Hid (cn (rt m N C) j = v ∨ j = N) := .inr e2
                  clear e2 e1
                  go_wp2_with fail
                  rw [Exit.noGoto_ret]
                  go_ret
                  exact ⟨j, hT, ret_int (by rw [HF.out]), HS.out⟩
                · have hjlt : j < N := by omega
                  have e2' : (((N : Int) - (j : Int)) == 0) = false := by simp; omega
                  have hcod := hT.cod
                  have c0 := hcod.c0
                  have hcdr := hcod.more (grownBy_drew (World.grownBy.refl wr none))
                  have hsd : Step b wr wr.drew := (Step.refl b wr).drew
                  have bq : (0 : Int) ≤ (N : Int) - (j : Int) - 1 := by omega
                  have bj : (j : Int) < (N : Int) := by omega
                  clear e1 e2
                  go_wp2_with fail
                  obtain ⟨q, hq⟩ : ∃ q : Int, q = (N : Int) - (j : Int) - 1 := ⟨_, rfl⟩
                  rw [← hq]
                  have hX := exp_x hcdr.fld (-q)
                  have hXb := xp_bd hem (-q)
                  have HRt : Hid (rt m N C j = (ev m (xp m (-q)) C == 0)) := by rw [Hid, hq]; rfl
                  obtain ⟨X, hXe⟩ : ∃ X, X = xp m (-q) := ⟨_, rfl⟩
                  rw [← hXe] at hX hXb HRt
                  have HX : Hid (Calls Tryd.prog 48 #[ptr b, num (-q)] wr.drew _) := hX
                  have HEl : Hid (el m (X : Int) = X) := el_of hXb.2
                  have HIl : Hid ((ints C).length = C.length) := ints_len C
                  have hEle := ev_le hem X C
                  obtain ⟨E, hE⟩ : ∃ E, E = ev m X C := ⟨_, rfl⟩
                  have HEv : Hid (evS m X (ints C) = E) := hE.symm
                  rw [← hE] at HRt hEle
                  have wq : IntKind.i64.wrap (-q) = -q := by rw [IntKind.wrap_i64]; omega
                  have HQ : Hid (q = (N : Int) - (j : Int) - 1) := hq
                  clear hX hXe hE hq bq
                  have hrd := hbs.rd
                  go_region_with (first | (go_at_call 48; refine HX.out.mono ?_; rintro e w5 ⟨rfl, hF5, hs5⟩; (have hc5 := hcdr.step hs5 hF5); (have c05 := hc5.c0)) | (go_at_call 47; (have hev := eval_ok hF5 (some ⟨gl, ol, none⟩) cl (ints C) (X : Int) ((hrd.step hsd).step hs5) (by rw [HIl.out]; omega)); rw [HIl.out, HEl.out, HEv.out] at hev; refine hev.mono ?_; rintro e w6 ⟨rfl, hF6, hs6⟩))
                  all_goals
                    have hs56 : Step b wr w6 := (hsd.trans hs5).trans hs6
                    have hT6 := hT.step hs56 hF6
                    have hbs6 := hbs.step hs56
                    have HQ2 : Hid (q = (N : Int) - ((J + 8 * i + (k + 1) : Nat) : Int)) := by have h1 := HQ.out; have h2 := HJ.out; rw [Hid]; omega
                    have HJ2 : Hid (j + 1 = J + 8 * i + (k + 1)) := by have h2 := HJ.out; rw [Hid]; omega
                    have HM2 : Hid ((MK : Int) / (2 : Int) = ((128 >>> (k + 1) : Nat) : Int)) := by rw [Hid, ← shr_half, ← HMK.out]; simp
                    have hmeas : q.toNat < ((N : Int) - (j : Int)).toNat := by have h1 := HQ.out; omega
                    have HMs : Hid _ := hmeas
                    clear hev c05 c0 hs5 hs6 hs56 hT hbs hrd hmeas
                    by_cases hz : E = 0
                    · have hz' : ((E : Int) == 0) = true := by rw [hz]; rfl
                      have hrt : rt m N C j = true := by rw [HRt.out, hz]; rfl
                      rw [if_pos hrt] at HCn
                      obtain ⟨x, hx, cx, zx, hst⟩ := hT6.byte hjlt hPt hds hps hne hgd hgp hcd hcp hil hk8 HJ.out
                      have hT7 := hst hrt
                      have hbs7 := hbs6.store hgq i (.int .u8 (x ^^^ 128 >>> k : Nat))
                      rw [← HMK.out] at hT7 hbs7
                      have HXo : Hid _ := xor_u8 hx (show MK ≤ 255 by omega)
                      rw [HJ2.out] at hT7 HCn
                      clear hz hst hrt hT6 hbs6
                      go_wp2_with fail
                      go_roundw
                      case rel => exact ⟨k + 1, by omega, by rw [HM2.out], by rw [HCn.out]; go_num, by rw [HQ2.out], by rw [HXo.out]; exact hT7, by rw [HXo.out]; exact hbs7⟩
                      case measure => exact HMs.out
                    · have hz' : ((E : Int) == 0) = false := by simp; omega
                      have hrt : ¬ rt m N C j = true := by rw [HRt.out]; simpa using hz
                      rw [if_neg hrt] at HCn
                      have hT7 := hT6.skip hjlt hrt
                      rw [HJ2.out] at hT7 HCn
                      clear hz hrt hT6
                      go_wp2_with fail
                      go_roundw
                      case rel => exact ⟨k + 1, by omega, by rw [HM2.out], by rw [HCn.out, Nat.add_zero], by rw [HQ2.out], hT7, hbs6⟩
                      case measure => exact HMs.out
              · obtain rfl : k = 8 := by omega
                rw [shr_eight]
                go_wp2_with fail
                go_roundw
                case rel => exact ⟨i + 1, by omega, by go_num, by rw [show J + 8 * (i + 1) = J + 8 * i + 8 by omega], by rw [show J + 8 * (i + 1) = J + 8 * i + 8 by omega], by rw [show J + 8 * (i + 1) = J + 8 * i + 8 by omega]; exact hT, hbs⟩
                case measure => simp [intOf]; omega
          · obtain rfl : i = len := by omega
            have b3 : ¬ (i : Int) < (i : Int) := by omega
            have hle := hT.le
            go_wp2_with fail
            go_roundw
            case rel => exact ⟨ia + 1, J + 8 * i, by go_num, rfl, rfl, by rcases hbase with ⟨rfl, h5, _⟩ | ⟨rfl, h5⟩; exact .inr (.inl ⟨rfl, h5⟩); exact .inr (.inr ⟨rfl, by omega⟩), hT, hbs⟩
            case measure => simp [intOf]; omega
      · have hia : ia = 2 ∧ J = N := by rcases hcase with ⟨rfl, _⟩ | ⟨rfl, _⟩ | h; omega; omega; exact h
        obtain ⟨rfl, rfl⟩ := hia
        go_wp2_with fail
        try rw [Exit.noGoto_ret]
        go_ret
        exact ⟨J, hT, rfl, .inr rfl⟩
end Gf
end Go.Proofs.YtiojdoehlooibaaDoor
