/- Layer 7 (blocks): the document's Parse. -/
import Derived.Test.YtoakokpeomlkjaaDoorCg
import Derived.StillTailTactics
namespace Go.Proofs.YtoakokpeomlkjaaDoor
open Go.RowKit Go.Maps
namespace Bk
open Cr (RdB)
/-- The block that five bytes say. -/
def rdBlk (d : List Nat) (x : Nat) : Blk := ⟨(Cr.nth d (2 + 5 * x) : Int), Cr.nth d (2 + 5 * x + 1) + 256 * Cr.nth d (2 + 5 * x + 2) + 65536 * Cr.nth d (2 + 5 * x + 3) + 16777216 * Cr.nth d (2 + 5 * x + 4)⟩
def GoodAt (d : List Nat) (x : Nat) : Prop := 1 ≤ Cr.nth d (2 + 5 * x) ∧ Cr.nth d (2 + 5 * x) ≤ 4
def upF (d : List Nat) (m j : Nat) : Pool := fun i k => if i * m + k < j then rdBlk d (i * m + k) else ⟨1, 0⟩
theorem follows_mixed : Tryd.prog.follows .mixedOrders = true := by kernel_rfl
theorem RefM.congr {w : World} {R : Ref} {f g : Pool} (h : RefM w R f) (e : ∀ i k, i < R.n → k < R.m → g i k = f i k) : RefM w R g :=
  ⟨h.n8, h.m64, h.len, h.box, h.os, h.oe, h.cs, h.ce, fun i k hi hk => by rw [e i k hi hk]; exact h.st i k hi hk, fun i k hi hk => by rw [e i k hi hk]; exact h.er i k hi hk, h.rs, h.re, h.se⟩
theorem upF_next (d : List Nat) {m j : Nat} (hm : 0 < m) (a c : Nat) (hc : c < m) : upF d m (j + 1) a c = upd (upd (upF d m j) (j / m) (j % m) ⟨(rdBlk d j).st, 0⟩) (j / m) (j % m) ⟨(rdBlk d j).st, (rdBlk d j).er⟩ a c := by
  have hj : j / m * m + j % m = j := Nat.div_add_mod' j m
  by_cases e : a = j / m ∧ c = j % m
  · obtain ⟨rfl, rfl⟩ := e
    rw [upd_same]
    unfold upF
    rw [hj, if_pos (by omega)]
  · rw [upd_other _ e, upd_other _ e]
    unfold upF
    have hne : a * m + c ≠ j := fun h => by
      have := flat_ne (m := m) (i := j / m) (k := j % m) (Nat.mod_lt _ hm) hc e
      rw [hj] at this
      exact this h
    by_cases h : a * m + c < j
    · rw [if_pos h, if_pos (by omega)]
    · rw [if_neg h, if_neg (by omega)]
theorem RefM.of_heap {w w' : World} {R : Ref} {f : Pool} (h : RefM w R f) (e : w'.heap = w.heap) : RefM w' R f :=
  ⟨h.n8, h.m64, h.len, by rw [e]; exact h.box, h.os.of_heap (by rw [e]), h.oe.of_heap (by rw [e]), h.cs, h.ce, fun i k hi hk => (cell_of_block (by rw [e])).trans (h.st i k hi hk), fun i k hi hk => (cell_of_block (by rw [e])).trans (h.er i k hi hk), h.rs, h.re, h.se⟩
theorem RefM.put {w : World} {R : Ref} {d : List Nat} {j : Nat} (h : RefM w R (upF d R.m j)) (hj : j < R.l) (hm : 0 < R.m) :
    RefM ((w.setCell ⟨R.sb, j, none⟩ (num (rdBlk d j).st)).setCell ⟨R.eb, j, none⟩ (num (rdBlk d j).er)) R (upF d R.m (j + 1)) := by
  rw [h.len] at hj
  have hd : j / R.m < R.n := Nat.div_lt_of_lt_mul (by rw [Nat.mul_comm]; omega)
  have hr : j % R.m < R.m := Nat.mod_lt _ hm
  have h1 := h.setSt hd hr (rdBlk d j).st
  have h2 := h1.setEr hd hr (rdBlk d j).er
  rw [Nat.div_add_mod'] at h2
  have e0 : (upF d R.m j (j / R.m) (j % R.m)).er = 0 := by unfold upF; rw [Nat.div_add_mod', if_neg (by omega)]
  refine h2.congr fun a c _ hc => ?_
  rw [upF_next d hm a c hc, upd_same, e0]
theorem upF_zero (d : List Nat) (m : Nat) : upF d m 0 = fresh := by funext i k; simp [upF, fresh]
/-- What the document's Parse answers of what was opened. -/
def KParsePost (w : World) (d : List Nat) (e : Ending) (w' : World) : Prop :=
  (e = .returned (.tuple #[.pointer none, num 81]) ∧ w.grownBy w' none ∧ ¬ (∃ n m, InNew (n : Nat) (m : Nat) ∧ 2 ≤ d.length ∧ n = Cr.nth d 0 ∧ m = Cr.nth d 1 ∧ d.length = 2 + 5 * (n * m) ∧ ∀ x, x < n * m → GoodAt d x)) ∨
  (∃ R : Ref, InNew R.n R.m ∧ 2 ≤ d.length ∧ R.n = Cr.nth d 0 ∧ R.m = Cr.nth d 1 ∧ d.length = 2 + 5 * (R.n * R.m) ∧ (∀ x, x < R.n * R.m → GoodAt d x) ∧ w.heap.size ≤ R.r ∧ w.heap.size ≤ R.sb ∧ w.heap.size ≤ R.eb ∧ e = .returned (.tuple #[ptr R.r 0, num 0]) ∧ w.grownBy w' none ∧ RefM w' R (upF d R.m (R.n * R.m)))
set_option maxRecDepth 8000 in
set_option maxHeartbeats 600000 in
theorem kParse_ok {w : World} (ao : Option Addr) (len cap : Nat) (d : List Nat) (hl : d.length ≤ 140737488355328) (hO : Calls Tryd.prog 40 #[.slice ao len cap] w fun e w' => ∃ ao' cap', e = .returned (.tuple #[.slice ao' d.length cap', num 0]) ∧ RdB w' ao' d ∧ d.length ≤ cap' ∧ w.grownBy w' none) :
    Calls Tryd.prog 21 #[.slice ao len cap] w (KParsePost w d) := by
  have HO := hide hO
  clear hO
  go_enter Tryd.func21, Tryd.ntmps21
  go_wp2_with fail
  refine HO.out.mono ?_
  rintro e w1 ⟨a1, c1, rfl, hR, hc1, hg1⟩
  clear HO
  by_cases h2 : d.length < 2
  · have q1 : (d.length : Int) < 2 := by omega
    have HF : Hid (KParsePost w d (.returned (.tuple #[.pointer none, num 81])) w1) := .inl ⟨rfl, hg1, fun ⟨n, m, _, h, _⟩ => by omega⟩
    clear hR hg1
    go_wp2
    go_ret2
    exact HF.out
  · have q1 : ¬ (d.length : Int) < 2 := by omega
    obtain ⟨g, o, rfl, hc⟩ := hR.2.resolve_left (fun e => by rw [e] at h2; simp at h2)
    have b0 := hc 0 (by omega)
    have b1 := hc 1 (by omega)
    rw [Nat.add_zero] at b0
    have l0 : (0 : Int) < (d.length : Int) := by omega
    have l1 : (1 : Int) < (d.length : Int) := by omega
    have l2 : 0 < d.length := by omega
    have l3 : 1 < d.length := by omega
    obtain ⟨N, hN⟩ : ∃ N, N = Cr.nth d 0 := ⟨_, rfl⟩
    obtain ⟨M, hM⟩ : ∃ M, M = Cr.nth d 1 := ⟨_, rfl⟩
    rw [← hN] at b0
    rw [← hM] at b1
    have HS0 : Hid (w1.grownBy w1.drew none ∧ w1.drew.cell? ⟨g, o, none⟩ = some (q8 N) ∧ w1.drew.cell? ⟨g, o + 1, none⟩ = some (q8 M)) := ⟨grownBy_drew (grownBy_refl _ _), b0, b1⟩
    have hN255 : N ≤ 255 := by rw [hN]; exact hR.1 0
    have hM255 : M ≤ 255 := by rw [hM]; exact hR.1 1
    have wN : IntKind.i64.wrap (N : Int) = (N : Int) := by rw [IntKind.wrap_i64]; omega
    have wM : IntKind.i64.wrap (M : Int) = (M : Int) := by rw [IntKind.wrap_i64]; omega
    have HNN := hide hN
    have HMM := hide hM
    clear hN hM
    by_cases hin : InNew (N : Int) (M : Int)
    · have hin' := hin
      unfold InNew at hin'
      obtain ⟨i1, i2, i3, i4⟩ := hin'
      have HN := hide (fun V (h : w1.grownBy V none ∧ V.cell? ⟨g, o, none⟩ = some (q8 N) ∧ V.cell? ⟨g, o + 1, none⟩ = some (q8 M)) => (kNew_ok N M (by omega) (by omega) (by omega) (by omega) V).mono (R' := fun e w' => ∃ R : Ref, e = .returned (.tuple #[ptr R.r 0, num 0]) ∧ (w1.grownBy w' none ∧ w'.cell? ⟨g, o, none⟩ = some (q8 N) ∧ w'.cell? ⟨g, o + 1, none⟩ = some (q8 M)) ∧ (w1.heap.size ≤ R.r ∧ w1.heap.size ≤ R.sb ∧ w1.heap.size ≤ R.eb ∧ R.n = N ∧ R.m = M) ∧ RefM w' R fresh) (fun e w' ⟨R, e1, e2, e3, e4, e5, e6, e7, e8⟩ => ⟨R, e6, ⟨grownBy_trans h.1 e7, (cell_of_block (e7.block _ (lt_of_cell h.2.1) (by simp))).trans h.2.1, (cell_of_block (e7.block _ (lt_of_cell h.2.2) (by simp))).trans h.2.2⟩, ⟨Nat.le_trans h.1.size e3, Nat.le_trans h.1.size e4, Nat.le_trans h.1.size e5, e1, e2⟩, e8⟩))
      go_wp2_with fail
      go_region_held3 (fun w' => w1.grownBy w' none ∧ w'.cell? ⟨g, o, none⟩ = some (q8 N) ∧ w'.cell? ⟨g, o + 1, none⟩ = some (q8 M)) (first | assumption | exact HS0.out)
        (first | (go_at_call 8; refine (HN.out _ (by assumption)).mono ?_; rintro e w2 ⟨R, rfl, hS2, hR5, hRM⟩))
      obtain ⟨f1, f2, f3, f4, f5⟩ := hR5
      subst f4
      subst f5
      have hG2 := grownBy_trans hg1 hS2.1
      have hs1 := hg1.size
      have hlg := lt_of_cell b0
      have hR2 := hR.more hS2.1
      obtain ⟨z, hz, hz5⟩ : ∃ z : Nat, z = R.n * R.m ∧ z ≤ 512 := ⟨_, rfl, Nat.mul_le_mul (show R.n ≤ 8 by omega) (show R.m ≤ 64 by omega)⟩
      have e0 : IntKind.i64.wrap (5 * (R.n : Int)) = 5 * (R.n : Int) := by rw [IntKind.wrap_i64]; omega
      have e1 : 5 * (R.n : Int) * (R.m : Int) = 5 * (z : Int) := by rw [hz, Int.mul_assoc]; push_cast; rfl
      have e2 : IntKind.i64.wrap (5 * (z : Int)) = 5 * (z : Int) := by rw [IntKind.wrap_i64]; omega
      have e3 : IntKind.i64.wrap (2 + 5 * (z : Int)) = 2 + 5 * (z : Int) := by rw [IntKind.wrap_i64]; omega
      have HT0 : Hid (w2.drew.cell? ⟨R.r, 0, none⟩ = some (num R.n) ∧ w2.drew.cell? ⟨R.r, 1, none⟩ = some (num R.m)) := ⟨cell_at (w := w2) hRM.box rfl, cell_at (w := w2) hRM.box rfl⟩
      have HRM := hide hRM
      have HR2 := hide hR2
      have HG2 := hide hG2
      have HZ := hide hz
      by_cases hlen : d.length = 2 + 5 * z
      · have q5 : ((d.length : Int) != 2 + 5 * (z : Int)) = false := by simp; omega
        have e4 : (R.n : Int) * (R.m : Int) = (z : Int) := by rw [hz]; push_cast; rfl
        have e5 : IntKind.i64.wrap (z : Int) = (z : Int) := by rw [IntKind.wrap_i64]; omega
        have HI0 : Hid (w.grownBy w2.drew none ∧ RefM w2.drew R (upF d R.m 0) ∧ ∀ i, i < d.length → w2.drew.cell? ⟨g, o + i, none⟩ = some (q8 (Cr.nth d i))) := ⟨grownBy_drew hG2, by rw [upF_zero]; exact hRM.grown (grownBy_drew (grownBy_refl _ _)), fun i hi => (cell_of_block (w := w1) (w' := w2.drew) (hS2.1.block _ hlg (by simp))).trans (hc i hi)⟩
        have HGs : Hid (g ≠ R.sb ∧ g ≠ R.eb ∧ w.heap.size ≤ R.sb ∧ w.heap.size ≤ R.eb ∧ w.heap.size ≤ R.r) := ⟨by omega, by omega, by omega, by omega, by omega⟩
        have HB := hide hR.1
        have HLen := hide hlen
        have HL4 : Hid ((d.length : Int) = 2 + 5 * (z : Int)) := by unfold Hid; omega
        have HIn := hide hin
        have hc1i : (d.length : Int) ≤ (c1 : Int) := by omega
        clear hRM hR2 hG2 hz hR hc b0 b1 hg1 HS0 HN hS2 wN wM HRM HR2 HG2 hs1 hlg f1 f2 f3 hin hlen
        go_wp2_with fail
        go_region_held3 (fun w' => w'.cell? ⟨R.r, 0, none⟩ = some (num R.n) ∧ w'.cell? ⟨R.r, 1, none⟩ = some (num R.m)) (first | assumption | exact HT0.out) (fail)
        clear HT0
        clear ‹_ ∧ _›
        go_wp2_with fail
        go_loopw [8, 9] (fun i _ wr => ∃ j : Nat, j ≤ z ∧ i = num j ∧ w.grownBy wr none ∧ RefM wr R (upF d R.m j) ∧ (∀ i, i < d.length → wr.cell? ⟨g, o + i, none⟩ = some (q8 (Cr.nth d i))) ∧ ∀ x, x < j → GoodAt d x) (fun i _ _ => z - (intOf i).toNat)
        case atStart => exact ⟨0, Nat.zero_le _, rfl, HI0.out.1, HI0.out.2.1, HI0.out.2.2, fun x hx => by omega⟩
        case round =>
          clear HI0
          obtain ⟨j, hj, rfl, hg, hRj, hc, hgood⟩ := hrel
          have k0 : wr.cell? ⟨R.r, 0, none⟩ = some (num R.n) := cell_at hRj.box rfl
          have k1 : wr.cell? ⟨R.r, 1, none⟩ = some (num R.m) := cell_at hRj.box rfl
          have HK0 : Hid (wr.drew.cell? ⟨R.r, 0, none⟩ = some (num R.n) ∧ wr.drew.cell? ⟨R.r, 1, none⟩ = some (num R.m)) := ⟨k0, k1⟩
          by_cases hjz : j < z
          · have p1 : (j : Int) < (z : Int) := by omega
            have l4 := HL4.out
            obtain ⟨q, hq⟩ : ∃ q : Nat, q = 2 + 5 * j := ⟨_, rfl⟩
            have hq1 : IntKind.i64.wrap (5 * (j : Int)) = 5 * (j : Int) := by rw [IntKind.wrap_i64]; omega
            have hq2 : IntKind.i64.wrap (2 + 5 * (j : Int)) = (q : Int) := by rw [IntKind.wrap_i64]; omega
            have hq3 : IntKind.i64.wrap (7 + 5 * (j : Int)) = (q : Int) + 5 := by rw [IntKind.wrap_i64]; omega
            have hq4 : (q : Int) + 5 ≤ (d.length : Int) := by omega
            have hq5 : (q : Int) + 5 ≤ (c1 : Int) := by omega
            have hq6 : (0 : Int) ≤ (q : Int) := by omega
            have hql : q + 5 ≤ d.length := by omega
            have HQl := hide hql
            clear l4
            have hq7 : q + 5 - q = 5 := by omega
            have y0 := hc q (by omega)
            have y1 := hc (q + 1) (by omega)
            have y2 := hc (q + 2) (by omega)
            have y3 := hc (q + 3) (by omega)
            have y4 := hc (q + 4) (by omega)
            rw [← Nat.add_assoc] at y1 y2 y3 y4
            have HBk : Hid (rdBlk d j = ⟨(Cr.nth d q : Int), Cr.nth d (q + 1) + 256 * Cr.nth d (q + 2) + 65536 * Cr.nth d (q + 3) + 16777216 * Cr.nth d (q + 4)⟩ ∧ (GoodAt d j ↔ 1 ≤ Cr.nth d q ∧ Cr.nth d q ≤ 4)) := by rw [hq]; exact ⟨rfl, Iff.rfl⟩
            have u0 := HB.out q
            have u1 := HB.out (q + 1)
            have u2 := HB.out (q + 2)
            have u3 := HB.out (q + 3)
            have u4 := HB.out (q + 4)
            generalize Cr.nth d q = b0 at y0 u0 HBk
            generalize Cr.nth d (q + 1) = b1 at y1 u1 HBk
            generalize Cr.nth d (q + 2) = b2 at y2 u2 HBk
            generalize Cr.nth d (q + 3) = b3 at y3 u3 HBk
            generalize Cr.nth d (q + 4) = b4 at y4 u4 HBk
            have HQ := hide hq
            have HC := hide hc
            have HG := hide hg
            have HRj := hide hRj
            have HGd := hide hgood
            clear hq hc hg hRj hgood hql k0 k1
            by_cases hgd : 1 ≤ b0 ∧ b0 ≤ 4
            case neg =>
              have HF : Hid (KParsePost w d (.returned (.tuple #[.pointer none, num 81])) wr.drew) := .inl ⟨rfl, grownBy_drew HG.out, fun ⟨n', m', _, _, hn, hm, _, ha⟩ => hgd (HBk.out.2.1 (ha j (by rw [hn, hm, ← HNN.out, ← HMM.out, ← HZ.out]; exact hjz)))⟩
              clear HC HG HRj HGd HBk HQ
              have hb : (b0 : Int) < 1 ∨ (¬ (b0 : Int) < 1 ∧ 4 < (b0 : Int)) := by omega
              rcases hb with hb | ⟨hb, hb4⟩
              all_goals
                clear hgd
                go_wp2_with fail
                go_region_held3 (fun w' => w'.cell? ⟨R.r, 0, none⟩ = some (num R.n) ∧ w'.cell? ⟨R.r, 1, none⟩ = some (num R.m)) (first | assumption | exact HK0.out) (fail)
                go_wp2
                go_ret2
                exact HF.out
            obtain ⟨hg1, hg4⟩ := hgd
            have s1 : ¬ (b0 : Int) < 1 := by omega
            have s4 : ¬ 4 < (b0 : Int) := by omega
            go_wp2_with fail
            go_region_held3 (fun w' => w'.cell? ⟨R.r, 0, none⟩ = some (num R.n) ∧ w'.cell? ⟨R.r, 1, none⟩ = some (num R.m)) (first | assumption | exact HK0.out) (fail)
            clear HK0
            clear ‹_ ∧ _›
            have hjl : j < R.l := by rw [HRj.out.len, ← HZ.out]; exact hjz
            have hll := HRj.out.cs
            have hle := HRj.out.ce
            have e9 : (j : Int) < (R.l : Int) := by omega
            have e8 : (0 : Int) ≤ (j : Int) := by omega
            obtain ⟨U, hU⟩ : ∃ U, U = wr.drew := ⟨_, rfl⟩
            have hgU : wr.grownBy U none := by rw [hU]; exact grownBy_drew (grownBy_refl _ _)
            have hRU := HRj.out.grown hgU
            have eU : ∀ x : Nat, U.heap[x]? = wr.heap[x]? := fun x => by rw [hU]; rfl
            obtain ⟨V2, hV2⟩ : ∃ V2, V2 = (U.setCell ⟨R.sb, j, none⟩ (num b0)).drew := ⟨_, rfl⟩
            have el2 : ∀ x : Nat, x ≠ R.sb → V2.heap[x]? = wr.heap[x]? := fun x hx => by rw [hV2]; exact (setCell_else hx _).trans (eU x)
            have el4 : ∀ (v : Value) (x : Nat), x ≠ R.eb → (V2.drew.setCell ⟨R.eb, j, none⟩ v).heap[x]? = V2.heap[x]? := fun v x hx => setCell_else hx _
            have oe2 : OwnR V2 R.eb R.ec 3 := HRj.out.oe.of_heap (el2 _ HRj.out.se.symm)
            have v2 : U.cell? ⟨R.r, 2, none⟩ = some (.slice (some ⟨R.sb, 0, none⟩) R.l R.sc) := cell_at hRU.box rfl
            have y0' : U.cell? ⟨g, o + q, none⟩ = some (q8 b0) := (cell_of_block (eU _)).trans y0
            obtain ⟨v, t1⟩ := (hRU.os.at (o := j) (by omega)).1
            have t2' : U.frozen? ⟨R.sb, j, none⟩ = false := hRU.os.free j
            have x3 : V2.cell? ⟨R.r, 3, none⟩ = some (.slice (some ⟨R.eb, 0, none⟩) R.l R.ec) := cell_at ((el2 _ HRj.out.rs).trans HRj.out.box) rfl
            have x1 : V2.cell? ⟨g, o + q + 1, none⟩ = some (q8 b1) := (cell_of_block (el2 _ HGs.out.1)).trans y1
            have x2 : V2.cell? ⟨g, o + q + 2, none⟩ = some (q8 b2) := (cell_of_block (el2 _ HGs.out.1)).trans y2
            have x4 : V2.cell? ⟨g, o + q + 3, none⟩ = some (q8 b3) := (cell_of_block (el2 _ HGs.out.1)).trans y3
            have x5 : V2.cell? ⟨g, o + q + 4, none⟩ = some (q8 b4) := (cell_of_block (el2 _ HGs.out.1)).trans y4
            obtain ⟨v', t3⟩ := (oe2.at (o := j) (by omega)).1
            have t4 : V2.frozen? ⟨R.eb, j, none⟩ = false := oe2.free j
            have HFo : Hid (Tryd.prog.follows .mixedOrders = true) := follows_mixed
            have HV2 := hide hV2
            have HU := hide hU
            have HEU := hide eU
            clear hV2 el2 el4 oe2 hll hle hU hgU hRU eU
            go_wp2_with fail
            rw [← HU.out]
            go_still_tail 10, HFo.out
            change wpList _ _ _ _ _ (U.drew)
            go_wp2_with fail
            rw [← HV2.out]
            go_still_tail 28, HFo.out
            change wpList _ _ _ _ _ (V2.drew)
            go_wp2_with fail
            go_roundw
            case rel =>
              have hRU : RefM U R (upF d R.m j) := HRj.out.of_heap (by rw [HU.out]; rfl)
              have hp := hRU.put (by rw [HRj.out.len, ← HZ.out]; exact hjz) (by omega)
              rw [HBk.out.1] at hp
              have ev : (((b1 + 256 * b2 + 65536 * b3 + 16777216 * b4 : Nat) : Int)) = (b1 : Int) + (b2 : Int) * 256 + (b3 : Int) * 65536 + (b4 : Int) * 16777216 := by omega
              simp only at hp
              rw [ev] at hp
              have g2 : w.grownBy V2 none := by rw [HV2.out]; exact grownBy_drew (grownBy_set (by rw [HU.out]; exact grownBy_drew HG.out) HGs.out.2.2.1 _)
              refine ⟨j + 1, by omega, by go_num, grownBy_drew (grownBy_set g2 HGs.out.2.2.2.1 _), hp.of_heap (by rw [HV2.out]; rfl), fun i hi => (cell_of_block ((setCell_else HGs.out.2.1 _).trans (by rw [HV2.out]; exact (setCell_else HGs.out.1 _).trans (by rw [HU.out]; rfl)))).trans (HC.out i hi), fun x hx => ?_⟩
              by_cases e : x = j
              · subst e; exact HBk.out.2.2 ⟨hg1, hg4⟩
              · exact HGd.out x (by omega)
            case measure => simp [intOf]; omega
          · obtain rfl : j = z := by omega
            have p1 : ¬ (j : Int) < (j : Int) := by omega
            have HF : Hid (KParsePost w d (.returned (.tuple #[ptr R.r 0, num 0])) wr.drew) := .inr ⟨R, HIn.out, by have := HL4.out; omega, HNN.out, HMM.out, by rw [HLen.out, HZ.out], fun x hx => hgood x (by rw [HZ.out]; exact hx), HGs.out.2.2.2.2, HGs.out.2.2.1, HGs.out.2.2.2.1, rfl, grownBy_drew hg, by rw [← HZ.out]; exact hRj.grown (grownBy_drew (grownBy_refl _ _))⟩
            clear hg hRj hc hgood HB HLen HIn HGs
            go_wp2_with fail
            go_region_held3 (fun w' => w'.cell? ⟨R.r, 0, none⟩ = some (num R.n) ∧ w'.cell? ⟨R.r, 1, none⟩ = some (num R.m)) (first | assumption | exact HK0.out) (fail)
            go_wp2
            go_ret2
            exact HF.out
      · have HF : Hid (KParsePost w d (.returned (.tuple #[.pointer none, num 81])) w2.drew) := .inl ⟨rfl, grownBy_drew hG2, fun ⟨n, m, _, _, hn, hm, hl, _⟩ => hlen (by rw [hl, hz, HNN.out, HMM.out, hn, hm])⟩
        have q5 : ((d.length : Int) != 2 + 5 * (z : Int)) = true := by simp; omega
        clear hRM hR2 hG2 hz hR hc b0 b1 hg1 HS0 HN hS2 wN wM hlen HRM HR2 HG2 HZ HNN HMM hs1 hlg
        go_wp2_with fail
        go_region_held3 (fun w' => w'.cell? ⟨R.r, 0, none⟩ = some (num R.n) ∧ w'.cell? ⟨R.r, 1, none⟩ = some (num R.m)) (first | assumption | exact HT0.out) (fail)
        clear HT0
        go_wp2
        go_ret2
        exact HF.out
    · have HN := hide (fun V (h : w1.grownBy V none ∧ V.cell? ⟨g, o, none⟩ = some (q8 N) ∧ V.cell? ⟨g, o + 1, none⟩ = some (q8 M)) => (kNew_no (N : Int) (M : Int) hin V).mono (R' := fun e w' => e = .returned (.tuple #[.pointer none, num 1]) ∧ (w1.grownBy w' none ∧ w'.cell? ⟨g, o, none⟩ = some (q8 N) ∧ w'.cell? ⟨g, o + 1, none⟩ = some (q8 M))) (fun e w' ⟨e1, e2⟩ => ⟨e1, by rw [e2]; exact h⟩))
      go_wp2_with fail
      go_region_held3 (fun w' => w1.grownBy w' none ∧ w'.cell? ⟨g, o, none⟩ = some (q8 N) ∧ w'.cell? ⟨g, o + 1, none⟩ = some (q8 M)) (first | assumption | exact HS0.out)
        (first | (go_at_call 8; refine (HN.out _ (by assumption)).mono ?_; rintro e w2 ⟨rfl, hS2⟩))
      have HF : Hid (∀ n, KParsePost w d (.returned (.tuple #[.pointer none, num 81])) (w2.drewN n)) := fun _ => .inl ⟨rfl, grownBy_drewN (grownBy_trans hg1 hS2.1) _, fun ⟨n, m, h, _, hn, hm, _⟩ => hin (by rw [HNN.out, HMM.out, ← hn, ← hm]; exact h)⟩
      clear hS2 hR hc b0 b1 hg1 HS0
      go_wp2_with fail
      go_quiet (fail)
      revert nq
      intro n1
      go_wp2
      go_ret2
      exact HF.out n1
end Bk
end Go.Proofs.YtoakokpeomlkjaaDoor
