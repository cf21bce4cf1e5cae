/- Layer 6 (stripe): Mend. -/
import Derived.Test.YtjokedggmhiklaaSq
namespace Go.Proofs.Ytjokedggmhiklaa
open Go.RowKit Go.Maps
namespace Sp
/-- What a call answers that makes a leaf, or refuses. -/
def Ans (w : World) (good : Prop) (x : Leaf) (e : Ending) (w' : World) : Prop :=
  ∃ (a1 : Option Addr) (n1 c1 : Nat) (a2 : Option Addr) (n2 c2 : Nat) (er : Int), e = .returned (.tuple #[.agg #[.slice a1 n1 c1, .slice a2 n2 c2], num er]) ∧ w.grownBy w' none ∧
    ((good ∧ er = 0 ∧ ∃ B, LeafM w' (KT w' B) (.slice a1 n1 c1) (.slice a2 n2 c2) x) ∨ (¬ good ∧ er = 1 ∧ a1 = none ∧ n1 = 0 ∧ c1 = 0 ∧ a2 = none ∧ n2 = 0 ∧ c2 = 0))
theorem sum_ans {w : World} {K : Nat → Prop} {v : Value} {n : Nat} {xs : Nat → Leaf} (h : LeavesM w K v n xs) (hn : n ≤ 2932031007402) (S N T : Int) : Calls Try.prog 12 #[layV S N T, v] w (Ans w (Good S N n xs) (sumS S.toNat N.toNat n xs)) := by
  refine (sum_ok h hn S N T).mono ?_
  rintro e w' (⟨hg, gs, gb, gk, h1, h2, h3⟩ | ⟨h1, h2, h3⟩)
  · have hl := hg.1
    unfold LayMay at hl
    exact ⟨_, _, _, _, _, _, 0, h1, h2, .inl ⟨hg, rfl, _, h3.leafT (by omega) (by omega)⟩⟩
  · exact ⟨none, 0, 0, none, 0, 0, 1, h2, h3, .inr ⟨h1, rfl, rfl, rfl, rfl, rfl, rfl, rfl⟩⟩
theorem LeavesM.congr {w : World} {K : Nat → Prop} {v : Value} {n : Nat} {f g : Nat → Leaf} (h : LeavesM w K v n f) (e : ∀ k, k < n → f k = g k) : LeavesM w K v n g := h.imp (fun _ => id) fun k _ _ hk _ he => by rw [← e k hk]; exact he
def others (X : Nat → Leaf) (m k : Nat) : Leaf := if k < m then X k else X (k + 1)
def MendGood (S N : Int) (n : Nat) (X : Nat → Leaf) (m : Int) : Prop := 0 ≤ m ∧ m < n ∧ 2 ≤ n ∧ Good S N (n - 1) (others X m.toNat)
abbrev MendS (S N : Int) (n : Nat) (X : Nat → Leaf) (m : Int) : Leaf := sumS S.toNat N.toNat (n - 1) (others X m.toNat)
abbrev Three (w : World) (b : Nat) (x0 x1 x2 : Value) : Prop := w.cell? ⟨b, 0, none⟩ = some x0 ∧ w.cell? ⟨b, 1, none⟩ = some x1 ∧ w.cell? ⟨b, 2, none⟩ = some x2
theorem three_keep {w w' : World} {b : Nat} {x0 x1 x2 : Value} (h : Three w b x0 x1 x2) (hg : w.grownBy w' none) : Three w' b x0 x1 x2 := by
  have k := Kept.of_grown (K := All) hg
  exact ⟨k.cell trivial h.1, k.cell trivial h.2.1, k.cell trivial h.2.2⟩
theorem three_set {w : World} {b : Nat} {x0 x1 x2 : Value} (h : Three w b x0 x1 x2) {g' o' : Nat} {v : Value} (hn : b ≠ g') : Three (w.setCell ⟨g', o', none⟩ v) b x0 x1 x2 := ⟨cell_else h.1 hn, cell_else h.2.1 hn, cell_else h.2.2 hn⟩
theorem slice_lo (w : World) (g off n cap m : Nat) (h : m ≤ cap) : (Instr.slice 28 (.slice (some ⟨g, off, none⟩) n cap) none (some (num (m : Int))) none).run Try.prog w = .ok (.slice (some ⟨g, off, none⟩) m cap) w := by
  have k1 : (m : Int) ≤ (cap : Int) := by omega
  go_simp
theorem slice_hi (w : World) (g off n cap m : Nat) (h : m + 1 ≤ n) (hc : n ≤ cap) : (Instr.slice 28 (.slice (some ⟨g, off, none⟩) n cap) (some (num ((m : Int) + 1))) none none).run Try.prog w = .ok (.slice (some ⟨g, if m + 1 < cap then off + (m + 1) * 2 else off, none⟩) (n - (m + 1)) (cap - (m + 1))) w := by
  by_cases h3 : m + 1 < cap
  · have k1 : (m : Int) + 1 ≤ (n : Int) := by omega
    have k2 : (m : Int) + 1 < (cap : Int) := by omega
    have k3 : (n : Int) ≤ (cap : Int) := by omega
    rw [if_pos h3]
    go_simp
    rw [if_pos (by omega), if_neg (by omega)]
  · rw [if_neg h3]
    obtain rfl : n = m + 1 := by omega
    obtain rfl : cap = m + 1 := by omega
    go_simp
    intro hh
    omega
set_option maxHeartbeats 6400000 in
set_option maxRecDepth 4000 in
theorem mend_ok {w : World} {K : Nat → Prop} {v : Value} {n : Nat} {X : Nat → Leaf} (h : LeavesM w K v n X) (hn : n ≤ 2932031007402) (S N T m : Int) :
    Calls Try.prog 14 #[layV S N T, v, num m] w (Ans w (MendGood S N n X m) (MendS S N n X m)) := by
  obtain ⟨ao, cap, rfl, s1, s2, _⟩ := id h
  have n1 : (n : Int) ≤ 2932031007402 := by omega
  obtain ⟨W, hW⟩ : ∃ W, W = (w.alloc (layL S N T)).alloc (leafL nilS nilS) := ⟨_, rfl⟩
  have hgW : w.grownBy W none := by rw [hW]; exact grownBy_alloc' (World.grownBy_alloc w _ none) _
  have hb1 : W.heap[w.heap.size]? = some (layL S N T) := by rw [hW, (World.grownBy_alloc (w.alloc (layL S N T)) _ none).block _ (lt_of_heap (heap_alloc_new w _)) (by simp)]; exact heap_alloc_new w _
  have hb2 : W.heap[w.heap.size + 1]? = some (leafL nilS nilS) := by
    have := heap_alloc_new (w.alloc (layL S N T)) (leafL nilS nilS)
    rw [hW]; simpa using this
  have hrefuse : ∀ u, ¬ MendGood S N n X m → Ans w (MendGood S N n X m) (MendS S N n X m) (.returned (.tuple #[noLeaf, num 1])) u ∨ ¬ w.grownBy u none := fun u hg => by
    by_cases hu : w.grownBy u none
    · exact .inl ⟨none, 0, 0, none, 0, 0, 1, rfl, hu, .inr ⟨hg, rfl, rfl, rfl, rfl, rfl, rfl, rfl⟩⟩
    · exact .inr hu
  have HRe : Hid (∀ u, ¬ MendGood S N n X m → w.grownBy u none → Ans w (MendGood S N n X m) (MendS S N n X m) (.returned (.tuple #[noLeaf, num 1])) u) := fun u hg hu => (hrefuse u hg).resolve_right fun h => h hu
  have Hw : Hid _ := hW
  have x0 : W.cell? ⟨w.heap.size + 1, 0, none⟩ = some nilS := cell_at hb2 rfl
  have x1 : W.cell? ⟨w.heap.size + 1, 1, none⟩ = some nilS := cell_at hb2 rfl
  have x2 : W.frozen? ⟨w.heap.size + 1, 0, none⟩ = false := free_at hb2
  have x3 : W.frozen? ⟨w.heap.size + 1, 1, none⟩ = false := free_at hb2
  have q0 := set_two0 x0 nilS
  have q1 := set_two1 (u := nilS) x1 nilS
  have HG0 : Hid (w.grownBy ((W.setCell ⟨w.heap.size + 1, 0, none⟩ nilS).setCell ⟨w.heap.size + 1, 1, none⟩ nilS) none) := grownBy_set (grownBy_set hgW (by omega) _) (by omega) _
  clear hrefuse
  by_cases h1 : m < 0
  · have e1 : decide (m < 0) = true := by simpa using h1
    have hno : Hid (¬ MendGood S N n X m) := fun hg => by have := hg.1; omega
    clear hW hb1 hb2
    go_enter Try.func14, Try.ntmps14
    go_wp2_with (rw [← Hw.out])
    exact bodyPost_ret (v := .tuple #[noLeaf, num 1]) (by simp [results, Try.results14, go_sem, q0, q1]) rfl (HRe.out _ hno.out HG0.out)
  · have e1 : decide (m < 0) = false := by simpa using h1
    by_cases h2 : (n : Int) ≤ m
    · have e2 : decide ((n : Int) ≤ m) = true := by simpa using h2
      have hno : Hid (¬ MendGood S N n X m) := fun hg => by have := hg.2.1; omega
      clear hW hb1 hb2
      go_enter Try.func14, Try.ntmps14
      go_wp2_with (rw [← Hw.out])
      exact bodyPost_ret (v := .tuple #[noLeaf, num 1]) (by simp [results, Try.results14, go_sem, q0, q1]) rfl (HRe.out _ hno.out HG0.out)
    · have e2 : decide ((n : Int) ≤ m) = false := by simpa using h2
      by_cases h3 : (n : Int) < 2
      · have e3 : decide ((n : Int) < 2) = true := by simpa using h3
        have hno : Hid (¬ MendGood S N n X m) := fun hg => by have := hg.2.2.1; omega
        clear hW hb1 hb2
        go_enter Try.func14, Try.ntmps14
        go_wp2_with (rw [← Hw.out])
        exact bodyPost_ret (v := .tuple #[noLeaf, num 1]) (by simp [results, Try.results14, go_sem, q0, q1]) rfl (HRe.out _ hno.out HG0.out)
      · have e3 : decide ((n : Int) < 2) = false := by simpa using h3
        obtain ⟨m, rfl⟩ : ∃ m' : Nat, m = m' := ⟨m.toNat, by omega⟩
        have hmn : m < n := by omega
        have hn2 : 2 ≤ n := by omega
        obtain ⟨g, off, rfl, _, _, _, hat⟩ := h.at (k := 0) (by omega)
        have k1 : (m : Int) < (n : Int) := by omega
        have k2 : (m : Int) + 1 ≤ (n : Int) := by omega
        have k3 : (n : Int) ≤ (cap : Int) := by omega
        have k4 : (cap : Int) ≤ 9223372036854775807 := by omega
        obtain ⟨o2, ho2⟩ : ∃ o2, o2 = if m + 1 < cap then off + (m + 1) * 2 else off := ⟨_, rfl⟩
        obtain ⟨lb, hlb⟩ : ∃ lb, lb = n - (m + 1) := ⟨_, rfl⟩
        obtain ⟨cb, hcb⟩ : ∃ cb, cb = cap - (m + 1) := ⟨_, rfl⟩
        obtain ⟨R, hR⟩ : ∃ R : Obj, R = .cells #[.slice (some ⟨g, off, none⟩) m cap, .slice (some ⟨g, o2, none⟩) lb cb] 28 := ⟨_, rfl⟩
        have hVr : (W.alloc R).drew.heap[W.heap.size]? = some R := heap_alloc_new W R
        have hgV : W.grownBy (W.alloc R).drew none := grownBy_drew (World.grownBy_alloc W R none)
        have hgwV := grownBy_trans hgW hgV
        have hatV : ∀ k, k < n → LeafAt (W.alloc R).drew K g (off + k * 2) (X k) := fun k hk => (hat k hk).kept (.of_grown hgwV) (by
          obtain ⟨_, _, e, _, _, h4⟩ := id h
          obtain ⟨g', off', e', hK', _⟩ := h4.resolve_left (by omega)
          obtain ⟨rfl, -, rfl⟩ := Value.slice.inj e
          simp only [Option.some.injEq, Addr.mk.injEq] at e'
          rw [e'.1]; exact hK')
        have hB : ∀ k, k < lb → LeafAt (W.alloc R).drew K g (o2 + k * 2) (X (m + 1 + k)) := fun k hk => by
          have := hatV (m + 1 + k) (by omega)
          rw [ho2, if_pos (by omega)]
          rwa [show off + (m + 1) * 2 + k * 2 = off + (m + 1 + k) * 2 by omega]
        have hcat := concat_ok (w := (W.alloc R).drew) (K := K) (ga := W.heap.size) (A := X) (B := fun k => X (m + 1 + k)) (cell_at (by rw [hVr, hR]) rfl) (cell_at (by rw [hVr, hR]) rfl) (fun k hk => hatV k (by omega)) hB (by omega) (by omega)
        have hsame : ∀ k, k < m + lb → (if k < m then X k else X (m + 1 + (k - m))) = others X m k := fun k _ => by
          unfold others
          by_cases hk : k < m
          · simp [hk]
          · rw [if_neg hk, if_neg hk, show m + 1 + (k - m) = k + 1 by omega]
        have hml : m + lb = n - 1 := by omega
        have HCat : Hid (Calls Try.prog 31 #[.slice (some ⟨W.heap.size, 0, none⟩) 2 2] (W.alloc R).drew fun e w' => ∃ a c, e = .returned (.slice a (n - 1) c) ∧ (W.alloc R).drew.grownBy w' none ∧ LeavesM w' All (.slice a (n - 1) c) (n - 1) (others X m)) := by
          refine hcat.mono ?_
          rintro e w' ⟨v, rfl, hg, hL⟩
          have hL' := hL.congr hsame
          rw [hml] at hL'
          obtain ⟨a, c, rfl, _⟩ := id hL'
          exact ⟨a, c, rfl, hg, hL'⟩
        have HGd : Hid (Good S N (n - 1) (others X m) ↔ MendGood S N n X m) := ⟨fun hg => ⟨by omega, by omega, hn2, by simpa using hg⟩, fun hg => by simpa using hg.2.2.2⟩
        have HMs : Hid (MendS S N n X m = sumS S.toNat N.toNat (n - 1) (others X m)) := by simp [Hid, MendS]
        have HS0 : Hid (Three W.drew w.heap.size (num S) (num N) (num T)) := ⟨cell_at hb1 rfl, cell_at hb1 rfl, cell_at hb1 rfl⟩
        have HBo : Hid (∀ wx, W.grownBy wx none → wx.heap[w.heap.size + 1]? = some (leafL nilS nilS)) := fun wx hg => (hg.block _ (lt_of_heap hb2) (by simp)).trans hb2
        have HGV : Hid _ := hgV
        have HgW : Hid _ := hgW
        have hcat2 : True := trivial
        clear hW hb1 hb2 hVr hgV hgwV hatV hB hcat hsame hml hcat2 x0 x1 x2 x3 q0 q1 HG0 HRe hat
        have hsl1 := fun wx => slice_lo wx g off n cap m (by omega)
        have hsl2 := fun wx => slice_hi wx g off n cap m (by omega) s1
        rw [← ho2, ← hlb, ← hcb] at hsl2
        subst hR
        have hw1 : IntKind.i64.wrap ((m : Int) + 1) = (m : Int) + 1 := by rw [IntKind.wrap_i64]; omega
        clear ho2 hlb hcb
        go_enter Try.func14, Try.ntmps14
        go_wp2_with (rw [← Hw.out])
        go_region_held3? (fun w' => w'.cell? ⟨w.heap.size, 0, none⟩ = some (num S) ∧ w'.cell? ⟨w.heap.size, 1, none⟩ = some (num N) ∧ w'.cell? ⟨w.heap.size, 2, none⟩ = some (num T)) (first | assumption | exact HS0.out | exact three_keep ‹_› (World.grownBy_alloc _ _ _) | exact three_keep ‹_› ‹_› | exact three_set (three_set ‹_› (by simp)) (by simp))
          (first | (go_at_call 31; refine HCat.out.mono ?_; rintro e wc ⟨ca, cc, rfl, hgc, hLc⟩) | (go_at_call 12; refine (sum_ans hLc (by omega) S N T).mono ?_; rintro e wd ⟨a1, n1', c1, a2, n2', c2, er, rfl, hgd, hAn⟩; have hgWd := grownBy_trans HGV.out (grownBy_trans hgc hgd); have hbd := HBo.out wd hgWd; have zc0 := cell_at (o := 0) hbd rfl; have zc1 := cell_at (o := 1) hbd rfl; have zf0 := free_at (o := 0) hbd; have zf1 := free_at (o := 1) hbd))
        all_goals
          have HG4 : Hid (w.grownBy ((wd.setCell ⟨w.heap.size + 1, 0, none⟩ (.slice a1 n1' c1)).setCell ⟨w.heap.size + 1, 1, none⟩ (.slice a2 n2' c2)) none) := grownBy_set (grownBy_set (grownBy_trans HgW.out hgWd) (by omega) _) (by omega) _
          have z0 := set_two0 zc0 (.slice a1 n1' c1)
          have z1 := set_two1 (u := .slice a1 n1' c1) zc1 (.slice a2 n2' c2)
          have HF : Hid ((MendGood S N n X m ∧ er = 0 ∧ ∃ B, LeafM ((wd.setCell ⟨w.heap.size + 1, 0, none⟩ (.slice a1 n1' c1)).setCell ⟨w.heap.size + 1, 1, none⟩ (.slice a2 n2' c2)) (KT ((wd.setCell ⟨w.heap.size + 1, 0, none⟩ (.slice a1 n1' c1)).setCell ⟨w.heap.size + 1, 1, none⟩ (.slice a2 n2' c2)) B) (.slice a1 n1' c1) (.slice a2 n2' c2) (MendS S N n X m)) ∨ (¬ MendGood S N n X m ∧ er = 1 ∧ a1 = none ∧ n1' = 0 ∧ c1 = 0 ∧ a2 = none ∧ n2' = 0 ∧ c2 = 0)) := by
            rcases hAn with ⟨p1, p2, B, p3⟩ | ⟨p1, p2⟩
            · left
              refine ⟨HGd.out.1 p1, p2, B, ?_⟩
              rw [HMs.out]
              exact (p3.box hbd).box (box_put hbd (.inl rfl))
            · exact .inr ⟨fun h => p1 (HGd.out.2 h), p2⟩
          clear hAn HGd HMs zc0 zc1 zf0 zf1 hbd hgWd hgd hgc hLc HBo HCat
          go_wp2
          exact bodyPost_ret (v := .tuple #[.agg #[.slice a1 n1' c1, .slice a2 n2' c2], num er]) (by simp [results, Try.results14, go_sem, z0, z1]) rfl ⟨_, _, _, _, _, _, _, rfl, HG4.out, HF.out⟩
end Sp
end Go.Proofs.Ytjokedggmhiklaa
