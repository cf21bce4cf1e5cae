/- Layer 6 (stripe): Grow, Concat of two rows of leaves. -/
import Derived.Test.YtjokedggmhiklaaSp
import Derived.Lib.AppendZeros
namespace Go.Proofs.Ytjokedggmhiklaa
open Go.RowKit Go.Maps
namespace Sp
theorem flat_append (E F : Nat → List Value) : ∀ (b a : Nat), flat a E ++ flat b F = flat (a + b) fun k => if k < a then E k else F (k - a)
  | 0, a => by
    rw [flat_zero, List.append_nil, Nat.add_zero]
    exact flat_congr a fun k hk => by simp [hk]
  | b + 1, a => by
    rw [flat_succ, ← List.append_assoc, flat_append E F b a, ← Nat.add_assoc, flat_succ]
    simp [show ¬ a + b < a by omega]
/-- A row's cells, as they lie. -/
theorem leaves_cells {w : World} {K : Nat → Prop} {g o n : Nat} {f : Nat → Leaf} (h : ∀ k, k < n → LeafAt w K g (o + k * 2) (f k)) : ∃ s b : Nat → Value, (∀ k, k < n → LeafM w K (s k) (b k) (f k) ∧ (s k).oneCell' = true ∧ (b k).oneCell' = true) ∧ ∀ j u, (flat n (twoE s b))[j]? = some u → w.cell? ((⟨g, o, none⟩ : Addr).add j) = some u := by
  have hin : Inhabited (Value × Value) := ⟨(nilS, nilS)⟩
  have each : ∀ k, k < n → ∃ p : Value × Value, w.cell? ⟨g, o + k * 2, none⟩ = some p.1 ∧ w.cell? ⟨g, o + k * 2 + 1, none⟩ = some p.2 ∧ LeafM w K p.1 p.2 (f k) := fun k hk => by
    obtain ⟨sv, bv, h1, h2, h3⟩ := h k hk
    exact ⟨(sv, bv), h1, h2, h3⟩
  obtain ⟨q, hq⟩ := Deep.choose_lt (α := Value × Value) (h := each)
  refine ⟨fun k => (q k).1, fun k => (q k).2, fun k hk => ⟨(hq k hk).2.2, ?_, ?_⟩, fun j u hj => ?_⟩
  · obtain ⟨_, _, e, _⟩ := (hq k hk).2.2.sl
    show (q k).1.oneCell' = true
    rw [e]; rfl
  · obtain ⟨_, _, e, _⟩ := (hq k hk).2.2.se
    show (q k).2.oneCell' = true
    rw [e]; rfl
  · have hl := flat_len (sz := 2) (E := twoE (fun k => (q k).1) fun k => (q k).2) n fun _ _ => rfl
    have hjl : j < n * 2 := by rw [← hl]; exact (List.getElem?_eq_some_iff.1 hj).1
    have hd : j / 2 * 2 + j % 2 = j := by omega
    have hk : j / 2 < n := by omega
    have e := flat_at (sz := 2) (E := twoE (fun k => (q k).1) fun k => (q k).2) (fun _ _ => rfl) hk (show j % 2 < 2 by omega)
    rw [hd, hj] at e
    obtain ⟨h1, h2, _⟩ := hq _ hk
    rw [addr_add', show o + j = o + j / 2 * 2 + j % 2 by omega]
    have hm : j % 2 = 0 ∨ j % 2 = 1 := by omega
    rcases hm with hm | hm <;> rw [hm] at e ⊢ <;> simp [twoE] at e <;> subst e
    · exact h1
    · exact h2
theorem flat_one {n : Nat} {s b : Nat → Value} (h : ∀ k, k < n → (s k).oneCell' = true ∧ (b k).oneCell' = true) : ∀ u ∈ flat n (twoE s b), u.oneCell' = true := fun u hu => by
  simp only [flat, List.mem_flatMap, List.mem_range] at hu
  obtain ⟨k, hk, hu⟩ := hu
  simp [twoE] at hu
  rcases hu with rfl | rfl
  · exact (h k hk).1
  · exact (h k hk).2
set_option maxHeartbeats 1600000 in
theorem grow_nil {w : World} (n : Nat) (h1 : 1 ≤ n) (h2 : n ≤ 2932031007402) : Calls Try.prog 34 #[.slice none 0 0, num n] w fun e w' => ∃ v, e = .returned v ∧ w.grownBy w' none ∧ w'.ownsRow w.heap.size 32 2 v 0 [] := by
  obtain ⟨i0, hi, hz0, hz1, hz2⟩ := info_parts info32
  have hr := Lib.run_append_nil_zeros (P := Try.prog) w 28 3 28 32 i0 (.agg #[nilS, nilS]) .i64 .i64 Try.underlying28 Try.underlying3 hi hz0 n (by omega) (by omega) (by omega) (by rw [hz2]; omega)
  obtain ⟨G, hG⟩ : ∃ G, G = grownCap w n 0 32 := ⟨_, rfl⟩
  have hG1 : n ≤ G := by rw [hG]; exact grownCap_ge _ _ _ _
  have hG2 : G ≤ maxLen := by rw [hG]; exact grownCap_le_maxLen _ _ _ _ (by unfold maxLen; omega)
  rw [← hG] at hr
  obtain ⟨C, hC⟩ : ∃ C, C = Builtin.zeroCells (Value.agg #[nilS, nilS]).cells n ++ Builtin.zeroCells (Value.agg #[nilS, nilS]).cells (G - n) := ⟨_, rfl⟩
  have hCs : C.size = G * 2 := by rw [hC]; simp [Builtin.zeroCells, Value.cells]; omega
  rw [← hC] at hr
  obtain ⟨V, hV⟩ : ∃ V, V = w.drew.alloc (.cells C 32) := ⟨_, rfl⟩
  have hgV : w.grownBy V none := by
    have g := World.grownBy_alloc w.drew (.cells C 32) none
    rw [hV]; exact ⟨g.os, g.tape, g.output, g.size, g.block⟩
  have hrV : V.heap[w.heap.size]? = some (.cells C 32) := by rw [hV]; exact heap_alloc_new w.drew _
  rw [← hV] at hr
  have HR : Hid _ := hr
  have HO : Hid (w.grownBy V none ∧ V.ownsRow w.heap.size 32 2 (.slice (some ⟨w.heap.size, 0, none⟩) 0 G) 0 []) := ⟨hgV, rfl, .inr ⟨w.heap.size, G, C, rfl, Nat.le_refl _, hrV, Nat.zero_le _, hG2, hCs, by simp⟩⟩
  have n1 : (0 : Int) < (n : Int) := by omega
  have n2 : ¬ (n : Int) < 0 := by omega
  have n3 : (n : Int) ≤ 2932031007402 := by omega
  unfold maxLen at hG2
  have g1 : (n : Int) ≤ (G : Int) := by omega
  have g2 : (G : Int) ≤ 9223372036854775807 := by omega
  clear hr hG hC hCs hV hrV hgV
  go_enter Try.func34, Try.ntmps34
  go_wp2_with (first | (at_builtin; refine Lib.wpList_append_run _ rfl (.tmp 20) (.tmp 21) 28 3 rfl _ _ rfl rfl _ _ HR.out ?_))
  go_ret
  exact ⟨_, rfl, HO.out⟩
def catL (la lb j : Nat) : Nat := if j = 0 then 0 else if j = 1 then la else la + lb
theorem catL_next (la lb : Nat) {j : Nat} (h : j < 2) : catL la lb (j + 1) = catL la lb j + (if j = 0 then la else lb) := by
  have : j = 0 ∨ j = 1 := by omega
  rcases this with rfl | rfl <;> simp [catL]
def pick2 {α : Type} (a b : α) (j : Nat) : α := if j = 0 then a else b
def catC (A B : List Value) (j : Nat) : List Value := if j = 0 then [] else if j = 1 then A else A ++ B
theorem catC_next (A B : List Value) {j : Nat} (h : j < 2) : catC A B (j + 1) = catC A B j ++ pick2 A B j := by
  have : j = 0 ∨ j = 1 := by omega
  rcases this with rfl | rfl <;> simp [catC, pick2]
set_option maxHeartbeats 6400000 in
theorem concat_ok {w : World} {K : Nat → Prop} {ga g1 o1 la ca g2 o2 lb cb : Nat} {A B : Nat → Leaf} (h0 : w.cell? ⟨ga, 0, none⟩ = some (.slice (some ⟨g1, o1, none⟩) la ca)) (h1 : w.cell? ⟨ga, 1, none⟩ = some (.slice (some ⟨g2, o2, none⟩) lb cb))
    (hA : ∀ k, k < la → LeafAt w K g1 (o1 + k * 2) (A k)) (hB : ∀ k, k < lb → LeafAt w K g2 (o2 + k * 2) (B k)) (hl1 : 1 ≤ la + lb) (hl2 : la + lb ≤ 2932031007402) :
    Calls Try.prog 31 #[.slice (some ⟨ga, 0, none⟩) 2 2] w fun e w' => ∃ v, e = .returned v ∧ w.grownBy w' none ∧ LeavesM w' All v (la + lb) (fun k => if k < la then A k else B (k - la)) := by
  obtain ⟨i0, hi, hz0, hz1, hz2⟩ := info_parts info32
  obtain ⟨sA, bA, hA1, hA2⟩ := leaves_cells hA
  obtain ⟨sB, bB, hB1, hB2⟩ := leaves_cells hB
  have hcell : ∀ j, j < 2 → w.cell? ⟨ga, j, none⟩ = some (.slice (some ⟨pick2 g1 g2 j, pick2 o1 o2 j, none⟩) (pick2 la lb j) (pick2 ca cb j)) := fun j hj => by
    have : j = 0 ∨ j = 1 := by omega
    rcases this with rfl | rfl
    · exact h0
    · exact h1
  have hnews : ∀ j, j < 2 → ∀ y u, (pick2 (flat la (twoE sA bA)) (flat lb (twoE sB bB)) j)[y]? = some u → w.cell? ((⟨pick2 g1 g2 j, pick2 o1 o2 j, none⟩ : Addr).add y) = some u := fun j hj => by
    have : j = 0 ∨ j = 1 := by omega
    rcases this with rfl | rfl
    · exact hA2
    · exact hB2
  have hone : ∀ j, ∀ u ∈ pick2 (flat la (twoE sA bA)) (flat lb (twoE sB bB)) j, u.oneCell' = true := fun j => by
    unfold pick2
    split
    · exact flat_one fun k hk => (hA1 k hk).2
    · exact flat_one fun k hk => (hB1 k hk).2
  have hlen : ∀ j, (pick2 (flat la (twoE sA bA)) (flat lb (twoE sB bB)) j).length = pick2 la lb j * 2 := fun j => by
    unfold pick2
    split <;> exact flat_len _ fun _ _ => rfl
  have hpl : ∀ j, pick2 la lb j ≤ 2932031007402 := fun j => by unfold pick2; split <;> omega
  have hpk : ∀ j, (if j = 0 then la else lb) = pick2 la lb j := fun j => rfl
  have hsb : ∀ j, catL la lb j ≤ 2932031007402 := fun j => by unfold catL; split; omega; split <;> omega
  have HFin : Hid (∀ wx v, w.grownBy wx none → wx.ownsRow w.heap.size 32 2 v (la + lb) (flat la (twoE sA bA) ++ flat lb (twoE sB bB)) → LeavesM wx All v (la + lb) (fun k => if k < la then A k else B (k - la))) := fun wx v hg ho => by
    rw [flat_append] at ho
    have e : flat (la + lb) (fun k => if k < la then twoE sA bA k else twoE sB bB (k - la)) = flat (la + lb) (twoE (fun k => if k < la then sA k else sB (k - la)) fun k => if k < la then bA k else bB (k - la)) := flat_congr _ fun k _ => by
      by_cases hk : k < la <;> simp [twoE, hk]
    rw [e] at ho
    refine leaves_of_own ho (fun _ _ _ _ => trivial) fun k hk => ?_
    by_cases h : k < la
    · simp only [if_pos h]
      exact ((hA1 k h).1.more hg).sub fun _ _ => trivial
    · simp only [if_neg h]
      exact ((hB1 (k - la) (by omega)).1.more hg).sub fun _ _ => trivial
  have HG : Hid (∀ w, Calls Try.prog 34 #[.slice none 0 0, num ((la + lb : Nat) : Int)] w fun e w' => ∃ v, e = .returned v ∧ w.grownBy w' none ∧ w'.ownsRow w.heap.size 32 2 v 0 []) := fun w => grow_nil (la + lb) hl1 hl2
  have hgl := lt_of_cell h0
  generalize flat la (twoE sA bA) = CA at hnews hone hlen HFin
  generalize flat lb (twoE sB bB) = CB at hnews hone hlen HFin
  have HNews : Hid _ := hnews
  have HOne : Hid _ := hone
  have HLen : Hid _ := hlen
  have HCell : Hid _ := hcell
  clear h0 h1 hA hB hA1 hA2 hB1 hB2 hnews hone hlen hcell
  go_enter Try.func31, Try.ntmps31
  go_wp2_with fail
  go_loopw [3, 11] (fun s i wr => wr = w ∧ ∃ j : Nat, j ≤ 2 ∧ i = num j ∧ s = num ((catL la lb j : Nat) : Int)) (fun _ i _ => 2 - (intOf i).toNat)
  case atStart => exact ⟨rfl, 0, by omega, rfl, rfl⟩
  case round =>
    obtain ⟨hw, j, hj, rfl, rfl⟩ := hrel
    have hw2 := hw.symm
    clear hw
    subst hw2
    by_cases hjl : j < 2
    · have q1 : (j : Int) < 2 := by omega
      have hv := HCell.out j hjl
      have hn := catL_next la lb hjl
      rw [hpk j] at hn
      have k1 := hsb j
      have k2 := hsb (j + 1)
      have k3 := hpl j
      have HN : Hid (((catL la lb j : Nat) : Int) + ((pick2 la lb j : Nat) : Int) = ((catL la lb (j + 1) : Nat) : Int)) := by rw [Hid, hn]; simp
      generalize catL la lb j = S at k1 hn HN
      generalize pick2 la lb j = n at k3 hn HN hv
      have b1 : (S : Int) ≤ 2932031007402 := by omega
      have b2 : (n : Int) ≤ 2932031007402 := by omega
      clear hn hsb hpl hpk k1 k2 k3 hl2
      go_wp2
      go_roundw
      case rel => exact ⟨trivial, j + 1, by omega, by go_num, by rw [HN.out]⟩
      case measure => simp [intOf]; omega
    · obtain rfl : j = 2 := by omega
      have e2 : catL la lb 2 = la + lb := by simp [catL]
      rw [e2]
      clear e2
      go_wp2_with fail
      refine (HG.out _).mono ?_
      rintro e w1 ⟨v1, rfl, hg1, O1⟩
      clear HG
      go_wp2_with fail
      go_loopw [6, 27] (fun u i wr => ∃ (j : Nat) (v0 : Value), v0 = u ∧ j ≤ 2 ∧ i = num j ∧ w.grownBy wr none ∧ wr.ownsRow w.heap.size 32 2 v0 (catL la lb j) (catC CA CB j)) (fun _ i _ => 2 - (intOf i).toNat)
      case atStart => exact ⟨0, _, rfl, by omega, rfl, hg1, O1⟩
      case round =>
        clear O1 hg1
        obtain ⟨k, v, rfl, hk, rfl, hgk, hO⟩ := hrel
        by_cases hkl : k < 2
        · have q1 : (k : Int) < 2 := by omega
          have hu := HCell.out k hkl
          have hu' : wr.cell? ⟨ga, k, none⟩ = some (.slice (some ⟨pick2 g1 g2 k, pick2 o1 o2 k, none⟩) (pick2 la lb k) (pick2 ca cb k)) := (Kept.of_grown (K := All) hgk).cell trivial hu
          have HNx : Hid (catC CA CB (k + 1) = catC CA CB k ++ pick2 CA CB k) := catC_next CA CB hkl
          have HNl : Hid (catL la lb (k + 1) = catL la lb k + pick2 la lb k) := catL_next la lb hkl
          have HN6 : Hid (∀ y u, (pick2 CA CB k)[y]? = some u → wr.cell? ((⟨pick2 g1 g2 k, pick2 o1 o2 k, none⟩ : Addr).add y) = some u) := fun y u hyu => by
            have := HNews.out k hkl y u hyu
            rw [addr_add'] at this ⊢
            exact (Kept.of_grown (K := All) hgk).cell trivial this
          have HO1 : Hid _ := HOne.out k
          have HL1 : Hid _ := HLen.out k
          have HOw : Hid _ := hO
          have HBs : Hid (w.heap.size ≤ wr.heap.size) := hgk.size
          have HE : Hid (∀ (v' : Value) (w' : World), wr.grownBy w' v.ownBlock → w'.ownsRow w.heap.size 32 2 v' (catL la lb k + pick2 la lb k) (catC CA CB k ++ pick2 CA CB k) → w.grownBy w' none ∧ w'.ownsRow w.heap.size 32 2 v' (catL la lb (k + 1)) (catC CA CB (k + 1))) := fun v' w' hg' ho' => ⟨own_grown HOw.out hgk (Nat.le_refl _) hg', by rw [HNx.out, HNl.out]; exact ho'⟩
          have m1 := hsb k
          have m2 := hpl k
          have m3 : catL la lb k + pick2 la lb k ≤ 2932031007402 := by have := hsb (k + 1); rw [HNl.out] at this; exact this
          clear hu hO hgk
          go_wp2_with (first | (at_builtin; refine wpList_append_own _ rfl (.tmp 31) (.tmp 32) 28 rfl w.heap.size 32 i0 (.agg #[nilS, nilS]) 2 48 Try.underlying28 hi hz0 hz1 hz2 rfl (by decide) _ (catL la lb k) (catC CA CB k) rfl HOw.out ⟨pick2 g1 g2 k, pick2 o1 o2 k, none⟩ (pick2 la lb k) (pick2 ca cb k) (pick2 CA CB k) rfl HL1.out HN6.out HO1.out (by unfold maxLen; omega) (by omega) HBs.out ?_; intro v7 w7 hown7 hg7 _))
          obtain ⟨r1, r2⟩ := HE.out v7 w7 hg7 hown7
          have HR1 : Hid _ := r1
          have HR2 : Hid _ := r2
          clear hown7 hg7 r1 r2 HE HOw HN6
          go_wp2
          go_roundw
          case rel => exact ⟨k + 1, _, rfl, by omega, by go_num, HR1.out, HR2.out⟩
          case measure => simp [intOf]; omega
        · obtain rfl : k = 2 := by omega
          have HF : Hid (LeavesM wr All v (la + lb) (fun k => if k < la then A k else B (k - la))) := HFin.out wr v hgk hO
          have HGk : Hid _ := hgk
          clear hO hgk
          go_wp2
          go_ret
          exact ⟨_, rfl, HGk.out, HF.out⟩
end Sp
end Go.Proofs.Ytjokedggmhiklaa
