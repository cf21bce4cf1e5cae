/- Layer 6 (stripe): New, Parity. -/
import Derived.Test.YtjokedggmhiklaaSv
namespace Go.Proofs.Ytjokedggmhiklaa
open Go.RowKit Go.Maps
namespace Sp
def NewPost (w : World) (S N wd p : Nat) (X : Nat → Leaf) (e : Ending) (w' : World) : Prop :=
  ∃ g gs gb, e = .returned (.tuple #[.pointer (some ⟨g, 0, none⟩), num 0]) ∧ w.grownBy w' none ∧ w.heap.size ≤ g ∧ OpenM w' g S N wd p 0 gs gb X
set_option maxHeartbeats 3200000 in
set_option maxRecDepth 4000 in
theorem New_ok {S N row wd : Nat} (w : World) (X : Nat → Leaf) (hl : LayMay S N) (hr : (row : Int) ≤ 9223372036854775807) (h2 : 2 ≤ wd) (h3 : wd ≤ 255) :
    Calls Try.prog 18 #[layV S N 1, num row, num wd] w (NewPost w S N wd (wd - 1 - row % wd) X) := by
  obtain ⟨W, hW⟩ : ∃ W, W = w.alloc (layL S N 1) := ⟨_, rfl⟩
  have hgW : w.grownBy W none := by rw [hW]; exact World.grownBy_alloc w _ none
  have hb1 : W.heap[w.heap.size]? = some (layL S N 1) := by rw [hW]; exact heap_alloc_new w _
  have Hw : Hid _ := hW
  have hN : N ≤ 1000 ∧ S ≤ 1000 := by unfold LayMay at hl; omega
  have HS : Hid (Calls Try.prog 12 #[layV S N 1, nilS] W (SumLeaf W S N 0 X)) := sum_leaf (K := All) (Rows.nil _ _ _) (by omega) S N hN.2 hN.1 1 ⟨hl, fun a ha => by omega⟩
  have HP : Hid (∀ w, Calls Try.prog 10 #[num row, num wd] w fun e w' => e = .returned (num ((wd - 1 - row % wd : Nat) : Int)) ∧ w' = w) := fun w => by
    refine (place_ok (row : Int) (wd : Int) hr w).mono ?_
    rintro e w' ⟨rfl, rfl⟩
    refine ⟨?_, rfl⟩
    have hm : row % wd < wd := Nat.mod_lt _ (by omega)
    have e1 : placeS (row : Int) (wd : Int) = ((wd - 1 - row % wd : Nat) : Int) := by
      unfold placeS
      rw [if_neg (by omega)]
      have : ((row % wd : Nat) : Int) = (row : Int) % (wd : Int) := by simp
      omega
    rw [e1]
  have c0 : W.cell? ⟨w.heap.size, 0, none⟩ = some (num S) := cell_at hb1 rfl
  have c1 : W.cell? ⟨w.heap.size, 1, none⟩ = some (num N) := cell_at hb1 rfl
  have c2 : W.cell? ⟨w.heap.size, 2, none⟩ = some (num 1) := cell_at hb1 rfl
  obtain ⟨p, hp⟩ : ∃ p, p = wd - 1 - row % wd := ⟨_, rfl⟩
  rw [← hp] at HP ⊢
  have p0 : (0 : Int) ≤ (p : Int) := by omega
  have p1 : ¬ (p : Int) < 0 := by omega
  clear hW hp hl hr
  go_enter Try.func18, Try.ntmps18
  go_wp2_with (rw [← Hw.out])
  refine HS.out.mono ?_
  rintro e w2 ⟨gs, gb, rfl, hg2, hL⟩
  obtain ⟨w3, hw3⟩ : ∃ w3, w3 = w2.alloc (leafL (sl0 gs N) (sl0 gb N)) := ⟨_, rfl⟩
  have g3 : w2.grownBy w3 none := by rw [hw3]; exact World.grownBy_alloc w2 _ none
  have b3 : w3.heap[w2.heap.size]? = some (leafL (sl0 gs N) (sl0 gb N)) := by rw [hw3]; exact heap_alloc_new w2 _
  have g13 := grownBy_trans hg2 g3
  have bl := (g13.block _ (lt_of_heap hb1) (by simp)).trans hb1
  have L3 : Hid _ := hL.growN g3
  have Hw3 : Hid _ := hw3
  clear c0 c1 c2 hb1 hw3 hL hg2
  have c0 : w3.cell? ⟨w.heap.size, 0, none⟩ = some (num S) := cell_at bl rfl
  have c1 : w3.cell? ⟨w.heap.size, 1, none⟩ = some (num N) := cell_at bl rfl
  have c2 : w3.cell? ⟨w.heap.size, 2, none⟩ = some (num 1) := cell_at bl rfl
  have c3 : w3.cell? ⟨w2.heap.size, 0, none⟩ = some (sl0 gs N) := cell_at b3 rfl
  have c4 : w3.cell? ⟨w2.heap.size, 1, none⟩ = some (sl0 gb N) := cell_at b3 rfl
  have HF : Hid (NewPost w S N wd p X (.returned (.tuple #[.pointer (some ⟨w3.heap.size, 0, none⟩), num 0])) (w3.alloc (openO S N wd p 0 (sl0 gs N) (sl0 gb N)))) := by
    have ga := World.grownBy_alloc w3 (openO S N wd p 0 (sl0 gs N) (sl0 gb N)) none
    have gw := grownBy_trans hgW g13
    refine ⟨_, gs, gb, rfl, grownBy_trans gw ga, gw.size, heap_alloc_new w3 _, ((L3.out.sub (K' := fun b => b < w3.heap.size ∧ KT w3 0 b) fun b hb => ?_).more ga).sub fun b hb => ⟨by have := hb.1; omega, hb.2.more ga (by simp)⟩⟩
    have h2 := hb.low (Nat.zero_le _)
    obtain ⟨_, L, t, h3, _⟩ := hb
    exact ⟨lt_of_heap h3, h2⟩
  clear bl g3 g13 b3 hgW
  go_wp2_with (first | (rw [← Hw3.out]) | (go_at_call 10; refine (HP.out _).mono ?_; rintro e wx ⟨rfl, rfl⟩))
  go_ret2
  exact HF.out
/-- The sum of one leaf. -/
theorem sum_of_one {S N : Nat} {k : Nat} {X : Nat → Leaf} : sumS S N 1 (fun _ => sumS S N k X) = sumS S N k X := by
  have e1 : sumSlot 1 (fun _ => sumS S N k X) = sumSlot k X := by
    funext i
    simp [sumSlot, xorN, sumS]
  have e2 : sumSec S 1 (fun _ => sumS S N k X) = sumSec S k X := by
    funext i
    unfold sumSec
    refine List.map_congr_left fun j hj => ?_
    have hj' : j < S := by simpa using hj
    show xorN 1 _ = _
    simp only [xorN, Nat.zero_xor]
    show nth (sumSec S k X i) j = _
    rw [nth_sumSec hj']
  unfold sumS at e1 e2 ⊢
  rw [e1, e2]
/-- The sum of a sum and one more leaf. -/
theorem sum_of_two {S N : Nat} {k : Nat} {X Y : Nat → Leaf} (h0 : Y 0 = sumS S N k X) (h1 : Y 1 = X k) : sumS S N 2 Y = sumS S N (k + 1) X := by
  have e1 : sumSlot 2 Y = sumSlot (k + 1) X := by
    funext i
    simp [sumSlot, xorN, h0, h1, sumS]
  have e2 : sumSec S 2 Y = sumSec S (k + 1) X := by
    funext i
    unfold sumSec
    refine List.map_congr_left fun j hj => ?_
    have hj' : j < S := by simpa using hj
    simp only [xorN, Nat.zero_xor, h0, h1]
    show nth (sumSec S k X i) j ^^^ _ = _
    rw [nth_sumSec hj']
  unfold sumS at e1 e2 ⊢
  rw [e1, e2]
theorem sum_may {S N k : Nat} {X : Nat → Leaf} (hi : ∀ a, a < k → ∀ i, i < N → SlotI ((X a).slot i)) (hm : ∀ a, a < k → May S N (X a)) : May S N (sumS S N k X) :=
  ⟨rfl, rfl, fun i hi' => (sumSlot_i (fun a ha => hi a ha i hi') fun a ha => (hm a ha).slot i (by have := (hm a ha).n; have e : (sumS S N k X).n = N := rfl; omega)).2, fun i _ => .inr (by show ((sumSec S k X i).length : Int) = _; rw [sumSec_len])⟩
/-- What stands when a sum is made, behind w0. -/
structure FinA (w0 w : World) (gC S N gs gb : Nat) (x : Leaf) : Prop where
  grown : w0.grownBy w none
  bC : w.heap[gC]? = some (leafL (sl0 gs N) (sl0 gb N))
  l3 : LeafM w (KT w w0.heap.size) (sl0 gs N) (sl0 gb N) x
theorem fina_set {w0 w : World} {gz S N gs gb B : Nat} {x : Leaf} (h : w0.grownBy w none) (hz : w.heap[gz]? = some (leafL nilS nilS)) (n0 : w0.heap.size ≤ gz) (hl : LeafM w (KT w B) (sl0 gs N) (sl0 gb N) x) (hB : w0.heap.size ≤ B) : FinA w0 ((w.setCell ⟨gz, 0, none⟩ (sl0 gs N)).setCell ⟨gz, 1, none⟩ (sl0 gb N)) gz S N gs gb x := by
  have z1 := box_put (o := 0) (v := sl0 gs N) hz (.inl rfl)
  have z2 := box_put (o := 1) (v := sl0 gb N) z1 (.inr rfl)
  exact ⟨grownBy_set (grownBy_set h n0 _) n0 _, z2, ((hl.box hz).box z1).sub fun _ hk => hk.low hB⟩
theorem fina_alloc {w0 w : World} {S N gs gb B : Nat} {x : Leaf} (h : w0.grownBy w none) (hl : LeafM w (KT w B) (sl0 gs N) (sl0 gb N) x) (hB : w0.heap.size ≤ B) : FinA w0 (w.alloc (leafL (sl0 gs N) (sl0 gb N))) w.heap.size S N gs gb x :=
  ⟨grownBy_alloc' h _, heap_alloc_new w _, (hl.growN (World.grownBy_alloc w _ none)).sub fun _ hk => hk.low hB⟩
end Sp
end Go.Proofs.Ytjokedggmhiklaa
