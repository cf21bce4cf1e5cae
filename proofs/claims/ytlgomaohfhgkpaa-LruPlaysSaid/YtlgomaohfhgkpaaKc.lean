/- Layer 10 (lru): the document's Get, Drop, Put. -/
import Derived.Test.YtlgomaohfhgkpaaKb
import Derived.BigQuiet
namespace Go.Proofs.Ytlgomaohfhgkpaa
open Go.RowKit Go.Maps Go.Shelf
namespace Lr
theorem RefM.len {w : World} {base r : Nat} {M : Int} {v : Value} {L : List Ent} (h : RefM w base r M v L) : ∃ p cap, v = .slice p L.length cap := by
  obtain ⟨p, cap, e, _⟩ := rowR_form h.row
  exact ⟨p, cap, e⟩
theorem RefS.refl {w : World} {base r : Nat} {M : Int} {v : Value} {L : List Ent} (h : RefM w base r M v L) {w' : World} (hg : w.grownBy w' none) : RefS w w' base r M v L := ⟨v, h.grown hg, .inl rfl, .of_grown hg⟩
theorem RefS.grown {a b c : World} {base r : Nat} {M : Int} {v : Value} {L : List Ent} (h : a.grownBy b none) (k : RefS b c base r M v L) : RefS a c base r M v L := RefS.trans (Stp.of_grown h) (.inl rfl) k
/-- .. where what is new is told by a size. -/
def RefN (B : Nat) (w w' : World) (base r : Nat) (M : Int) (v : Value) (L' : List Ent) : Prop :=
  ∃ v', RefM w' base r M v' L' ∧ (v' = v ∨ ∀ g, v'.ownBlock = some g → B ≤ g) ∧ Stp (fun g => g = r) w w'
theorem RefN.of {B : Nat} {a b c : World} {base r : Nat} {M : Int} {v : Value} {L2 : List Ent} (s : Stp (fun g => g = r) a b) {v1 : Value} (hv : v1 = v ∨ ∀ g, v1.ownBlock = some g → B ≤ g) (hB : B ≤ b.heap.size) (k : RefS b c base r M v1 L2) : RefN B a c base r M v L2 := by
  obtain ⟨v2, h1, h2, h3⟩ := k
  refine ⟨v2, h1, ?_, s.trans h3⟩
  rcases h2 with rfl | h2
  · exact hv
  · exact .inr fun g hg => Nat.le_trans hB (h2 g hg)
theorem RefN.close {B g : Nat} {w a b : World} {base r : Nat} {M : Int} {v : Value} {L : List Ent} (k : RefN B w a base r M v L) (s : Stp (In [g]) a b) (h1 : w.heap.size ≤ g) (h2 : g < B) (hr : r < w.heap.size) (hv : ∀ x, v.ownBlock = some x → x < w.heap.size) : RefN B w b base r M v L := by
  obtain ⟨v', k1, k2, k3⟩ := k
  refine ⟨v', k1.stp s (by simp; omega) (fun x hx => ?_), k2, k3.new s h1⟩
  simp
  rcases k2 with rfl | k2
  · have := hv x hx; omega
  · have := k2 x hx; omega
theorem RefN.to {B : Nat} {w a : World} {base r : Nat} {M : Int} {v : Value} {L : List Ent} (k : RefN B w a base r M v L) (hB : w.heap.size ≤ B) : RefS w a base r M v L := by
  obtain ⟨v', k1, k2, k3⟩ := k
  exact ⟨v', k1, k2.imp id fun h g hg => Nat.le_trans hB (h g hg), k3⟩
theorem RefM.own {w : World} {base r : Nat} {M : Int} {v : Value} {L : List Ent} (h : RefM w base r M v L) : ∀ x, v.ownBlock = some x → x < w.heap.size := fun x hx => (h.row.lt x hx).2
set_option maxRecDepth 8000 in
set_option maxHeartbeats 1600000 in
theorem kGet_ok {w : World} {base r : Nat} {M : Int} {v : Value} {L : List Ent} (h : RefM w base r M v L) (hl : L.length ≤ 1000000) (hd : (L.map Ent.key).Nodup) (k : Int) : Calls Try.prog 15 #[ptr r, num k] w fun q w' => q = .returned (.tuple #[u64v (getV L k), .bool (look L k).isSome]) ∧ RefS w w' base r M v (getL L k) := by
  have H1 := hide (kfind_ok h hl k)
  have HO : Hid (∀ j (hj : j < L.length), L[j].key = k → Calls Try.prog 30 #[ptr r, num j] w fun q w1 => ∃ e : Ent, q = .returned (.agg #[num e.key, u64v e.val, .bool e.dirty]) ∧ ∀ w2, w2 = w1.alloc (entR e) → w2.cell? ⟨w1.heap.size, 0, none⟩ = some (num e.key) ∧ w2.cell? ⟨w1.heap.size, 1, none⟩ = some (u64v e.val) ∧ w2.cell? ⟨w1.heap.size, 2, none⟩ = some (.bool e.dirty) ∧ Calls Try.prog 31 #[ptr r, .agg #[num e.key, u64v e.val, .bool e.dirty]] w2 fun q w3 => (∃ v, q = .returned v) ∧ w3.cell? ⟨w1.heap.size, 1, none⟩ = some (u64v e.val) ∧ ((Ending.returned (.tuple #[u64v e.val, .bool true]) = .returned (.tuple #[u64v (getV L k), .bool (look L k).isSome])) ∧ RefS w w3 base r M v (getL L k))) := hide fun j hj hk => by
    obtain ⟨g1, g2, g3⟩ := get_at hd hj hk
    have hrl := lt_of_heap h.box
    refine (kout_ok h hl hj).mono ?_
    rintro q w1 ⟨rfl, v1, hM1, hv1, hs1⟩
    refine ⟨L[j], rfl, fun w2 hw2 => ?_⟩
    have hg2 : w1.grownBy w2 none := by rw [hw2]; exact World.grownBy_alloc w1 _ none
    have hx : w2.heap[w1.heap.size]? = some (entR L[j]) := by rw [hw2]; exact heap_alloc_new w1 _
    obtain ⟨x0, x1, x2⟩ := cells3R hx
    have hlen := outL_len hj
    refine ⟨x0, x1, x2, (kfirst_ok (hM1.grown hg2) (by omega) L[j]).mono ?_⟩
    rintro q w3 ⟨hq, hS⟩
    refine ⟨hq, ?_, by rw [g1, g2], ?_⟩
    · obtain ⟨v3, _, _, s3⟩ := hS
      exact s3.cell (by have := hs1.size; omega) x1
    · rw [g3]
      exact RefS.trans hs1 hv1 (RefS.grown hg2 hS)
  have HM : Hid ((∀ x ∈ L, x.key ≠ k) → (Ending.returned (.tuple #[u64v 0, .bool false]) = .returned (.tuple #[u64v (getV L k), .bool (look L k).isSome])) ∧ RefS w w base r M v (getL L k)) := hide fun hn => by
    obtain ⟨g1, g2, g3⟩ := get_miss hn
    rw [g1, g2, g3]
    exact ⟨rfl, RefS.refl h (grownBy_refl _ _)⟩
  clear h hd hl
  go_enter Try.func15, Try.ntmps15
  go_wp2_with fail
  refine H1.out.mono ?_
  rintro q w1 ⟨i, rfl, hP, rfl⟩
  clear H1
  rcases hP with ⟨rfl, hn⟩ | ⟨j, rfl, hj, hk⟩
  · have HP := hide (HM.out hn)
    clear HM HO hn
    go_wp2_with fail
    go_ret2
    exact HP.out
  · have HO1 := hide (HO.out j hj hk)
    clear HM HO hk
    have hj0 : ¬ (j : Int) < 0 := by omega
    go_wp2_with fail
    refine HO1.out.mono ?_
    rintro q w2 ⟨e, rfl, hF⟩
    obtain ⟨w3, hw3⟩ : ∃ w3, w3 = w2.alloc (entR e) := ⟨_, rfl⟩
    obtain ⟨x0, x1, x2, hF2⟩ := hF w3 hw3
    have HF := hide hF2
    have HW3 : Hid (w3 = w2.alloc (.cells #[num e.key, u64v e.val, .bool e.dirty] 40)) := hw3
    clear HO1 hF hF2 hw3
    go_wp2_with (rw [← HW3.out])
    refine HF.out.mono ?_
    rintro q w4 ⟨⟨v4, rfl⟩, y1, hP⟩
    have HP := hide hP
    clear HF hP
    go_wp2_with fail
    go_ret2
    exact HP.out
set_option maxRecDepth 8000 in
set_option maxHeartbeats 1600000 in
theorem kDrop_ok {w : World} {base r : Nat} {M : Int} {v : Value} {L : List Ent} (h : RefM w base r M v L) (hl : L.length ≤ 1000000) (hd : (L.map Ent.key).Nodup) (k : Int) : Calls Try.prog 20 #[ptr r, num k] w fun q w' => q = .returned (.tuple #[entV (dropE L k), .bool (look L k).isSome]) ∧ RefS w w' base r M v (rest L k) := by
  obtain ⟨wA, hwA⟩ : ∃ wA, wA = w.alloc (entR zeroE) := ⟨_, rfl⟩
  have gA : w.grownBy wA none := by rw [hwA]; exact World.grownBy_alloc w _ none
  have sA : wA.heap.size = w.heap.size + 1 := by rw [hwA]; simp
  have hx : wA.heap[w.heap.size]? = some (entR zeroE) := by rw [hwA]; exact heap_alloc_new w _
  have hrl := lt_of_heap h.box
  have H1 := hide (kfind_ok (h.grown gA) hl k)
  have HO : Hid (∀ j (hj : j < L.length), L[j].key = k → Calls Try.prog 30 #[ptr r, num j] wA fun q w1 => ∃ e : Ent, q = .returned (.agg #[num e.key, u64v e.val, .bool e.dirty]) ∧ w1.heap[w.heap.size]? = some (entR zeroE) ∧ ∀ w2, Stp (In [w.heap.size]) w1 w2 → (Ending.returned (.tuple #[entV e, .bool true]) = .returned (.tuple #[entV (dropE L k), .bool (look L k).isSome])) ∧ RefS w w2 base r M v (rest L k)) := hide fun j hj hk => by
    obtain ⟨g1, g2⟩ := at_parts hd hj hk
    refine (kout_ok (h.grown gA) hl hj).mono ?_
    rintro q w1 ⟨rfl, hS⟩
    have hS2 := hS
    obtain ⟨v1, hM1, hv1, hs1⟩ := hS2
    refine ⟨L[j], rfl, hs1.obj (by omega) hx, fun w2 s2 => ⟨by rw [dropE, g1]; rfl, ?_⟩⟩
    rw [g2]
    exact ((RefN.of (Stp.of_grown gA) (.inl rfl) (Nat.le_refl _) hS).close s2 (Nat.le_refl _) (by omega) hrl h.own).to gA.size
  have HM : Hid ((∀ x ∈ L, x.key ≠ k) → ∀ w2, Stp (In [w.heap.size]) wA w2 → (Ending.returned (.tuple #[entV zeroE, .bool false]) = .returned (.tuple #[entV (dropE L k), .bool (look L k).isSome])) ∧ RefS w w2 base r M v (rest L k)) := hide fun hn w2 s2 => by
    have g1 := look_none hn
    rw [rest_same hn, dropE, g1]
    exact ⟨rfl, ((RefN.of (Stp.of_grown gA) (.inl rfl) (Nat.le_refl _) (RefS.refl (h.grown gA) (grownBy_refl _ _))).close s2 (Nat.le_refl _) (by omega) hrl h.own).to gA.size⟩
  have HwA : Hid (wA = w.alloc (.cells #[num 0, u64v 0, .bool false] 40)) := hwA
  have HX := hide hx
  clear h hd hl hwA gA sA hx hrl
  go_enter Try.func20, Try.ntmps20
  go_wp2_with (rw [← HwA.out])
  refine H1.out.mono ?_
  rintro q w1 ⟨i, rfl, hP, rfl⟩
  clear H1
  rcases hP with ⟨rfl, hn⟩ | ⟨j, rfl, hj, hk⟩
  · have HP := hide (HM.out hn)
    clear HM HO hn
    go_wp2_with (refine wpList_store_ref rfl (.tmp 4) (.tmp 12) rfl w.heap.size zeroE zeroE rfl rfl HX.out fun w4 h4 hs4 => ?_)
    obtain ⟨u0, u1, u2⟩ := cells3R h4
    exact bodyPost_ret (v := .tuple #[entV zeroE, .bool false]) (by simp [results, Try.f20, go_sem, u0, u1, u2, entV, zeroE]) rfl (HP.out _ hs4)
  · have HO1 := hide (HO.out j hj hk)
    clear HM HO hk
    have hj0 : ¬ (j : Int) < 0 := by omega
    go_wp2_with fail
    refine HO1.out.mono ?_
    rintro q w2 ⟨e, rfl, hz, hF⟩
    have HF := hide hF
    have HZ := hide hz
    clear HO1 hF hz
    go_wp2_with (refine wpList_store_ref rfl (.tmp 4) (.tmp 15) rfl w.heap.size zeroE e rfl rfl HZ.out fun w4 h4 hs4 => ?_)
    obtain ⟨u0, u1, u2⟩ := cells3R h4
    exact bodyPost_ret (v := .tuple #[entV e, .bool true]) (by simp [results, Try.f20, go_sem, u0, u1, u2, entV]) rfl (HF.out _ hs4)
end Lr
end Go.Proofs.Ytlgomaohfhgkpaa
