/- Layer 10 (lru): the document's Put. -/
import Derived.Test.YtlgomaohfhgkpaaKc
namespace Go.Proofs.Ytlgomaohfhgkpaa
open Go.RowKit Go.Maps Go.Shelf
namespace Lr
def KPutPost (w : World) (base r : Nat) (M : Int) (v : Value) (L : List Ent) (x : Ent) (q : Ending) (w' : World) : Prop :=
  q = .returned (.tuple #[entV (putE M x L), .bool (putB M x L)]) ∧ RefS w w' base r M v (putL M x L)
set_option maxRecDepth 8000 in
set_option maxHeartbeats 3200000 in
theorem kPut_ok {w : World} {base r : Nat} {M : Int} {v : Value} {L : List Ent} (h : RefM w base r M v L) (hl : L.length ≤ 1000000) (hM1 : 1 ≤ M) (hM : (L.length : Int) ≤ M) (hd : (L.map Ent.key).Nodup) (x : Ent) : Calls Try.prog 12 #[ptr r, .agg #[num x.key, u64v x.val, .bool x.dirty]] w (KPutPost w base r M v L x) := by
  have hrl := lt_of_heap h.box
  obtain ⟨wA, hwA⟩ : ∃ wA, wA = w.alloc (entR x) := ⟨_, rfl⟩
  have gA : w.grownBy wA none := by rw [hwA]; exact World.grownBy_alloc w _ none
  have sA : wA.heap.size = w.heap.size + 1 := by rw [hwA]; simp
  have hxA : wA.heap[w.heap.size]? = some (entR x) := by rw [hwA]; exact heap_alloc_new w _
  obtain ⟨wB, hwB⟩ : ∃ wB, wB = wA.alloc (entR zeroE) := ⟨_, rfl⟩
  have gB' : wA.grownBy wB none := by rw [hwB]; exact World.grownBy_alloc wA _ none
  have gB := grownBy_trans gA gB'
  have sB : wB.heap.size = w.heap.size + 2 := by rw [hwB]; simp [sA]
  have hxB : wB.heap[w.heap.size]? = some (entR x) := (gB'.block _ (by omega) (by simp)).trans hxA
  have hzB : wB.heap[w.heap.size + 1]? = some (entR zeroE) := by rw [hwB, ← sA]; exact heap_alloc_new wA _
  have hMB := h.grown gB
  have H1 := hide (kfind_ok hMB hl x.key)
  have sBr : Stp (fun g => g = r) w wB := .of_grown gB
  have hown := h.own
  -- the key is there
  have HO : Hid (∀ j (hj : j < L.length), L[j].key = x.key → Calls Try.prog 30 #[ptr r, num j] wB fun q w1 => ∃ e : Ent, q = .returned (.agg #[num e.key, u64v e.val, .bool e.dirty]) ∧ ∀ w2, w2 = w1.alloc (entR e) →
      (w2.heap[w.heap.size]? = some (entR x)) ∧ w2.cell? ⟨w1.heap.size, 2, none⟩ = some (.bool e.dirty) ∧ ∀ w4, w4 = w2.setCell ⟨w.heap.size, 2, none⟩ (.bool (x.dirty || e.dirty)) →
      w4.heap[w.heap.size]? = some (entR ⟨x.key, x.val, x.dirty || e.dirty⟩) ∧ Calls Try.prog 31 #[ptr r, .agg #[num x.key, u64v x.val, .bool (x.dirty || e.dirty)]] w4 fun q w5 => (∃ v, q = .returned v) ∧ w5.heap[w.heap.size + 1]? = some (entR zeroE) ∧
        ∀ w6, Stp (In [w.heap.size + 1]) w5 w6 → KPutPost w base r M v L x (.returned (.tuple #[entV zeroE, .bool false])) w6) := hide fun j hj hk => by
    obtain ⟨g1, g2, g3⟩ := put_at (M := M) hd hj hk
    refine (kout_ok hMB hl hj).mono ?_
    rintro q w1 ⟨rfl, v1, hM1, hv1, hs1⟩
    have hsz1 := hs1.size
    have hlen := outL_len hj
    refine ⟨L[j], rfl, fun w2 hw2 => ?_⟩
    have hg2 : w1.grownBy w2 none := by rw [hw2]; exact World.grownBy_alloc w1 _ none
    have hx1 : w1.heap[w.heap.size]? = some (entR x) := hs1.obj (by omega) hxB
    have hx2 : w2.heap[w.heap.size]? = some (entR x) := (hg2.block _ (by omega) (by simp)).trans hx1
    have hz1 : w1.heap[w.heap.size + 1]? = some (entR zeroE) := hs1.obj (by omega) hzB
    have hz2 : w2.heap[w.heap.size + 1]? = some (entR zeroE) := (hg2.block _ (by omega) (by simp)).trans hz1
    refine ⟨hx2, cell_at (by rw [hw2]; exact heap_alloc_new w1 _) rfl, fun w4 hw4 => ?_⟩
    have s24 : Stp (In [w.heap.size]) w2 w4 := by rw [hw4]; exact (Stp.refl _ _).set (.inl (by simp)) _
    have hx4 : w4.heap[w.heap.size]? = some (entR ⟨x.key, x.val, x.dirty || L[j].dirty⟩) := by rw [hw4]; exact setCell_row (i := 2) (L := [num x.key, u64v x.val, .bool x.dirty]) hx2 _
    have hz4 : w4.heap[w.heap.size + 1]? = some (entR zeroE) := s24.obj (by simp) hz2
    have hM4 : RefM w4 base r M v1 (outL L j) := (hM1.grown hg2).stp s24 (by simp; omega) (fun y hy => by
      simp
      rcases hv1 with rfl | hv1
      · have := hown y hy; omega
      · have := hv1 y hy; omega)
    have s4 : Stp (fun g => g = r) w w4 := by rw [hw4]; exact ((sBr.trans hs1).trans (.of_grown hg2)).set (.inr (Nat.le_refl _)) _
    refine ⟨hx4, (kfirst_ok hM4 (by omega) ⟨x.key, x.val, x.dirty || L[j].dirty⟩).mono ?_⟩
    rintro q w5 ⟨hq, hS⟩
    have hS2 := hS
    obtain ⟨v5, _, _, hs5⟩ := hS2
    refine ⟨hq, hs5.obj (by omega) hz4, fun w6 s6 => ⟨by rw [g1, g2], ?_⟩⟩
    rw [g3]
    have hs2 := hg2.size
    have hs4 := s24.size
    exact ((RefN.of (B := wB.heap.size) s4 hv1 (by omega) hS).close s6 (by omega) (by omega) hrl hown).to gB.size
  -- the key isn't there
  have HM : Hid ((∀ y ∈ L, y.key ≠ x.key) → ∀ wC, wB.grownBy wC none → wC.heap[wB.heap.size]? = some (entR zeroE) → wC.heap[w.heap.size]? = some (entR x) ∧ wC.cell? ⟨r, 0, none⟩ = some (num M) ∧ (∃ p cap, wC.cell? ⟨r, 1, none⟩ = some (.slice p L.length cap)) ∧
      ((L.length : Int) < M → Calls Try.prog 31 #[ptr r, .agg #[num x.key, u64v x.val, .bool x.dirty]] wC fun q w5 => (∃ v, q = .returned v) ∧ w5.heap[w.heap.size + 1]? = some (entR zeroE) ∧ w5.heap[wB.heap.size]? = some (entR zeroE) ∧
        ∀ w6, Stp (In [w.heap.size + 1]) w5 w6 → KPutPost w base r M v L x (.returned (.tuple #[entV zeroE, .bool false])) w6) ∧
      ((L.length : Int) = M → Calls Try.prog 30 #[ptr r, num ((L.length - 1 : Nat) : Int)] wC fun q w1 => ∃ e : Ent, q = .returned (.agg #[num e.key, u64v e.val, .bool e.dirty]) ∧ w1.heap[wB.heap.size]? = some (entR zeroE) ∧
        ∀ w2, w2.heap[wB.heap.size]? = some (entR e) → Stp (In [wB.heap.size]) w1 w2 → w2.heap[w.heap.size]? = some (entR x) ∧ Calls Try.prog 31 #[ptr r, .agg #[num x.key, u64v x.val, .bool x.dirty]] w2 fun q w5 => (∃ v, q = .returned v) ∧ w5.heap[w.heap.size + 1]? = some (entR zeroE) ∧ w5.heap[wB.heap.size]? = some (entR e) ∧
        ∀ w6, Stp (In [w.heap.size + 1]) w5 w6 → KPutPost w base r M v L x (.returned (.tuple #[entV e, .bool true])) w6)) := hide fun hn wC gC' hyC => by
    have gC := grownBy_trans gB gC'
    have sC : w.heap.size + 3 ≤ wC.heap.size := by have := lt_of_heap hyC; omega
    have hMC := h.grown gC
    have hxC : wC.heap[w.heap.size]? = some (entR x) := (gC'.block _ (by omega) (by simp)).trans hxB
    have hzC : wC.heap[w.heap.size + 1]? = some (entR zeroE) := (gC'.block _ (by omega) (by simp)).trans hzB
    obtain ⟨p, cap, hv⟩ := h.len
    have sCr : Stp (fun g => g = r) w wC := .of_grown gC
    refine ⟨hxC, cell_at hMC.box rfl, ⟨p, cap, by rw [← hv]; exact cell_at hMC.box rfl⟩, fun hlt => ?_, fun heq => ?_⟩
    · obtain ⟨g1, g2, g3⟩ := put_miss (M := M) hn hlt
      refine (kfirst_ok hMC hl x).mono ?_
      rintro q w5 ⟨hq, hS⟩
      have hS2 := hS
      obtain ⟨v5, _, _, hs5⟩ := hS2
      refine ⟨hq, hs5.obj (by omega) hzC, hs5.obj (by omega) hyC, fun w6 s6 => ⟨by rw [g1, g2], ?_⟩⟩
      rw [g3]
      exact ((RefN.of (B := wC.heap.size) sCr (.inl rfl) (Nat.le_refl _) hS).close s6 (by omega) (by omega) hrl hown).to gC.size
    · have h0 : L.length - 1 < L.length := by omega
      obtain ⟨g1, g2, g3⟩ := put_full hn heq h0
      refine (kout_ok hMC hl h0).mono ?_
      rintro q w1 ⟨rfl, v1, hM1, hv1, hs1⟩
      have hsz1 := hs1.size
      have hlen := outL_len h0
      refine ⟨_, rfl, hs1.obj (by omega) hyC, fun w2 hy2 s2 => ?_⟩
      have hM2 : RefM w2 base r M v1 (outL L (L.length - 1)) := hM1.stp s2 (by simp; omega) (fun y hy => by
        simp
        rcases hv1 with rfl | hv1
        · have := hown y hy; omega
        · have := hv1 y hy; omega)
      have hx2 : w2.heap[w.heap.size]? = some (entR x) := s2.obj (by simp; omega) (hs1.obj (by omega) hxC)
      have hz2 : w2.heap[w.heap.size + 1]? = some (entR zeroE) := s2.obj (by simp; omega) (hs1.obj (by omega) hzC)
      have s2r : Stp (fun g => g = r) w w2 := (sCr.trans hs1).new s2 (by omega)
      have hsz2 := s2.size
      refine ⟨hx2, (kfirst_ok hM2 (by omega) x).mono ?_⟩
      rintro q w5 ⟨hq, hS⟩
      have hS2 := hS
      obtain ⟨v5, _, _, hs5⟩ := hS2
      refine ⟨hq, hs5.obj (by omega) hz2, hs5.obj (by omega) hy2, fun w6 s6 => ⟨by rw [g1, g2], ?_⟩⟩
      rw [g3]
      exact ((RefN.of (B := wC.heap.size) s2r hv1 (by omega) hS).close s6 (by omega) (by omega) hrl hown).to gC.size
  obtain ⟨x0, x1, x2⟩ := cells3R hxB
  have HwA : Hid (wA = w.alloc (.cells #[num x.key, u64v x.val, .bool x.dirty] 40)) := hwA
  have HwB : Hid (wB = wA.alloc (.cells #[num 0, u64v 0, .bool false] 40)) := hwB
  have HsA := hide sA
  obtain ⟨n, hn⟩ : ∃ n, n = L.length := ⟨_, rfl⟩
  have hM' : (n : Int) ≤ M := by rw [hn]; exact hM
  have hn0 : n ≤ 1000000 := by rw [hn]; exact hl
  have Hn := hide hn
  clear h hd hl hwA hwB gA gB' gB sA sB hxA hxB hzB hMB sBr hown hrl hn hM
  go_enter Try.func12, Try.ntmps12
  go_wp2_with (first | rw [← HwA.out] | rw [← HwB.out])
  refine H1.out.mono ?_
  rintro q w1 ⟨i, rfl, hP, rfl⟩
  clear H1
  rcases hP with ⟨rfl, hno⟩ | ⟨j, rfl, hj, hk⟩
  · obtain ⟨wC, hwC⟩ : ∃ wC, wC = w1.alloc (entR zeroE) := ⟨_, rfl⟩
    have gC : w1.grownBy wC none := by rw [hwC]; exact World.grownBy_alloc w1 _ none
    have hyC : wC.heap[w1.heap.size]? = some (entR zeroE) := by rw [hwC]; exact heap_alloc_new w1 _
    obtain ⟨hxC, c0, ⟨p, cap, c1⟩, _⟩ := HM.out hno wC gC hyC
    have hAB := fun m => (HM.out hno (wC.drewN m) (grownBy_drewN gC m) hyC).2.2.2
    obtain ⟨y0, y1, y2⟩ := cells3R hxC
    rw [← Hn.out] at c1 hAB
    rw [← HsA.out] at hAB
    have HwC : Hid (wC = w1.alloc (.cells #[num 0, u64v 0, .bool false] 40)) := hwC
    clear HM HO hno hwC hxC gC
    by_cases hnm : (n : Int) = M
    · have HB := hide (fun m => (hAB m).2 hnm)
      have n1 : IntKind.i64.wrap ((n : Int) - 1) = ((n - 1 : Nat) : Int) := by rw [IntKind.wrap_i64]; omega
      have hnb : ((n : Int) == M) = true := by simpa using hnm
      clear hAB hnm hyC
      go_wp2_with fail
      rw [← HwC.out]
      go_quiet (fail)
      go_wp2_with fail
      refine (HB.out _).mono ?_
      rintro q w2 ⟨e, rfl, hy2, hF⟩
      have HF := hide hF
      have HY := hide hy2
      clear HB hy2 hF
      go_wp2_with (refine wpList_store_ref rfl (.tmp 8) (.tmp 49) rfl w1.heap.size zeroE e rfl rfl HY.out fun w3 h3 hs3 => ?_; obtain ⟨hx3, hK⟩ := HF.out w3 h3 hs3; obtain ⟨q0, q1, q2⟩ := cells3R hx3; have HK := hide hK; clear hK hx3)
      refine HK.out.mono ?_
      rintro q w5 ⟨⟨v5, rfl⟩, hz5, hy5, hP⟩
      obtain ⟨t0, t1, t2⟩ := cells3R hy5
      have HP := hide hP
      have HZ := hide hz5
      clear HK HF HY hz5 hy5 hP
      go_wp2_with (refine wpList_store_ref rfl (.tmp 4) (.tmp 53) rfl wA.heap.size zeroE e rfl rfl HZ.out fun w6 h6 hs6 => ?_)
      obtain ⟨u0, u1, u2⟩ := cells3R h6
      exact bodyPost_ret (v := .tuple #[entV e, .bool true]) (by simp [results, Try.f12, go_sem, u0, u1, u2, entV]) rfl (HP.out _ hs6)
    · have HA := hide (fun m => (hAB m).1 (by omega))
      have hnb : ((n : Int) == M) = false := by simpa using hnm
      clear hAB hnm
      go_wp2_with fail
      rw [← HwC.out]
      go_quiet (fail)
      go_wp2_with fail
      refine (HA.out _).mono ?_
      rintro q w5 ⟨⟨v5, rfl⟩, hz5, hy5, hP⟩
      obtain ⟨t0, t1, t2⟩ := cells3R hy5
      have HP := hide hP
      have HZ := hide hz5
      clear HA hz5 hy5 hP
      go_wp2_with (refine wpList_store_ref rfl (.tmp 4) (.tmp 53) rfl wA.heap.size zeroE zeroE rfl rfl HZ.out fun w6 h6 hs6 => ?_)
      obtain ⟨u0, u1, u2⟩ := cells3R h6
      exact bodyPost_ret (v := .tuple #[entV zeroE, .bool false]) (by simp [results, Try.f12, go_sem, u0, u1, u2, entV, zeroE]) rfl (HP.out _ hs6)
  · have HO1 := hide (HO.out j hj hk)
    clear HM HO hk
    have hj0 : (0 : Int) ≤ (j : Int) := by omega
    go_wp2_with fail
    refine HO1.out.mono ?_
    rintro q w2 ⟨e, rfl, hF⟩
    obtain ⟨w3, hw3⟩ : ∃ w3, w3 = w2.alloc (entR e) := ⟨_, rfl⟩
    obtain ⟨hx3, d3, hF3⟩ := hF w3 hw3
    obtain ⟨w4, hw4⟩ : ∃ w4, w4 = w3.setCell ⟨w.heap.size, 2, none⟩ (.bool (x.dirty || e.dirty)) := ⟨_, rfl⟩
    obtain ⟨hx4, hK⟩ := hF3 w4 hw4
    obtain ⟨y0, y1, y2⟩ := cells3R hx3
    have yf := free_at (o := 2) hx3
    obtain ⟨z0, z1, z2⟩ := cells3R hx4
    rw [← HsA.out] at hK
    obtain ⟨d, hd⟩ : ∃ d, d = (x.dirty || e.dirty) := ⟨_, rfl⟩
    simp only [← hd] at hw4 z0 z1 z2 hK
    have HW3 : Hid (w3 = w2.alloc (.cells #[num e.key, u64v e.val, .bool e.dirty] 40)) := hw3
    clear HO1 hF hF3 hw3 hx3 hx4
    cases hxd : x.dirty with
    | true =>
      obtain rfl : d = true := by rw [hd, hxd]; rfl
      rw [hxd] at y2
      have HK := hide hK
      have HW4 := hide hw4
      clear hd hxd hK hw4
      go_wp2_with (first | rw [← HW3.out] | rw [← HW4.out])
      refine HK.out.mono ?_
      rintro q w5 ⟨⟨v5, rfl⟩, hz5, hP⟩
      have HP := hide hP
      have HZ := hide hz5
      clear HK hz5 hP
      go_wp2_with (refine wpList_store_ref rfl (.tmp 4) (.tmp 29) rfl wA.heap.size zeroE zeroE rfl rfl HZ.out fun w6 h6 hs6 => ?_)
      obtain ⟨u0, u1, u2⟩ := cells3R h6
      exact bodyPost_ret (v := .tuple #[entV zeroE, .bool false]) (by simp [results, Try.f12, go_sem, u0, u1, u2, entV, zeroE]) rfl (HP.out _ hs6)
    | false =>
      obtain rfl : d = e.dirty := by rw [hd, hxd]; rfl
      rw [hxd] at y2
      have HK := hide hK
      have HW4 := hide hw4
      clear hd hxd hK hw4
      go_wp2_with (first | rw [← HW3.out] | rw [← HW4.out])
      refine HK.out.mono ?_
      rintro q w5 ⟨⟨v5, rfl⟩, hz5, hP⟩
      have HP := hide hP
      have HZ := hide hz5
      clear HK hz5 hP
      go_wp2_with (refine wpList_store_ref rfl (.tmp 4) (.tmp 29) rfl wA.heap.size zeroE zeroE rfl rfl HZ.out fun w6 h6 hs6 => ?_)
      obtain ⟨u0, u1, u2⟩ := cells3R h6
      exact bodyPost_ret (v := .tuple #[entV zeroE, .bool false]) (by simp [results, Try.f12, go_sem, u0, u1, u2, entV, zeroE]) rfl (HP.out _ hs6)
end Lr
end Go.Proofs.Ytlgomaohfhgkpaa
