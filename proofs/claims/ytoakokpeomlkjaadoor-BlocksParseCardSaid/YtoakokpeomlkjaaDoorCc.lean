/- Layer 7 (blocks): the document's New. -/
import Derived.Test.YtoakokpeomlkjaaDoorCb
import Derived.Lib.AppendZeros
namespace Go.Proofs.YtoakokpeomlkjaaDoor
open Go.RowKit Go.Maps
namespace Bk
theorem infoI : (Tryd.prog.info? 3).map (fun i => (i.zero, i.size, i.bytes)) = some (some (.int .i64 0), 1, 8) := by kernel_rfl
abbrev nl : Value := .slice none 0 0
theorem rows_ne {w : World} {B e j k : Nat} {v u a b : Value} (hv : w.ownsRow B e 1 v j (List.replicate j a)) (hu : w.ownsRow B e 1 u k (List.replicate k b)) (hj : 1 ≤ j) (hk : k = 0 → u = nl) (hab : a ≠ b) : v.ownBlock ≠ u.ownBlock := by
  rcases hv.2 with ⟨_, h0⟩ | ⟨g, cap, cur, rfl, _, hg, _, _, _, ht⟩
  · omega
  · rcases hu.2 with ⟨rfl, h0⟩ | ⟨g', cap', cur', rfl, _, hg', _, _, _, ht'⟩
    · simp [Value.ownBlock]
    · intro he
      have he2 : g = g' := by simpa [Value.ownBlock] using he
      subst he2
      rw [hg] at hg'
      have hc : cur = cur' := by simpa using hg'
      subst hc
      have hk1 : 1 ≤ k := by
        rcases Nat.eq_zero_or_pos k with h | h
        · have := hk h; simp [nl] at this
        · exact h
      have e1 : cur.toList[0]? = some a := by
        have := congrArg (fun l => l[0]?) ht
        simp only [Nat.mul_one] at this
        rw [List.getElem?_take_of_lt (by omega), List.getElem?_replicate] at this
        simpa [show 0 < j by omega] using this
      have e2 : cur.toList[0]? = some b := by
        have := congrArg (fun l => l[0]?) ht'
        simp only [Nat.mul_one] at this
        rw [List.getElem?_take_of_lt (by omega), List.getElem?_replicate] at this
        simpa [show 0 < k by omega] using this
      rw [e1] at e2
      exact hab (Option.some.inj e2)
/-- What holds while the document's rows are made. -/
structure KNew (w wr : World) (n m j k : Nat) (vs ve : Value) : Prop where
  grown : w.grownBy wr none
  box : wr.heap[w.heap.size]? = some (.cells #[num n, num m, vs, ve] 36)
  s : wr.ownsRow (w.heap.size + 1) 3 1 vs j (List.replicate j (num 1))
  e : wr.ownsRow (w.heap.size + 1) 3 1 ve k (List.replicate k (num 0))
  sn : j = 0 → vs = nl
  en : k = 0 → ve = nl
theorem KNew.more {w wr w1 : World} {n m j k : Nat} {vs ve : Value} (h : KNew w wr n m j k vs ve) (g : wr.grownBy w1 none) : KNew w w1 n m j k vs ve :=
  ⟨grownBy_trans h.grown g, (g.block _ (lt_of_heap h.box) (by simp)).trans h.box, h.s.kept g (by cases vs.ownBlock <;> simp), h.e.kept g (by cases ve.ownBlock <;> simp), h.sn, h.en⟩
theorem own_heap {w w' : World} {B e n : Nat} {v : Value} {xs : List Value} (h : w.ownsRow B e 1 v n xs) (k : ∀ g, v.ownBlock = some g → w'.heap[g]? = w.heap[g]?) : w'.ownsRow B e 1 v n xs := by
  refine ⟨h.1, ?_⟩
  rcases h.2 with h0 | ⟨g, cap, cur, rfl, h1, h2, h3⟩
  · exact .inl h0
  · exact .inr ⟨g, cap, cur, rfl, h1, (k g rfl).trans h2, h3⟩
theorem box_set2 {w : World} {g : Nat} {a b c d v : Value} {t : TypeId} (h : w.heap[g]? = some (.cells #[a, b, c, d] t)) : (w.setCell ⟨g, 2, none⟩ v).heap[g]? = some (.cells #[a, b, v, d] t) := setCell_row (L := [a, b, c, d]) h v
theorem box_set3 {w : World} {g : Nat} {a b c d v : Value} {t : TypeId} (h : w.heap[g]? = some (.cells #[a, b, c, d] t)) : (w.setCell ⟨g, 3, none⟩ v).heap[g]? = some (.cells #[a, b, c, v] t) := setCell_row (L := [a, b, c, d]) h v
theorem KNew.grow {w w1 w2 : World} {n m j k : Nat} {vs ve v : Value} (h : KNew w w1 n m j k vs ve) (g : w1.grownBy w2 v.ownBlock) (hv : ∀ b, v.ownBlock = some b → w.heap.size + 1 ≤ b) :
    w.grownBy w2 none ∧ w2.heap[w.heap.size]? = some (.cells #[num n, num m, vs, ve] 36) := by
  have hb := lt_of_heap h.box
  refine ⟨⟨g.os.trans h.grown.os, g.tape.trans h.grown.tape, g.output.trans h.grown.output, Nat.le_trans h.grown.size g.size, fun x hx _ => ?_⟩, (g.block _ hb (fun e => by have := hv _ e.symm; omega)).trans h.box⟩
  have := h.grown.size
  exact (g.block _ (by omega) (fun e => by have := hv _ e.symm; omega)).trans (h.grown.block _ hx (by simp))
theorem KNew.pushS {w w1 w2 : World} {n m j : Nat} {vs ve v' : Value} (h : KNew w w1 n m j j vs ve) (own : w2.ownsRow (w.heap.size + 1) 3 1 v' (j + 1) (List.replicate j (num 1) ++ [num 1])) (g : w1.grownBy w2 vs.ownBlock) :
    KNew w (w2.setCell ⟨w.heap.size, 2, none⟩ v') n m (j + 1) j v' ve := by
  obtain ⟨hg, hbx⟩ := h.grow g fun b hb => (h.s.lt b hb).1
  have el : ∀ x, w.heap.size + 1 ≤ x → (w2.setCell ⟨w.heap.size, 2, none⟩ v').heap[x]? = w2.heap[x]? := fun x hx => setCell_else (by omega) _
  refine ⟨grownBy_set hg (Nat.le_refl _) _, box_set2 hbx, ?_, ?_, fun e => by omega, h.en⟩
  · rw [List.replicate_succ']
    exact own_heap own fun b hb => el b (own.lt b hb).1
  · have hk : w2.ownsRow (w.heap.size + 1) 3 1 ve j (List.replicate j (num 0)) := h.e.kept g (by
      rcases Nat.eq_zero_or_pos j with h0 | h0
      · rw [h.en h0]; exact .inl rfl
      · exact .inr (rows_ne h.e h.s h0 h.sn (by simp)))
    exact own_heap hk fun b hb => el b (hk.lt b hb).1
theorem KNew.pushE {w w1 w2 : World} {n m j : Nat} {vs ve v' : Value} (h : KNew w w1 n m (j + 1) j vs ve) (own : w2.ownsRow (w.heap.size + 1) 3 1 v' (j + 1) (List.replicate j (num 0) ++ [num 0])) (g : w1.grownBy w2 ve.ownBlock) :
    KNew w (w2.setCell ⟨w.heap.size, 3, none⟩ v') n m (j + 1) (j + 1) vs v' := by
  obtain ⟨hg, hbx⟩ := h.grow g fun b hb => (h.e.lt b hb).1
  have el : ∀ x, w.heap.size + 1 ≤ x → (w2.setCell ⟨w.heap.size, 3, none⟩ v').heap[x]? = w2.heap[x]? := fun x hx => setCell_else (by omega) _
  refine ⟨grownBy_set hg (Nat.le_refl _) _, box_set3 hbx, ?_, ?_, fun e => by omega, fun e => by omega⟩
  · have hk : w2.ownsRow (w.heap.size + 1) 3 1 vs (j + 1) (List.replicate (j + 1) (num 1)) := h.s.kept g (.inr (rows_ne h.s h.e (by omega) h.en (by simp)))
    exact own_heap hk fun b hb => el b (hk.lt b hb).1
  · rw [List.replicate_succ']
    exact own_heap own fun b hb => el b (own.lt b hb).1
theorem row_shape {w : World} {B e n : Nat} {v : Value} {xs : List Value} (h : w.ownsRow B e 1 v (n + 1) xs) : ∃ g cap, v = .slice (some ⟨g, 0, none⟩) (n + 1) cap := by
  rcases h.2 with ⟨_, h0⟩ | ⟨g, cap, cur, rfl, _⟩
  · omega
  · exact ⟨g, cap, rfl⟩
theorem row_cells {w : World} {B e n : Nat} {v a : Value} (h : w.ownsRow B e 1 v n (List.replicate n a)) (hn : 1 ≤ n) : ∃ g cap, v = .slice (some ⟨g, 0, none⟩) n cap ∧ B ≤ g ∧ n ≤ cap ∧ OwnR w g cap e ∧ ∀ j, j < n → w.cell? ⟨g, j, none⟩ = some a := by
  rcases h.2 with ⟨_, h0⟩ | ⟨g, cap, cur, rfl, h1, h2, h3, _, h5, ht⟩
  · omega
  · refine ⟨g, cap, rfl, h1, h3, ⟨cur.toList, h2, by simpa using h5⟩, fun j hj => cell_at h2 ?_⟩
    have := congrArg (fun l => l[j]?) ht
    simp only [Nat.mul_one] at this
    rw [List.getElem?_take_of_lt hj, List.getElem?_replicate] at this
    simpa [hj] using this
def KNewPost (w : World) (n m : Nat) (e : Ending) (w' : World) : Prop := ∃ R : Ref, R.n = n ∧ R.m = m ∧ w.heap.size ≤ R.r ∧ w.heap.size ≤ R.sb ∧ w.heap.size ≤ R.eb ∧ e = .returned (.tuple #[ptr R.r 0, num 0]) ∧ w.grownBy w' none ∧ RefM w' R fresh
theorem KNew.done {w wr : World} {n m : Nat} {vs ve : Value} (h : KNew w wr n m (n * m) (n * m) vs ve) (h1 : 1 ≤ n) (h2 : n ≤ 8) (h3 : 1 ≤ m) (h4 : m ≤ 64) : KNewPost w n m (.returned (.tuple #[ptr w.heap.size 0, num 0])) wr := by
  have hl : 1 ≤ n * m := Nat.mul_pos h1 h3
  have hne := rows_ne h.s h.e hl h.en (by simp)
  obtain ⟨g, cap, rfl, hg, hc, ho, hcell⟩ := row_cells h.s hl
  obtain ⟨g', cap', rfl, hg', hc', ho', hcell'⟩ := row_cells h.e hl
  refine ⟨⟨w.heap.size, g, g', n, m, n * m, cap, cap'⟩, rfl, rfl, Nat.le_refl _, by show w.heap.size ≤ g; omega, by show w.heap.size ≤ g'; omega, rfl, h.grown,
    ⟨h2, h4, rfl, h.box, ho, ho', hc, hc', fun i k hi hk => hcell _ (flat_lt hi hk), fun i k hi hk => hcell' _ (flat_lt hi hk), by show w.heap.size ≠ g; omega, by show w.heap.size ≠ g'; omega, fun e => hne ?_⟩⟩
  have e2 : g = g' := e
  rw [e2]; rfl
set_option maxHeartbeats 3200000 in
theorem kNew_ok (n m : Nat) (h1 : 1 ≤ n) (h2 : n ≤ 8) (h3 : 1 ≤ m) (h4 : m ≤ 64) (w : World) : Calls Tryd.prog 8 #[num n, num m] w (KNewPost w n m) := by
  obtain ⟨i0, hi, hz0, hz1, hz2⟩ := info_parts infoI
  have i1 : (1 : Int) ≤ (n : Int) := by omega
  have i2 : (n : Int) ≤ 8 := by omega
  have i3 : (1 : Int) ≤ (m : Int) := by omega
  have i4 : (m : Int) ≤ 64 := by omega
  obtain ⟨z, hz, hz5, hzm⟩ : ∃ z : Nat, (n : Int) * (m : Int) = (z : Int) ∧ z ≤ 512 ∧ z = n * m := ⟨n * m, by push_cast; rfl, Nat.mul_le_mul h2 h4, rfl⟩
  obtain ⟨V, hV⟩ : ∃ V, V = w.alloc (.cells #[num n, num m, nl, nl] 36) := ⟨_, rfl⟩
  have hK0 : KNew w V n m 0 0 nl nl := by
    rw [hV]
    exact ⟨World.grownBy_alloc w _ none, heap_alloc_new w _, World.ownsRow_nil _ _ _ _, World.ownsRow_nil _ _ _ _, fun _ => rfl, fun _ => rfl⟩
  have Hw : Hid _ := hV
  have HZ : Hid (z = n * m) := hzm
  clear hV hzm
  go_enter Tryd.func8, Tryd.ntmps8
  go_wp2_with (rw [← Hw.out])
  go_loopw [7] (fun i wr => ∃ j : Nat, j ≤ z ∧ i = num j ∧ ∃ vs ve, KNew w wr n m j j vs ve) (fun i _ => z - (intOf i).toNat)
  case atStart => exact ⟨0, Nat.zero_le _, rfl, _, _, hK0⟩
  case round =>
    clear hK0 Hw
    obtain ⟨j, hj, rfl, vs, ve, hK⟩ := hrel
    by_cases hjz : j < z
    · have q1 : (j : Int) < (z : Int) := by omega
      have c0 : wr.cell? ⟨w.heap.size, 2, none⟩ = some vs := cell_at hK.box rfl
      have hK1 := hK.more (World.grownBy_alloc wr (.cells #[num 1] 3) none)
      have hb := lt_of_heap hK.box
      have HK1 : Hid _ := hK1
      have HN : Hid (∀ w2 v', w2.ownsRow (w.heap.size + 1) 3 1 v' (j + 1) (List.replicate j (num 1) ++ [num 1]) → (wr.alloc (.cells #[num 1] 3)).grownBy w2 vs.ownBlock → ∃ w3, w3 = w2.setCell ⟨w.heap.size, 2, none⟩ v' ∧ w2.cell? ⟨w.heap.size, 2, none⟩ = some vs ∧ w2.frozen? ⟨w.heap.size, 2, none⟩ = false ∧ w3.cell? ⟨w.heap.size, 3, none⟩ = some ve ∧ w.heap.size + 1 ≤ w3.heap.size ∧ KNew w w3 n m (j + 1) j v' ve) := fun w2 v' ho hg => by
        have h3 := hK1.pushS ho hg
        have h2 := (hK1.grow hg fun b hb => (hK1.s.lt b hb).1).2
        exact ⟨_, rfl, cell_at h2 rfl, free_at h2, cell_at h3.box rfl, lt_of_heap h3.box, h3⟩
      have hs := hK1.s
      clear hK hK1
      go_wp2_with (at_builtin; refine wpList_append_own _ rfl (.tmp 37) (.tmp 38) 34 rfl (w.heap.size + 1) 3 i0 (.int .i64 0) 1 8 Tryd.underlying34 hi hz0 hz1 hz2 rfl (by decide) _ _ _ rfl hs ⟨wr.heap.size, 0, none⟩ 1 1 [num 1] rfl rfl ?c1 ?c2 ?c3 ?c4 ?c5 ?_)
      case c1 => exact cell_one_new _ _ _
      case c2 => intro u hu; simp at hu; subst hu; rfl
      case c3 => unfold maxLen; omega
      case c4 => omega
      case c5 => simp; omega
      intro v2 w2 ho2 hg2 _
      obtain ⟨g2, p2, rfl⟩ := row_shape ho2
      obtain ⟨w3, hw3, y1, y2, c3, hb3, hK3⟩ := HN.out w2 _ ho2 hg2
      have H3 : Hid _ := hw3
      have hK4 := hK3.more (World.grownBy_alloc w3 (.cells #[num 0] 3) none)
      have HN4 : Hid (∀ w5 v', w5.ownsRow (w.heap.size + 1) 3 1 v' (j + 1) (List.replicate j (num 0) ++ [num 0]) → (w3.alloc (.cells #[num 0] 3)).grownBy w5 ve.ownBlock → w5.cell? ⟨w.heap.size, 3, none⟩ = some ve ∧ w5.frozen? ⟨w.heap.size, 3, none⟩ = false ∧ KNew w (w5.setCell ⟨w.heap.size, 3, none⟩ v') n m (j + 1) (j + 1) (.slice (some ⟨g2, 0, none⟩) (j + 1) p2) v') := fun w5 v' ho hg => by
        have h2 := (hK4.grow hg fun b hb => (hK4.e.lt b hb).1).2
        exact ⟨cell_at h2 rfl, free_at h2, hK4.pushE ho hg⟩
      have hs4 := hK4.e
      clear hK3 hK4 hw3 HN HK1 hs ho2 hg2
      go_wp2_with (first | rw [← H3.out] | (at_builtin; refine wpList_append_own _ rfl (.tmp 46) (.tmp 47) 34 rfl (w.heap.size + 1) 3 i0 (.int .i64 0) 1 8 Tryd.underlying34 hi hz0 hz1 hz2 rfl (by decide) _ _ _ rfl hs4 ⟨w3.heap.size, 0, none⟩ 1 1 [num 0] rfl rfl ?d1 ?d2 ?d3 ?d4 ?d5 ?_))
      case d1 => exact cell_one_new _ _ _
      case d2 => intro u hu; simp at hu; subst hu; rfl
      case d3 => unfold maxLen; omega
      case d4 => omega
      case d5 => simp; omega
      intro v5 w5 ho5 hg5 _
      obtain ⟨g5, p5, rfl⟩ := row_shape ho5
      obtain ⟨x1, x2, hK6⟩ := HN4.out w5 _ ho5 hg5
      have HK6 : Hid _ := hK6
      clear HN4 hs4 ho5 hg5 H3 y1 y2 c3 hK6
      go_wp2_with fail
      go_roundw
      case rel => exact ⟨j + 1, by omega, by go_num, _, _, HK6.out⟩
      case measure => simp [intOf]; omega
    · obtain rfl : j = z := by omega
      have q1 : ¬ (j : Int) < (j : Int) := by omega
      have HP : Hid (KNewPost w n m (.returned (.tuple #[ptr w.heap.size 0, num 0])) wr) := (HZ.out ▸ hK : KNew w wr n m (n * m) (n * m) vs ve).done h1 h2 h3 h4
      clear hK HZ
      go_wp2
      go_ret2
      exact HP.out
end Bk
end Go.Proofs.YtoakokpeomlkjaaDoor
