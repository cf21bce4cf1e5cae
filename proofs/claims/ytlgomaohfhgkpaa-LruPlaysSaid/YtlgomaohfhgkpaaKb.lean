/- Layer 10 (lru): the document's cache as it lies; its find, out, first. -/
import Derived.Test.YtlgomaohfhgkpaaKa
import Derived.Test.YtlgomaohfhgkpaaLq
import Derived.Laws.AppendOwnNone
import Derived.Deep.RegionHeld3
namespace Go.Proofs.Ytlgomaohfhgkpaa
open Go.RowKit Go.Maps Go.Shelf
namespace Lr
abbrev entR (x : Ent) : Obj := .cells #[num x.key, u64v x.val, .bool x.dirty] 40
theorem infoR : (Try.prog.info? 40).map (fun i => (i.zero, i.size, i.bytes)) = some (some (.agg #[num 0, u64v 0, .bool false]), 3, 24) := by kernel_rfl
theorem infoR3 : (Try.prog.info? 40).map (·.size) = some 3 := by kernel_rfl
theorem wpList_store_ref {w : World} {ops : Array Oper} {rest : List Oper} {o : Oper} {a : Act} {Q : Exit → Act → World → Prop} (hgd : o.guard = none) (x y : Operand) (ho : o.op = .store 40 x y)
    (g : Nat) (r0 r : Ent) (hx : a.eval x = .pointer (some ⟨g, 0, none⟩)) (hy : a.eval y = entV r) (hg : w.heap[g]? = some (entR r0))
    (h : ∀ w', w'.heap[g]? = some (entR r) → Stp (In [g]) w w' → wpList Try.prog ops Q rest (a.put o.dst undef) w') : wpList Try.prog ops Q (o :: rest) a w :=
  wpList_store_row hgd _ x y ho g _ hx hy 40 _ hg infoR3 rfl (by simp [Value.oneCell']) (h _ (setRow_heap _ _ _ _ _ hg)
    ⟨rfl, rfl, rfl, by simp [World.setRow], fun k _ hk => setRow_other _ _ _ _ (by simpa using hk)⟩)
theorem cells3R {w : World} {g : Nat} {r : Ent} (h : w.heap[g]? = some (entR r)) : w.cell? ⟨g, 0, none⟩ = some (num r.key) ∧ w.cell? ⟨g, 1, none⟩ = some (u64v r.val) ∧ w.cell? ⟨g, 2, none⟩ = some (.bool r.dirty) :=
  ⟨cell_at h rfl, cell_at h rfl, cell_at h rfl⟩
theorem entC_cells {S : List Ent} {k : Nat} (hk : k < S.length) : (entC S)[k * 3]? = some (num S[k].key) ∧ (entC S)[k * 3 + 1]? = some (u64v S[k].val) ∧ (entC S)[k * 3 + 2]? = some (.bool S[k].dirty) := by
  induction S generalizing k with
  | nil => simp at hk
  | cons x S ih =>
    have e : entC (x :: S) = [num x.key, u64v x.val, .bool x.dirty] ++ entC S := rfl
    cases k with
    | zero => exact ⟨rfl, rfl, rfl⟩
    | succ k =>
      obtain ⟨h0, h1, h2⟩ := ih (k := k) (by simpa using hk)
      have el : [num x.key, u64v x.val, Value.bool x.dirty].length = 3 := rfl
      refine ⟨?_, ?_, ?_⟩
      · rw [e, List.getElem?_append_right (by rw [el]; omega), el, show (k + 1) * 3 - 3 = k * 3 by omega, h0]; simp
      · rw [e, List.getElem?_append_right (by rw [el]; omega), el, show (k + 1) * 3 + 1 - 3 = k * 3 + 1 by omega, h1]; simp
      · rw [e, List.getElem?_append_right (by rw [el]; omega), el, show (k + 1) * 3 + 2 - 3 = k * 3 + 2 by omega, h2]; simp
theorem entC_one1 (S : List Ent) : ∀ u ∈ entC S, u.oneCell' = true := fun u hu => by
  simp [entC] at hu
  obtain ⟨a, _, h⟩ := hu
  rcases h with rfl | rfl | rfl <;> rfl
theorem entC_take (S : List Ent) (j : Nat) : entC (S.take j) = (entC S).take (j * 3) := by
  induction S generalizing j with
  | nil => simp [entC]
  | cons x S ih =>
    have e : entC (x :: S) = [num x.key, u64v x.val, .bool x.dirty] ++ entC S := rfl
    cases j with
    | zero => simp [entC]
    | succ j =>
      rw [List.take_succ_cons, e, show entC (x :: S.take j) = [num x.key, u64v x.val, .bool x.dirty] ++ entC (S.take j) from rfl, ih, show (j + 1) * 3 = 3 + j * 3 by omega]
      simp [List.take_add]
theorem entC_drop (S : List Ent) (j : Nat) : entC (S.drop j) = (entC S).drop (j * 3) := by
  induction S generalizing j with
  | nil => simp [entC]
  | cons x S ih =>
    have e : entC (x :: S) = [num x.key, u64v x.val, .bool x.dirty] ++ entC S := rfl
    cases j with
    | zero => simp
    | succ j =>
      rw [List.drop_succ_cons, e, ih, show (j + 1) * 3 = 3 + j * 3 by omega, ← List.drop_drop]
      rfl
/-- The document's cache as it lies: its row is one of its own. -/
structure RefM (w : World) (base r : Nat) (M : Int) (v : Value) (L : List Ent) : Prop where
  box : w.heap[r]? = some (.cells #[num M, v] 31)
  row : w.ownsRow base 40 3 v L.length (entC L)
  ne : v.ownBlock ≠ some r
  low : base ≤ r
theorem rowR_form {W : World} {base : Nat} {v : Value} {X : List Ent} (h : W.ownsRow base 40 3 v X.length (entC X)) :
    ∃ p cap, v = .slice p X.length cap ∧ X.length ≤ cap ∧ ((v = .slice none 0 0 ∧ X = []) ∨ ∃ g, p = some ⟨g, 0, none⟩ ∧ base ≤ g ∧ g < W.heap.size ∧ (∀ j u, (entC X)[j]? = some u → W.cell? ⟨g, j, none⟩ = some u)) := by
  rcases h.2 with ⟨e, h0⟩ | ⟨g, cap, cur, e, hb, hg, hle, _⟩
  · exact ⟨none, 0, by rw [e, h0], by omega, .inl ⟨e, List.length_eq_zero_iff.1 h0⟩⟩
  · refine ⟨_, cap, e, hle, .inr ⟨g, rfl, hb, lt_of_heap hg, fun j u hu => ?_⟩⟩
    have := h.cells (g := g) (by rw [e]; rfl) j u hu
    rwa [addr_add', Nat.zero_add] at this
theorem ownsR_stp {a b : World} {base n : Nat} {v : Value} {xs : List Value} {T : Nat → Prop} (h : a.ownsRow base 40 3 v n xs) (s : Stp T a b) (hT : ∀ g, v.ownBlock = some g → ¬ T g) : b.ownsRow base 40 3 v n xs := by
  refine ⟨h.1, ?_⟩
  rcases h.2 with h1 | ⟨g, cap, cur, h1, h2, h3, h4⟩
  · exact .inl h1
  · exact .inr ⟨g, cap, cur, h1, h2, (s.same g (lt_of_heap h3) (hT g (by rw [h1]; rfl))).trans h3, h4⟩
theorem ownsR_low {a : World} {base base' n : Nat} {v : Value} {xs : List Value} (h : a.ownsRow base 40 3 v n xs) (hb : base' ≤ base) : a.ownsRow base' 40 3 v n xs := by
  refine ⟨h.1, ?_⟩
  rcases h.2 with h1 | ⟨g, cap, cur, h1, h2, h4⟩
  · exact .inl h1
  · exact .inr ⟨g, cap, cur, h1, Nat.le_trans hb h2, h4⟩
theorem RefM.stp {w w' : World} {base r : Nat} {M : Int} {v : Value} {L : List Ent} {T : Nat → Prop} (h : RefM w base r M v L) (s : Stp T w w') (hr : ¬ T r) (hv : ∀ g, v.ownBlock = some g → ¬ T g) : RefM w' base r M v L := by
  refine ⟨s.obj hr h.box, ⟨h.row.1, ?_⟩, h.ne, h.low⟩
  rcases h.row.2 with h1 | ⟨g, cap, cur, h1, h2, h3, h4⟩
  · exact .inl h1
  · exact .inr ⟨g, cap, cur, h1, h2, (s.same g (lt_of_heap h3) (hv g (by rw [h1]; rfl))).trans h3, h4⟩
theorem RefM.grown {w w' : World} {base r : Nat} {M : Int} {v : Value} {L : List Ent} (h : RefM w base r M v L) (s : w.grownBy w' none) : RefM w' base r M v L := h.stp (T := No) (.of_grown s) (fun k => k) fun _ _ k => k
/-- What a call on the document's cache leaves. -/
def RefS (w w' : World) (base r : Nat) (M : Int) (v : Value) (L' : List Ent) : Prop :=
  ∃ v', RefM w' base r M v' L' ∧ (v' = v ∨ ∀ g, v'.ownBlock = some g → w.heap.size ≤ g) ∧ Stp (fun g => g = r) w w'
theorem RefS.trans {a b c : World} {base r : Nat} {M : Int} {v : Value} {L2 : List Ent} (s : Stp (fun g => g = r) a b) {v1 : Value} (hv : v1 = v ∨ ∀ g, v1.ownBlock = some g → a.heap.size ≤ g) (k : RefS b c base r M v1 L2) : RefS a c base r M v L2 := by
  obtain ⟨v2, h1, h2, h3⟩ := k
  refine ⟨v2, h1, ?_, s.trans h3⟩
  rcases h2 with rfl | h2
  · exact hv
  · exact .inr fun g hg => Nat.le_trans s.size (h2 g hg)
set_option maxRecDepth 8000 in
set_option maxHeartbeats 1600000 in
theorem kfind_ok {w : World} {base r : Nat} {M : Int} {v : Value} {L : List Ent} (h : RefM w base r M v L) (hl : L.length ≤ 1000000) (k : Int) : Calls Try.prog 29 #[ptr r, num k] w fun e w' => ∃ i, e = .returned (num i) ∧ Place L k i ∧ w' = w := by
  obtain ⟨p, cap, rfl, hle, hform⟩ := rowR_form h.row
  have c1 : w.cell? ⟨r, 1, none⟩ = some (.slice p L.length cap) := cell_at h.box rfl
  have HA : Hid (∀ i (hi : i < L.length), ∃ g, p = some ⟨g, 0, none⟩ ∧ w.cell? ⟨g, i * 3, none⟩ = some (num L[i].key)) := fun i hi => by
    rcases hform with ⟨_, rfl⟩ | ⟨g, e, _, _, hc⟩
    · simp at hi
    · exact ⟨g, e, hc _ _ (entC_cells hi).1⟩
  obtain ⟨n, hn⟩ : ∃ n, n = L.length := ⟨_, rfl⟩
  rw [← hn] at c1 hle hl
  have HN := hide hn
  clear hform h hn
  go_enter Try.func29, Try.ntmps29
  go_wp2_with fail
  go_loopw [5] (fun iv wr => wr = w ∧ ∃ i : Nat, i ≤ n ∧ iv = num i ∧ Hid (∀ j (hj : j < L.length), j < i → L[j].key ≠ k)) (fun iv _ => n - (intOf iv).toNat)
  case atStart => exact ⟨rfl, 0, by omega, rfl, hide fun j hj hj0 => absurd hj0 (by omega)⟩
  case round =>
    obtain ⟨rfl, i, hi, rfl, hnot⟩ := hrel
    by_cases hc : i < n
    · have p1 : (i : Int) < (n : Int) := by omega
      have hiL : i < L.length := by rw [← HN.out]; exact hc
      obtain ⟨g, rfl, hcell⟩ := HA.out i hiL
      by_cases hk : L[i].key = k
      · have HP : Hid (Place L k i) := .inr ⟨i, rfl, hiL, hk⟩
        have hkk : (L[i].key == k) = true := by simpa using hk
        rw [hk] at hcell
        clear hkk hk hnot
        go_wp2_with fail
        go_ret
        exact ⟨_, rfl, HP.out, rfl⟩
      · have hkk : (L[i].key == k) = false := by simpa using hk
        have HP : Hid (∀ j (hj : j < L.length), j < i + 1 → L[j].key ≠ k) := hide fun j hj hji => by
          rcases Nat.lt_or_ge j i with h1 | h1
          · exact hnot.out j hj h1
          · obtain rfl : j = i := by omega
            exact hk
        generalize L[i].key = kk at *
        clear hnot
        go_wp2_with fail
        go_roundw
        case rel => exact ⟨trivial, i + 1, by omega, by go_num, HP⟩
        case measure => simp [intOf]; omega
    · obtain rfl : i = n := by omega
      have p1 : ¬ (i : Int) < (i : Int) := by omega
      have HP : Hid (Place L k (-1)) := .inl ⟨rfl, fun x hx => by
        obtain ⟨j, hj, rfl⟩ := List.mem_iff_getElem.1 hx
        exact hnot.out j hj (by rw [HN.out]; exact hj)⟩
      clear hnot
      go_wp2_with fail
      go_ret
      exact ⟨_, rfl, HP.out, rfl⟩
theorem take_get {xs : List Value} {n j : Nat} {u : Value} (h : (xs.take n)[j]? = some u) : xs[j]? = some u := by
  rw [List.getElem?_take] at h
  split at h
  · exact h
  · cases h
/-- Cells that lie somewhere are appended to a row of one's own. -/
theorem append_ref (W : World) (base : Nat) (v : Value) (S N : List Ent) (hown : W.ownsRow base 40 3 v S.length (entC S)) (a : Addr) (c : Nat) (hc : ∀ j u, (entC N)[j]? = some u → W.cell? (a.add j) = some u) (hl : S.length + N.length ≤ 2000000) (hb : base ≤ W.heap.size) (ty : TypeId) :
    ∃ p n k W2, (Builtin.append_ #[29, 29] ty #[v, .slice (some a) N.length c]).run Try.prog W = .ok (.slice p n k) W2 ∧ W2.ownsRow base 40 3 (.slice p n k) (S ++ N).length (entC (S ++ N)) ∧ W.grownBy W2 v.ownBlock ∧
      ((Value.slice p n k).ownBlock = v.ownBlock ∨ (Value.slice p n k).ownBlock = some W.heap.size) := by
  obtain ⟨i0, hi, hz0, hz1, hz2⟩ := info_parts infoR
  obtain ⟨v', W2, hrun, ho, hg, _, hat⟩ := run_append_own_at (P := Try.prog) W base 29 ty 40 i0 (.agg #[num 0, u64v 0, .bool false]) 3 24 Try.underlying29 hi hz0 hz1 hz2 rfl (by decide) v S.length (entC S) hown a N.length c (entC N) (entC_len N) hc (entC_one1 N) (by unfold maxLen; omega) (by omega) hb
  rw [← List.length_append, ← entC_app] at ho
  obtain ⟨p, k, rfl⟩ : ∃ p k, v' = .slice p (S ++ N).length k := by
    rcases ho.2 with ⟨e, h0⟩ | ⟨g, cap, cur, e, _⟩
    · exact ⟨none, 0, by rw [e, h0]⟩
    · exact ⟨_, _, e⟩
  exact ⟨p, _, k, W2, hrun, ho, hg, hat⟩
theorem wpList_append_by {W W2 : World} {ops : Array Oper} {rest : List Oper} {o : Oper} {a : Act} {Q : Exit → Act → World → Prop} (hgd : o.guard = none) (s y : Operand) {t : TypeId}
    (ho : o.op = .call { callee := .builtin .append, args := #[s, y], argTypes := #[t, t] }) {sv yv v' : Value} (hs : a.eval s = sv) (hy : a.eval y = yv) (hr : (Builtin.append_ #[t, t] o.type #[sv, yv]).run Try.prog W = .ok v' W2)
    (h : wpList Try.prog ops Q rest (a.put o.dst v') W2) : wpList Try.prog ops Q (o :: rest) a W := by
  refine wpList_plain hgd fun K hK => ?_
  unfold Oper.wp
  rw [exec_append ho hs hy hr]
  exact hK _ _ h
set_option maxRecDepth 8000 in
set_option maxHeartbeats 3200000 in
theorem kout_ok {w : World} {base r : Nat} {M : Int} {v : Value} {L : List Ent} (h : RefM w base r M v L) (hl : L.length ≤ 1000000) {j : Nat} (hj : j < L.length) : Calls Try.prog 30 #[ptr r, num j] w fun e w' => e = .returned (entV L[j]) ∧ RefS w w' base r M v (outL L j) := by
  obtain ⟨p, cap, rfl, hle, hform⟩ := rowR_form h.row
  obtain ⟨g, rfl, hbg, hgl, hc⟩ : ∃ g, p = some ⟨g, 0, none⟩ ∧ base ≤ g ∧ g < w.heap.size ∧ (∀ j u, (entC L)[j]? = some u → w.cell? ⟨g, j, none⟩ = some u) := by
    rcases hform with ⟨_, rfl⟩ | hform
    · simp at hj
    · exact hform
  have hrl := lt_of_heap h.box
  have hgr : g ≠ r := fun e => h.ne (by rw [← e]; rfl)
  obtain ⟨e, he⟩ : ∃ e, e = L[j] := ⟨_, rfl⟩
  obtain ⟨x0, x1, x2⟩ := entC_cells hj
  rw [← he] at x0 x1 x2
  have y0 := hc _ _ x0
  have y1 := hc _ _ x1
  have y2 := hc _ _ x2
  obtain ⟨wA, hwA⟩ : ∃ wA, wA = w.alloc (entR zeroE) := ⟨_, rfl⟩
  have gA : w.grownBy wA none := by rw [hwA]; exact World.grownBy_alloc w _ none
  have sA : wA.heap.size = w.heap.size + 1 := by rw [hwA]; simp
  obtain ⟨wB, hwB⟩ : ∃ wB, wB = wA.alloc (entR e) := ⟨_, rfl⟩
  have gB' : wA.grownBy wB none := by rw [hwB]; exact World.grownBy_alloc wA _ none
  have gB := grownBy_trans gA gB'
  have sB : wB.heap.size = w.heap.size + 2 := by rw [hwB]; simp [sA]
  have b0 : wB.heap[w.heap.size]? = some (entR zeroE) := (gB'.block _ (by omega) (by simp)).trans (by rw [hwA]; exact heap_alloc_new w _)
  have b1 : wB.heap[w.heap.size + 1]? = some (entR e) := by rw [hwB, ← sA]; exact heap_alloc_new wA _
  have cB : ∀ j u, (entC L)[j]? = some u → wB.cell? ⟨g, j, none⟩ = some u := fun j u hu => (cell_of_block (gB.block g hgl (by simp))).trans (hc j u hu)
  obtain ⟨p1, n1, k1, w1, hr1, ho1, hg1, hat1⟩ := append_ref wB wB.heap.size (.slice none 0 0) [] (L.take j) (World.ownsRow_nil _ _ _ _) ⟨g, 0, none⟩ cap (fun i u hu => by
    rw [addr_add', Nat.zero_add]
    rw [entC_take] at hu
    exact cB i u (take_get hu)) (by simp; omega) (Nat.le_refl _) 29
  rw [List.length_take, Nat.min_eq_left (by omega)] at hr1
  rw [List.nil_append] at ho1
  have hg1' : wB.grownBy w1 none := hg1
  have cA1 : ∀ i u, (entC L)[i]? = some u → w1.cell? ⟨g, i, none⟩ = some u := fun i u hu => (cell_of_block (hg1'.block g (by omega) (by simp))).trans (cB i u hu)
  have HS2 : ∀ a2 : Addr, (a2 = ⟨g, 0, none⟩ ∧ cap = j + 1 ∨ a2 = ⟨g, (j + 1) * 3, none⟩) → ∃ p2 n2 k2 w2, (Builtin.append_ #[29, 29] 29 #[.slice p1 n1 k1, .slice (some a2) (L.length - (j + 1)) (cap - (j + 1))]).run Try.prog w1 = .ok (.slice p2 n2 k2) w2 ∧
      w2.cell? ⟨r, 1, none⟩ = some (.slice (some ⟨g, 0, none⟩) L.length cap) ∧ w2.frozen? ⟨r, 1, none⟩ = false ∧ ∀ w3, w3 = w2.setCell ⟨r, 1, none⟩ (.slice p2 n2 k2) → w3.heap[w.heap.size]? = some (entR zeroE) ∧ w3.heap[w.heap.size + 1]? = some (entR e) ∧ ∀ w4, Stp (In [w.heap.size]) w3 w4 → RefS w w4 base r M (.slice (some ⟨g, 0, none⟩) L.length cap) (outL L j) := fun a2 ha2 => by
    obtain ⟨p2, n2, k2, w2, hr2, ho2, hg2, hat2⟩ := append_ref w1 wB.heap.size (.slice p1 n1 k1) (L.take j) (L.drop (j + 1)) ho1 a2 (cap - (j + 1)) (fun i u hu => by
      rw [entC_drop, List.getElem?_drop] at hu
      rcases ha2 with ⟨_, hcap⟩ | rfl
      · have := (List.getElem?_eq_some_iff.1 hu).1
        rw [entC_len] at this
        omega
      · rw [addr_add']
        exact cA1 _ _ hu) (by simp; omega) hg1.size 29
    rw [List.length_drop] at hr2
    have hold : ∀ x, x < wB.heap.size → w2.heap[x]? = wB.heap[x]? := fun x hx => by
      refine (hg2.block x (Nat.lt_of_lt_of_le hx hg1.size) fun e => ?_).trans (hg1'.block x hx (by simp))
      rcases hat1 with h1 | h1
      · rw [h1] at e; cases e
      · rw [h1] at e; have := Option.some.inj e; omega
    have hnew2 : ∀ x, (Value.slice p2 n2 k2).ownBlock = some x → wB.heap.size ≤ x := fun x hx => (ho2.lt x hx).1
    have bx : w2.heap[r]? = some (.cells #[num M, .slice (some ⟨g, 0, none⟩) L.length cap] 31) := (hold r (by omega)).trans ((gB.block r hrl (by simp)).trans h.box)
    refine ⟨p2, n2, k2, w2, hr2, cell_at bx rfl, free_at bx, fun w3 hw3 => ?_⟩
    have s2 : Stp (fun x => x = r) w w2 := ⟨hg2.os.trans (hg1.os.trans gB.os), hg2.tape.trans (hg1.tape.trans gB.tape), hg2.output.trans (hg1.output.trans gB.output), Nat.le_trans gB.size (Nat.le_trans hg1.size hg2.size), fun x hx _ => (hold x (by omega)).trans (gB.block x hx (by simp))⟩
    have s3 : Stp (fun x => x = r) w w3 := by rw [hw3]; exact s2.set (.inl rfl) _
    have s23 : Stp (fun x => x = r) w2 w3 := by rw [hw3]; exact (Stp.refl (fun x => x = r) w2).set (.inl rfl) _
    refine ⟨?_, ?_, fun w4 s4 => ⟨.slice p2 n2 k2, ⟨?_, ?_, fun e => ?_, h.low⟩, .inr fun x hx => by have := hnew2 x hx; omega, s3.new s4⟩⟩
    · rw [hw3, setCell_else (by omega)]; exact (hold _ (by omega)).trans b0
    · rw [hw3, setCell_else (by omega)]; exact (hold _ (by omega)).trans b1
    · have b3 : w3.heap[r]? = some (.cells #[num M, .slice p2 n2 k2] 31) := by rw [hw3]; exact setCell_row (i := 1) (L := [num M, _]) bx _
      exact s4.obj (by simp; omega) b3
    · refine ownsR_low (ownsR_stp (ownsR_stp ho2 s23 fun x hx e => ?_) s4 fun x hx e => ?_) (by have := h.low; omega)
      · subst e; have := hnew2 _ hx; omega
      · obtain rfl : x = w.heap.size := by simpa using e
        have := hnew2 _ hx; omega
    · have := hnew2 r e; omega
  have hj' : (j : Int) < (L.length : Int) := by omega
  have hjI : IntKind.i64.wrap ((j : Int) + 1) = (j + 1 : Nat) := by rw [IntKind.wrap_i64]; omega
  have c1 : w.cell? ⟨r, 1, none⟩ = some (.slice (some ⟨g, 0, none⟩) L.length cap) := cell_at h.box rfl
  have c1A : wA.cell? ⟨r, 1, none⟩ = some (.slice (some ⟨g, 0, none⟩) L.length cap) := (cell_of_block (gA.block r hrl (by simp))).trans c1
  have c1B : wB.cell? ⟨r, 1, none⟩ = some (.slice (some ⟨g, 0, none⟩) L.length cap) := (cell_of_block (gB.block r hrl (by simp))).trans c1
  have c11 : w1.cell? ⟨r, 1, none⟩ = some (.slice (some ⟨g, 0, none⟩) L.length cap) := (cell_of_block (hg1'.block r (by omega) (by simp))).trans c1B
  have ya0 : wA.cell? ⟨g, j * 3, none⟩ = some (num e.key) := (cell_of_block (gA.block g hgl (by simp))).trans y0
  have ya1 : wA.cell? ⟨g, j * 3 + 1, none⟩ = some (u64v e.val) := (cell_of_block (gA.block g hgl (by simp))).trans y1
  have ya2 : wA.cell? ⟨g, j * 3 + 2, none⟩ = some (.bool e.dirty) := (cell_of_block (gA.block g hgl (by simp))).trans y2
  rw [← he]
  obtain ⟨n, hn⟩ : ∃ n, n = L.length := ⟨_, rfl⟩
  rw [← hn] at hj hj' hle c1 c1A c1B c11 HS2 ⊢
  have HR1 := hide hr1
  have HwA : Hid (wA = w.alloc (.cells #[num 0, u64v 0, .bool false] 40)) := hwA
  have HwB : Hid (wB = wA.alloc (.cells #[num e.key, u64v e.val, .bool e.dirty] 40)) := hwB
  have HsA := hide sA
  clear h hc he x0 x1 x2 y0 y1 y2 gA gB gB' sA sB b0 b1 cB hr1 ho1 hg1 hat1 hg1' cA1 hwA hwB hform hbg hgl hrl hgr hn hl c1
  have hj1 : j + 1 ≤ n := hj
  have hj2 : j + 1 ≤ cap := by omega
  by_cases hcap : cap = j + 1
  · obtain ⟨p2, n2, k2, w2, hr2, d1, d1f, HS0⟩ := HS2 ⟨g, 0, none⟩ (.inl ⟨rfl, hcap⟩)
    obtain rfl : n = j + 1 := by omega
    obtain rfl := hcap
    rw [Nat.sub_self] at hr2
    obtain ⟨w3, hw3⟩ : ∃ w3, w3 = w2.setCell ⟨r, 1, none⟩ (.slice p2 n2 k2) := ⟨_, rfl⟩
    obtain ⟨f0, f1, HS1⟩ := HS0 w3 hw3
    rw [← HsA.out] at f1
    obtain ⟨z0, z1, z2⟩ := cells3R f1
    have HS := hide HS1
    have HR2 := hide hr2
    have HW3 := hide hw3
    have HF := hide f0
    clear HS2 HS0 HS1 hr2 hw3 f0 f1
    go_enter Try.func30, Try.ntmps30
    go_wp2_with (first | rw [← HwA.out] | rw [← HwB.out] | rw [← HW3.out] | refine wpList_append_by (W := wB) (W2 := w1) (t := 29) (sv := .slice none 0 0) (yv := .slice (some ⟨g, 0, none⟩) j (j + 1)) (v' := .slice p1 n1 k1) rfl (.tmp 14) (.tmp 20) rfl rfl rfl HR1.out ?_ | refine wpList_append_by (W := w1) (W2 := w2) (t := 29) (sv := .slice p1 n1 k1) (yv := .slice (some ⟨g, 0, none⟩) 0 0) (v' := .slice p2 n2 k2) rfl (.tmp 23) (.tmp 30) rfl rfl rfl HR2.out ?_ | (refine wpList_store_ref rfl (.tmp 4) (.tmp 34) rfl w.heap.size zeroE e rfl rfl HF.out fun w4 h4 hs4 => ?_))
    obtain ⟨u0, u1, u2⟩ := cells3R h4
    exact bodyPost_ret (v := entV e) (by simp [results, Try.f30, go_sem, u0, u1, u2, entV]) rfl ⟨rfl, HS.out _ hs4⟩
  · obtain ⟨p2, n2, k2, w2, hr2, d1, d1f, HS0⟩ := HS2 ⟨g, (j + 1) * 3, none⟩ (.inr rfl)
    obtain ⟨w3, hw3⟩ : ∃ w3, w3 = w2.setCell ⟨r, 1, none⟩ (.slice p2 n2 k2) := ⟨_, rfl⟩
    obtain ⟨f0, f1, HS1⟩ := HS0 w3 hw3
    rw [← HsA.out] at f1
    obtain ⟨z0, z1, z2⟩ := cells3R f1
    have HS := hide HS1
    have HR2 := hide hr2
    have HW3 := hide hw3
    have HF := hide f0
    clear HS2 HS0 HS1 hr2 hw3 f0 f1
    have hcc : ¬ cap - (j + 1) = 0 := by omega
    go_enter Try.func30, Try.ntmps30
    go_wp2_with (first | rw [← HwA.out] | rw [← HwB.out] | rw [← HW3.out] | refine wpList_append_by (W := wB) (W2 := w1) (t := 29) (sv := .slice none 0 0) (yv := .slice (some ⟨g, 0, none⟩) j cap) (v' := .slice p1 n1 k1) rfl (.tmp 14) (.tmp 20) rfl rfl rfl HR1.out ?_ | refine wpList_append_by (W := w1) (W2 := w2) (t := 29) (sv := .slice p1 n1 k1) (yv := .slice (some ⟨g, (j + 1) * 3, none⟩) (n - (j + 1)) (cap - (j + 1))) (v' := .slice p2 n2 k2) rfl (.tmp 23) (.tmp 30) rfl rfl rfl HR2.out ?_ | (refine wpList_store_ref rfl (.tmp 4) (.tmp 34) rfl w.heap.size zeroE e rfl rfl HF.out fun w4 h4 hs4 => ?_))
    obtain ⟨u0, u1, u2⟩ := cells3R h4
    exact bodyPost_ret (v := entV e) (by simp [results, Try.f30, go_sem, u0, u1, u2, entV]) rfl ⟨rfl, HS.out _ hs4⟩
set_option maxRecDepth 8000 in
set_option maxHeartbeats 1600000 in
theorem kfirst_ok {w : World} {base r : Nat} {M : Int} {v : Value} {L : List Ent} (h : RefM w base r M v L) (hl : L.length ≤ 1000000) (e : Ent) : Calls Try.prog 31 #[ptr r, .agg #[num e.key, u64v e.val, .bool e.dirty]] w fun q w' => (∃ v, q = .returned v) ∧ RefS w w' base r M v (e :: L) := by
  obtain ⟨p, cap, rfl, hle, hform⟩ := rowR_form h.row
  have hrl := lt_of_heap h.box
  have hbl := h.low
  obtain ⟨wA, hwA⟩ : ∃ wA, wA = w.alloc (entR e) := ⟨_, rfl⟩
  have gA : w.grownBy wA none := by rw [hwA]; exact World.grownBy_alloc w _ none
  have sA : wA.heap.size = w.heap.size + 1 := by rw [hwA]; simp
  obtain ⟨wB, hwB⟩ : ∃ wB, wB = wA.alloc (entR e) := ⟨_, rfl⟩
  have gB' : wA.grownBy wB none := by rw [hwB]; exact World.grownBy_alloc wA _ none
  have gB := grownBy_trans gA gB'
  have sB : wB.heap.size = w.heap.size + 2 := by rw [hwB]; simp [sA]
  have hx := (heap_alloc_new w (entR e))
  rw [← hwA] at hx
  obtain ⟨x0, x1, x2⟩ := cells3R hx
  have hown : wB.ownsRow wA.heap.size 40 3 (.slice (some ⟨wA.heap.size, 0, none⟩) 1 1) [e].length (entC [e]) :=
    ⟨rfl, .inr ⟨wA.heap.size, 1, _, rfl, Nat.le_refl _, by rw [hwB]; exact heap_alloc_new wA _, Nat.le_refl _, by unfold maxLen; omega, rfl, rfl⟩⟩
  have bx : wB.heap[r]? = some (.cells #[num M, .slice p L.length cap] 31) := (gB.block r hrl (by simp)).trans h.box
  have c1 : wB.cell? ⟨r, 1, none⟩ = some (.slice p L.length cap) := cell_at bx rfl
  have HS : ∃ p2 n2 k2 w2, (Builtin.append_ #[29, 29] 29 #[.slice (some ⟨wA.heap.size, 0, none⟩) 1 1, .slice p L.length cap]).run Try.prog wB = .ok (.slice p2 n2 k2) w2 ∧ w2.cell? ⟨r, 1, none⟩ = some (.slice p L.length cap) ∧ w2.frozen? ⟨r, 1, none⟩ = false ∧
      RefS w (w2.setCell ⟨r, 1, none⟩ (.slice p2 n2 k2)) base r M (.slice p L.length cap) (e :: L) := by
    have hboth : ∃ p2 n2 k2 w2, (Builtin.append_ #[29, 29] 29 #[.slice (some ⟨wA.heap.size, 0, none⟩) 1 1, .slice p L.length cap]).run Try.prog wB = .ok (.slice p2 n2 k2) w2 ∧ w2.ownsRow wA.heap.size 40 3 (.slice p2 n2 k2) (e :: L).length (entC (e :: L)) ∧ wB.grownBy w2 (some wA.heap.size) := by
      rcases hform with ⟨e0, rfl⟩ | ⟨g, rfl, hb, hg, hc⟩
      · obtain ⟨i0, hi, _⟩ := info_parts infoR
        rw [e0]
        exact ⟨_, _, _, wB, run_append_owned_none (P := Try.prog) (w := wB) wA.heap.size 29 29 40 i0 3 Try.underlying29 hi _ _ _ hown, hown, ⟨rfl, rfl, rfl, Nat.le_refl _, fun _ _ _ => rfl⟩⟩
      · obtain ⟨p2, n2, k2, w2, hr, ho, hg2, _⟩ := append_ref wB wA.heap.size _ [e] L hown ⟨g, 0, none⟩ cap (fun i u hu => by
          rw [addr_add', Nat.zero_add]
          exact (cell_of_block (gB.block g hg (by simp))).trans (hc i u hu)) (by simp; omega) gB'.size 29
        exact ⟨p2, n2, k2, w2, hr, ho, hg2⟩
    obtain ⟨p2, n2, k2, w2, hr, ho, hg2⟩ := hboth
    have hold : ∀ x, x < wA.heap.size → w2.heap[x]? = wB.heap[x]? := fun x hx => hg2.block x (by omega) fun e => by have := Option.some.inj e; omega
    have bx2 := (hold r (by omega)).trans bx
    have hnew2 : ∀ x, (Value.slice p2 n2 k2).ownBlock = some x → wA.heap.size ≤ x := fun x hx => (ho.lt x hx).1
    have s2 : Stp (fun x => x = r) w w2 := ⟨hg2.os.trans gB.os, hg2.tape.trans gB.tape, hg2.output.trans gB.output, Nat.le_trans gB.size hg2.size, fun x hx _ => (hold x (by omega)).trans (gB.block x hx (by simp))⟩
    refine ⟨p2, n2, k2, w2, hr, cell_at bx2 rfl, free_at bx2, .slice p2 n2 k2, ⟨setCell_row (i := 1) (L := [num M, _]) bx2 _, ownsR_low (ownsR_stp ho ((Stp.refl (fun x => x = r) w2).set (.inl rfl) _) fun x hx e => ?_) (by omega), fun e => ?_, hbl⟩, .inr fun x hx => ?_, s2.set (.inl rfl) _⟩
    · subst e; have := hnew2 _ hx; omega
    · have := hnew2 r e; omega
    · have := hnew2 x hx; omega
  obtain ⟨p2, n2, k2, w2, hr, d1, d2, HS⟩ := HS
  have HR := hide hr
  have HP := hide HS
  have HwA : Hid (wA = w.alloc (.cells #[num e.key, u64v e.val, .bool e.dirty] 40)) := hwA
  have HwB : Hid (wB = wA.alloc (.cells #[num e.key, u64v e.val, .bool e.dirty] 40)) := hwB
  have HsA := hide sA
  generalize L.length = n at *
  clear h hform hrl hbl gA sA gB' gB sB hx hown bx hwA hwB hr HS
  go_enter Try.func31, Try.ntmps31
  go_wp2_with (first | rw [← HwA.out] | rw [← HwB.out] | refine wpList_append_by (W := wB) (W2 := w2) (t := 29) (sv := .slice (some ⟨wA.heap.size, 0, none⟩) 1 1) (yv := .slice p n cap) (v' := .slice p2 n2 k2) rfl (.tmp 8) (.tmp 12) rfl rfl rfl HR.out ?_)
  go_end0
  exact ⟨⟨_, rfl⟩, HP.out⟩
end Lr
end Go.Proofs.Ytlgomaohfhgkpaa
