/- Layer 10 (lru): Drop. -/
import Derived.Test.YtlgomaohfhgkpaaLf
import Derived.Laws.Tables
namespace Go.Proofs.Ytlgomaohfhgkpaa
open Go.RowKit Go.Maps
namespace Lr
variable {w : World} {c m e : Nat} {most : Int} {bs : List Nat} {ent : Nat → Ent} {pv nx : Nat → Nat} {K : Int → Option Nat}
abbrev zeroO : Obj := .cells #[num 0, u64v 0, .bool false] 37
def dropE (L : List Ent) (k : Int) : Ent := (look L k).getD zeroE
def DropPost (w : World) (c : Nat) (most : Int) (S : Nat → Prop) (L : List Ent) (k : Int) (r : Ending) (w' : World) : Prop :=
  r = .returned (.tuple #[entV (dropE L k), .bool (look L k).isSome]) ∧ CL w' c most S (rest L k) ∧ Stp S w w'
theorem CacheM.lt (h : CacheM w c m e most bs ent pv nx K) : ∀ b ∈ m :: e :: bs, b < w.heap.size := fun b hb => by
  rcases List.mem_cons.1 hb with rfl | h1
  · exact h.map.lt
  · exact (h.links b h1).lt
theorem CacheM.less {xs ys : List Nat} {b : Nat} (h : CacheM w c m e most (xs ++ b :: ys) ent pv nx K) {k : Int} (hK : K k = some b) {w1 w2 : World} {pv' nx' : Nat → Nat} (hl : LinksM w1 (e :: (xs ++ b :: ys)) ent pv' nx') (hr : Chn nx' pv' e (xs ++ ys) e) (hs : Stp (In (e :: (xs ++ b :: ys))) w w1)
    (hm : MapM w2 m (fun i => if i = k then none else K i) (xs ++ ys).length) (hg : w1.grownBy w2 (some m)) : CacheM w2 c m e most (xs ++ ys) ent pv' nx' (fun i => if i = k then none else K i) := by
  obtain ⟨n1, n2⟩ := nodup_less h.nd
  have hsub : ∀ x, x ∈ e :: (xs ++ ys) → x ∈ e :: (xs ++ b :: ys) := fun x hx => by
    simp at hx ⊢
    rcases hx with h | h | h
    · exact .inl h
    · exact .inr (.inl h)
    · exact .inr (.inr (.inr h))
  have hc1 := hs.obj h.cne h.box
  refine ⟨(hg.block c (lt_of_heap hc1) (fun e1 => h.cm (Option.some.inj e1))).trans hc1, hm, fun x hx => ?_, hr, n1, fun i x => ?_, fun x hx => h.i64 x ?_, fun hx => h.mne (hsub _ hx), fun hx => h.cne (hsub _ hx), h.cm⟩
  · have := hl x (hsub x hx)
    exact this.of_heap (hg.block x this.lt (fun e1 => h.mne (Option.some.inj e1 ▸ hsub x hx)))
  · by_cases e1 : i = k
    · subst e1
      rw [if_pos rfl]
      constructor
      · intro h1; cases h1
      · rintro ⟨h1, h2⟩
        have h3 := (h.keys i x).2 ⟨by have := hsub x (List.mem_cons_of_mem _ h1); rcases List.mem_cons.1 this with h4 | h4; exact absurd (h4 ▸ h1) (List.nodup_cons.1 n1).1; exact h4, h2⟩
        rw [hK] at h3
        obtain rfl := Option.some.inj h3
        exact absurd (List.mem_cons_of_mem _ h1) n2
    · rw [if_neg e1, h.keys]
      constructor
      · rintro ⟨h1, h2⟩
        refine ⟨?_, h2⟩
        rcases (perm_front x).2 h1 with _ | ⟨_, h3⟩
        · exact absurd (h2.symm.trans ((h.keys k b).1 hK).2) e1
        · exact h3
      · rintro ⟨h1, h2⟩
        exact ⟨(perm_front x).1 (List.mem_cons_of_mem _ h1), h2⟩
  · exact (perm_front x).1 (List.mem_cons_of_mem _ hx)
def entO (x : Ent) : Obj := .cells #[num x.key, u64v x.val, .bool x.dirty] 37
theorem info37 : (Try.prog.info? 37).map (·.size) = some 3 := by kernel_rfl
theorem setRow_heap (w : World) (g : Nat) (cs old : Array Value) (t : TypeId) (h : w.heap[g]? = some (.cells old t)) : (w.setRow g cs).heap[g]? = some (.cells cs t) := by
  simp [World.setRow, Array.getElem?_modify, h]
theorem setRow_other (w : World) (g : Nat) (cs : Array Value) (j : Nat) (hj : j ≠ g) : (w.setRow g cs).heap[j]? = w.heap[j]? := by
  simp [World.setRow, Array.getElem?_modify, Ne.symm hj]
theorem wpList_store_ent {w : World} {ops : Array Oper} {rest : List Oper} {o : Oper} {a : Act} {Q : Exit → Act → World → Prop} (hgd : o.guard = none) (x y : Operand) (ho : o.op = .store 37 x y)
    (g : Nat) (r0 r : Ent) (hx : a.eval x = .pointer (some ⟨g, 0, none⟩)) (hy : a.eval y = entV r) (hg : w.heap[g]? = some (entO r0))
    (h : ∀ w', w'.heap[g]? = some (entO r) → Stp (In [g]) w w' → wpList Try.prog ops Q rest (a.put o.dst undef) w') : wpList Try.prog ops Q (o :: rest) a w :=
  wpList_store_row hgd _ x y ho g _ hx hy 37 _ hg info37 rfl (by simp [Value.oneCell']) (h _ (setRow_heap _ _ _ _ _ hg)
    ⟨rfl, rfl, rfl, by simp [World.setRow], fun k _ hk => setRow_other _ _ _ _ (by simpa using hk)⟩)
theorem cells3 {w : World} {g : Nat} {r : Ent} (h : w.heap[g]? = some (entO r)) : w.cell? ⟨g, 0, none⟩ = some (num r.key) ∧ w.cell? ⟨g, 1, none⟩ = some (u64v r.val) ∧ w.cell? ⟨g, 2, none⟩ = some (.bool r.dirty) :=
  ⟨cell_at h rfl, cell_at h rfl, cell_at h rfl⟩
/-- Writes to blocks that w hadn't. -/
theorem Stp.new {S : Nat → Prop} {w wA w3 : World} {r : Nat} (h : Stp S w wA) (h3 : Stp (In [r]) wA w3) (hr : w.heap.size ≤ r := by exact Nat.le_refl _) : Stp S w w3 :=
  ⟨h3.os.trans h.os, h3.tape.trans h.tape, h3.output.trans h.output, Nat.le_trans h.size h3.size, fun g hg hn => (h3.same g (Nat.lt_of_lt_of_le hg h.size) (by simp; omega)).trans (h.same g hg hn)⟩
set_option maxRecDepth 8000 in
set_option maxHeartbeats 1600000 in
theorem Drop_ok {w : World} {c : Nat} {most : Int} {S : Nat → Prop} {L : List Ent} (h : CL w c most S L) {k : Int} (hk : I64 k) : Calls Try.prog 19 #[ptr c, num k] w (DropPost w c most S L k) := by
  have h0 := h
  obtain ⟨m, e, bs, ent, pv, nx, K, hM, rfl, hs, hB⟩ := h
  have hcl := lt_of_heap hM.box
  have hMlt := hM.lt
  obtain ⟨wA, hwA⟩ : ∃ wA, wA = w.alloc zeroO := ⟨_, rfl⟩
  have hgA : w.grownBy wA none := by rw [hwA]; exact World.grownBy_alloc w _ none
  have hMA : CacheM wA c m e most bs ent pv nx K := hM.stp (T := No) (.of_grown hgA) (fun k => k) (fun _ _ k => k)
  have hrA : wA.heap[w.heap.size]? = some zeroO := by rw [hwA]; exact heap_alloc_new w _
  have H1 := hide (find_ok hMA hk)
  have hw := hide hwA
  have hr := hide hrA
  clear hwA
  cases hK : K k with
  | none =>
    obtain ⟨q1, q2⟩ := hM.miss hK
    rw [hK] at H1
    have HP : Hid (∀ w3, Stp (In [w.heap.size]) wA w3 → DropPost w c most S (bs.map ent) k (.returned (.tuple #[.agg #[num 0, u64v 0, .bool false], .bool false])) w3) := fun w3 h3 => by
      refine ⟨by rw [dropE, q1]; rfl, ?_, (Stp.of_grown hgA).new h3⟩
      rw [q2]
      exact ⟨m, e, bs, ent, pv, nx, K, hMA.stp h3 (by simp; omega) (fun b hb => by have := hMlt b hb; simp; omega), rfl, hs, hB⟩
    clear h0 hM hB q1 q2 hK hs hMA hgA hMlt hcl hrA
    go_enter Try.func19, Try.ntmps19
    go_wp2_with (rw [← hw.out])
    refine H1.out.mono ?_
    rintro r w1 ⟨rfl, rfl⟩
    clear H1
    simp only [ptrV]
    go_wp2_with (first | (refine wpList_store_ent rfl (.tmp 4) (.tmp 12) rfl w.heap.size zeroE zeroE rfl rfl hr.out fun w3 h3 hs3 => ?_))
    have HD := HP.out w3 hs3
    obtain ⟨x0, x1, x2⟩ := cells3 h3
    exact bodyPost_ret (v := .tuple #[.agg #[num 0, u64v 0, .bool false], .bool false]) (by simp [results, Try.f19, go_sem, x0, x1, x2, zeroE]) rfl HD
  | some b =>
    obtain ⟨xs, ys, rfl, q1, q2, q3⟩ := hM.hit hK
    rw [hK] at H1
    have H2 : Hid (Calls Try.prog 36 #[ptr b] wA fun r w1 => (∃ v, r = .returned v) ∧ w1.cell? ⟨c, 1, none⟩ = some (.map (some m)) ∧ ∃ w2, (Builtin.delete_ #[61, 3] 0 #[.map (some m), num k]).run Try.prog w1 = .ok (.tuple #[]) w2 ∧
        w2.cell? ⟨b, 0, none⟩ = some (num (ent b).key) ∧ w2.cell? ⟨b, 1, none⟩ = some (u64v (ent b).val) ∧ w2.cell? ⟨b, 2, none⟩ = some (.bool (ent b).dirty) ∧ w2.heap[w.heap.size]? = some (entO zeroE) ∧
        ∀ w3, Stp (In [w.heap.size]) w2 w3 → DropPost w c most S ((xs ++ b :: ys).map ent) k (.returned (.tuple #[entV (ent b), .bool true])) w3) := by
      refine (take_ok hMA.links hMA.ring hMA.nd).mono ?_
      rintro r w1 ⟨hv, pv', nx', hl1, hr1, hs1⟩
      refine ⟨hv, hs1.cell hMA.cne hMA.cmap, ?_⟩
      have hm1 := hMA.map.of_heap (hs1.same m hMA.map.lt hMA.mne)
      have el : (xs ++ b :: ys).length = (xs ++ ys).length + 1 := by simp; omega
      rw [el] at hm1
      obtain ⟨w2, hrun, hm2, hg2⟩ := hm1.del hk hK 0
      have hb1 := hl1 b (by simp)
      have hbm : b ≠ m := fun e1 => hMA.mne (by simp [← e1])
      have hb2 := hb1.of_heap (hg2.block b hb1.lt (fun e1 => hbm (Option.some.inj e1)))
      have hrn : ∀ x ∈ m :: e :: (xs ++ b :: ys), w.heap.size ≠ x := fun x hx => by have := hMlt x hx; omega
      have hr1' : w1.heap[w.heap.size]? = some (entO zeroE) := hs1.obj (fun hx => hrn _ (List.mem_cons_of_mem _ hx) rfl) hr.out
      have hr2 : w2.heap[w.heap.size]? = some (entO zeroE) := (hg2.block _ (lt_of_heap hr1') (fun e1 => hrn m (by simp) (Option.some.inj e1))).trans hr1'
      refine ⟨w2, hrun, hb2.key, hb2.val, hb2.dirty, hr2, fun w3 h3 => ?_⟩
      have hM2 := hMA.less hK hl1 hr1 hs1 hm2 hg2
      have hsub : ∀ x ∈ m :: e :: (xs ++ ys), x ∈ m :: e :: (xs ++ b :: ys) := fun x hx => by
        simp at hx ⊢
        rcases hx with h | h | h | h
        · exact .inl h
        · exact .inr (.inl h)
        · exact .inr (.inr (.inl h))
        · exact .inr (.inr (.inr (.inr h)))
      refine ⟨by rw [dropE, q1]; rfl, ⟨m, e, _, ent, pv', nx', _, hM2.stp h3 (by simp; omega) (fun x hx hx2 => hrn x (hsub x hx) (List.mem_singleton.1 hx2).symm), q2, hs, fun x hx => hB x (hsub x hx)⟩, ?_⟩
      have hsA : Stp S w w1 := (Stp.of_grown hgA).trans (hs1.more fun g hg => hB g (List.mem_cons_of_mem _ hg))
      have hs2 : Stp S w1 w2 := ⟨hg2.os, hg2.tape, hg2.output, hg2.size, fun g hg hn => hg2.block g hg fun e1 => hn (Option.some.inj e1 ▸ hB m (by simp))⟩
      exact (hsA.trans hs2).new h3
    clear h0 hM hB q1 q2 q3 hK hs hMA hgA hMlt hcl hrA
    go_enter Try.func19, Try.ntmps19
    go_wp2_with (rw [← hw.out])
    refine H1.out.mono ?_
    rintro r w1 ⟨rfl, rfl⟩
    clear H1
    simp only [ptrV]
    go_wp2_with fail
    refine H2.out.mono ?_
    rintro r w2 ⟨⟨v, rfl⟩, c1, w3, hrun, y0, y1, y2, hr3, HP0⟩
    have HP := hide HP0
    have Hr3 := hide hr3
    clear HP0 hr3 H2
    go_wp2_with (first | (refine wpList_store_ent rfl (.tmp 4) (.tmp 23) rfl w.heap.size zeroE (ent b) rfl rfl Hr3.out fun w4 h4 hs4 => ?_))
    have HD := HP.out w4 hs4
    obtain ⟨x0, x1, x2⟩ := cells3 h4
    exact bodyPost_ret (v := .tuple #[entV (ent b), .bool true]) (by simp [results, Try.f19, go_sem, x0, x1, x2, entV]) rfl HD
end Lr
end Go.Proofs.Ytlgomaohfhgkpaa
