/- Layer 10 (lru): the document's Clean. -/
import Derived.Test.YtlgomaohfhgkpaaKc
import Derived.Deep.MidRow
namespace Go.Proofs.Ytlgomaohfhgkpaa
open Go.RowKit Go.Maps Go.Shelf
namespace Lr
theorem entC_cons (x : Ent) (S : List Ent) : entC (x :: S) = num x.key :: u64v x.val :: .bool x.dirty :: entC S := rfl
theorem entC_set (X : List Ent) (k : Nat) (e : Ent) (hk : k < X.length) : entC (X.set k e) = (((entC X).set (k * 3) (num e.key)).set (k * 3 + 1) (u64v e.val)).set (k * 3 + 2) (.bool e.dirty) := by
  induction X generalizing k with
  | nil => simp at hk
  | cons x X ih =>
    cases k with
    | zero => rfl
    | succ k =>
      rw [List.set_cons_succ, entC_cons, entC_cons, ih k (by simpa using hk), show (k + 1) * 3 = k * 3 + 1 + 1 + 1 by omega]
      rfl
theorem entC_setD (X : List Ent) (k : Nat) (b : Bool) (hk : k < X.length) : entC (X.set k ⟨X[k].key, X[k].val, b⟩) = (entC X).set (k * 3 + 2) (.bool b) := by
  induction X generalizing k with
  | nil => simp at hk
  | cons x X ih =>
    cases k with
    | zero => rfl
    | succ k =>
      have h2 : k < X.length := by simpa using hk
      have e : (x :: X)[k + 1] = X[k] := rfl
      rw [e, List.set_cons_succ, entC_cons, entC_cons, ih k h2, show (k + 1) * 3 = k * 3 + 1 + 1 + 1 by omega]
      rfl
theorem own_set {W : World} {base n g o cap : Nat} {xs : List Value} (h : W.ownsRow base 40 3 (.slice (some ⟨g, 0, none⟩) n cap) n xs) (u : Value) : (W.setCell ⟨g, o, none⟩ u).ownsRow base 40 3 (.slice (some ⟨g, 0, none⟩) n cap) n (xs.set o u) := by
  refine ⟨by rw [List.length_set]; exact h.1, ?_⟩
  rcases h.2 with ⟨e, _⟩ | ⟨g', cap', cur, e, h1, h2, h3, h4, h5, h6⟩
  · cases e
  · cases e
    have h2' : W.heap[g]? = some (.cells cur.toList.toArray 40) := by rw [Array.toArray_toList]; exact h2
    refine .inr ⟨g, cap, _, rfl, h1, setCell_row h2' u, h3, h4, by simpa using h5, ?_⟩
    rw [← h6, List.take_set]
theorem row_there {W : World} {base g cap : Nat} {X : List Ent} (h : W.ownsRow base 40 3 (.slice (some ⟨g, 0, none⟩) X.length cap) X.length (entC X)) {k : Nat} (hk : k < X.length) : W.there g (k * 3) 3 := fun j hj => by
  rcases h.2 with ⟨e, _⟩ | ⟨g', cap', cur, e, h1, h2, h3, h4, h5, h6⟩
  · cases e
  · cases e
    have hlt : k * 3 + j < cur.size := by
      have : (k + 1) * 3 ≤ cap * 3 := Nat.mul_le_mul_right _ (by omega)
      omega
    exact ⟨by rw [cell_at h2 (Array.getElem?_eq_getElem hlt)]; rfl, free_at h2⟩
theorem row_set {W W' : World} {base g cap : Nat} {X : List Ent} (h : W.ownsRow base 40 3 (.slice (some ⟨g, 0, none⟩) X.length cap) X.length (entC X)) {k : Nat} (hk : k < X.length) (e : Ent) (hW : W' = W.setCells g (k * 3) [num e.key, u64v e.val, .bool e.dirty]) :
    W'.ownsRow base 40 3 (.slice (some ⟨g, 0, none⟩) X.length cap) X.length (entC (X.set k e)) ∧ Stp (fun x => x = g) W W' := by
  have e1 : W' = ((W.setCell ⟨g, k * 3, none⟩ (num e.key)).setCell ⟨g, k * 3 + 1, none⟩ (u64v e.val)).setCell ⟨g, k * 3 + 2, none⟩ (.bool e.dirty) := hW
  rw [e1, entC_set X k e hk]
  exact ⟨own_set (own_set (own_set h _) _) _, (((Stp.refl (fun x => x = g) W).set (.inl rfl) _).set (.inl rfl) _).set (.inl rfl) _⟩
/-- What has been cleaned so far. -/
structure KcI (w wr : World) (base r : Nat) (M : Int) (v : Value) (L : List Ent) (lo hi : Int) (i : Nat) (vo : Value) (S : List Ent) : Prop where
  ref : RefM wr base r M v (washTo lo hi L i)
  own : wr.ownsRow w.heap.size 40 3 vo S.length (entC S)
  perm : S.Perm ((L.take i).filter (isD lo hi))
  rise : Rising S
  stp : Stp (fun g => v.ownBlock = some g) w wr
def KCleanPost (w : World) (base r : Nat) (M : Int) (v : Value) (L : List Ent) (lo hi : Int) (q : Ending) (w' : World) : Prop :=
  ∃ vo X, q = .returned vo ∧ X.Perm (L.filter (isD lo hi)) ∧ Rising X ∧ w'.ownsRow w.heap.size 40 3 vo X.length (entC X) ∧ RefM w' base r M v (L.map (wash lo hi)) ∧ Stp (fun g => v.ownBlock = some g) w w'
theorem KcI.few {w wr : World} {base r i : Nat} {M lo hi : Int} {v vo : Value} {L S : List Ent} (h : KcI w wr base r M v L lo hi i vo S) : S.length ≤ L.length := by
  have h1 := h.perm.length_eq
  have h2 := List.length_filter_le (isD lo hi) (L.take i)
  simp at h2
  omega
theorem KcI.skip {w wr wE : World} {base r i : Nat} {M lo hi : Int} {v vo : Value} {L S : List Ent} (h : KcI w wr base r M v L lo hi i vo S) (hi2 : i < L.length) (hd : isD lo hi L[i] = false) (hg : wr.grownBy wE none) : KcI w wE base r M v L lo hi (i + 1) vo S := by
  refine ⟨by rw [washTo_skip lo hi hi2 hd]; exact h.ref.grown hg, ownsR_stp h.own (T := No) (.of_grown hg) (fun _ _ k => k), ?_, h.rise, h.stp.trans (.of_grown hg)⟩
  rw [filter_succ lo hi hi2, hd]
  simpa using h.perm
/-- While one is put into its place. -/
structure KcJ (w wr : World) (base r : Nat) (M : Int) (v : Value) (L : List Ent) (lo hi : Int) (i g cap : Nat) (S : List Ent) (e : Ent) (eb : Nat) (k : Nat) (z : Ent) : Prop where
  ref : RefM wr base r M v (washTo lo hi L i)
  own : wr.ownsRow w.heap.size 40 3 (.slice (some ⟨g, 0, none⟩) (insL S z k).length cap) (insL S z k).length (entC (insL S z k))
  kle : k ≤ S.length
  big : ∀ j (hj : j < S.length), k ≤ j → e.key < S[j].key
  stp : Stp (fun g => v.ownBlock = some g) w wr
  box : wr.heap[eb]? = some (entR e)
  ne : eb ≠ g
theorem Stp.news {K T : Nat → Prop} {a b c : World} (h : Stp K a b) (k : Stp T b c) (hT : ∀ g, T g → a.heap.size ≤ g) : Stp K a c :=
  ⟨k.os.trans h.os, k.tape.trans h.tape, k.output.trans h.output, Nat.le_trans h.size k.size, fun g hg hk => (k.same g (Nat.lt_of_lt_of_le hg h.size) fun t => by have := hT g t; omega).trans (h.same g hg hk)⟩
theorem KcI.start {w wr wE wF : World} {base r i : Nat} {M lo hi : Int} {v vo : Value} {L S : List Ent} (h : KcI w wr base r M v L lo hi i vo S) (hrl : r < w.heap.size) (hv : ∀ x, v.ownBlock = some x → x < w.heap.size) (hl : L.length ≤ 1000000) (e : Ent) (hwE : wE = wr.alloc (entR e)) (hwF : wF = wE.alloc (entR e)) :
    ∃ g cap W2, (Builtin.append_ #[29, 29] 29 #[vo, .slice (some ⟨wE.heap.size, 0, none⟩) 1 1]).run Try.prog wF = .ok (.slice (some ⟨g, 0, none⟩) (S.length + 1) cap) W2 ∧ S.length + 1 ≤ cap ∧ KcJ w W2 base r M v L lo hi i g cap S e wr.heap.size S.length e := by
  have gE : wr.grownBy wE none := by rw [hwE]; exact World.grownBy_alloc wr _ none
  have gF' : wE.grownBy wF none := by rw [hwF]; exact World.grownBy_alloc wE _ none
  have gF := grownBy_trans gE gF'
  have sE : wE.heap.size = wr.heap.size + 1 := by rw [hwE]; simp
  have sF : wF.heap.size = wr.heap.size + 2 := by rw [hwF]; simp [sE]
  have hws := h.stp.size
  have hxF : wF.heap[wE.heap.size]? = some (entR e) := by rw [hwF]; exact heap_alloc_new wE _
  have hbF : wF.heap[wr.heap.size]? = some (entR e) := (gF'.block _ (by omega) (by simp)).trans (by rw [hwE]; exact heap_alloc_new wr _)
  have hoF := ownsR_stp h.own (T := No) (.of_grown gF) (fun _ _ k => k)
  have hol := h.own.lt
  have hfew := h.few
  obtain ⟨p, n, k, W2, hrun, ho, hg, hat⟩ := append_ref wF w.heap.size vo S [e] hoF ⟨wE.heap.size, 0, none⟩ 1 (fun j u hu => by
    rw [addr_add', Nat.zero_add]
    refine cell_at hxF ?_
    simpa [entC] using hu) (by simp; omega) (by omega) 29
  rcases ho.2 with ⟨_, h0⟩ | ⟨g, cap, cur, e1, hb, hW, hle, _⟩
  · simp at h0
  rw [e1] at hrun ho hat
  have hlen : (S ++ [e]).length = S.length + 1 := by simp
  have sT : Stp (fun x => vo.ownBlock = some x) wF W2 := ⟨hg.os, hg.tape, hg.output, hg.size, fun x hx hn => hg.block x hx fun e => hn e.symm⟩
  have hgr : (Value.slice (some ⟨g, 0, none⟩) (S ++ [e]).length cap).ownBlock = some g := rfl
  refine ⟨g, cap, W2, by rw [hlen] at hrun; exact hrun, by rw [hlen] at hle; exact hle, (h.ref.grown gF).stp sT (fun t => ?_) (fun x hx t => ?_), by rw [← insL_full]; exact ho, Nat.le_refl _, fun j hj hk => by omega, ?_, sT.obj (fun t => ?_) hbF, fun t => ?_⟩
  · have := (hol r t).1; omega
  · have := (hol x t).1; have := hv x hx; omega
  · exact (h.stp.trans (.of_grown gF)).news sT fun x hx => (hol x hx).1
  · have := (hol _ t).2; omega
  · rw [hgr] at hat
    rcases hat with h1 | h1
    · have := (hol g h1.symm).2; omega
    · have := Option.some.inj h1; omega
theorem KcJ.low {w wr : World} {base r i g cap eb k : Nat} {M lo hi : Int} {v : Value} {L S : List Ent} {e z : Ent} (h : KcJ w wr base r M v L lo hi i g cap S e eb k z) {j : Nat} (hj : j < k) :
    ∃ hS : j < S.length, wr.cell? ⟨g, j * 3, none⟩ = some (num S[j].key) ∧ wr.cell? ⟨g, j * 3 + 1, none⟩ = some (u64v S[j].val) ∧ wr.cell? ⟨g, j * 3 + 2, none⟩ = some (.bool S[j].dirty) := by
  have hk := h.kle
  have hlen := insL_len (S := S) z hk
  have hjl : j < (insL S z k).length := by omega
  obtain ⟨x0, x1, x2⟩ := entC_cells hjl
  rw [insL_low hj hk hjl] at x0 x1 x2
  have hc := fun j u hu => h.own.cells (g := g) rfl j u hu
  refine ⟨by omega, ?_, ?_, ?_⟩
  · have := hc _ _ x0; rwa [addr_add', Nat.zero_add] at this
  · have := hc _ _ x1; rwa [addr_add', Nat.zero_add] at this
  · have := hc _ _ x2; rwa [addr_add', Nat.zero_add] at this
theorem KcJ.there {w wr : World} {base r i g cap eb k : Nat} {M lo hi : Int} {v : Value} {L S : List Ent} {e z : Ent} (h : KcJ w wr base r M v L lo hi i g cap S e eb k z) : wr.there g (k * 3) 3 :=
  row_there h.own (by rw [insL_len z h.kle]; have := h.kle; omega)
theorem KcJ.gnew {w wr : World} {base r i g cap eb k : Nat} {M lo hi : Int} {v : Value} {L S : List Ent} {e z : Ent} (h : KcJ w wr base r M v L lo hi i g cap S e eb k z) : w.heap.size ≤ g := (h.own.lt g rfl).1
theorem KcJ.store {w wr W' : World} {base r i g cap eb k : Nat} {M lo hi : Int} {v : Value} {L S : List Ent} {e z : Ent} (h : KcJ w wr base r M v L lo hi i g cap S e eb k z) (hrl : r < w.heap.size) (hv : ∀ x, v.ownBlock = some x → x < w.heap.size) (y : Ent) (hW : W' = wr.setCells g (k * 3) [num y.key, u64v y.val, .bool y.dirty]) :
    KcJ w W' base r M v L lo hi i g cap S e eb k y := by
  have hk := h.kle
  have hgn := h.gnew
  have hlen := insL_len (S := S) z hk
  have hleny := insL_len (S := S) y hk
  obtain ⟨h1, h2⟩ := row_set h.own (k := k) (by omega) y hW
  rw [insL_last hk] at h1
  refine ⟨h.ref.stp h2 (by omega) (fun x hx t => by have := hv x hx; omega), by rw [hleny, ← hlen]; exact h1, hk, h.big, h.stp.news h2 (fun x t => by omega), h2.obj h.ne h.box, h.ne⟩
theorem KcJ.shift {w wr : World} {base r i g cap eb k : Nat} {M lo hi : Int} {v : Value} {L S : List Ent} {e y : Ent} (h : KcJ w wr base r M v L lo hi i g cap S e eb (k + 1) y) (hkS : k < S.length) (hy : y = S[k]) (hlt : e.key < y.key) :
    KcJ w wr base r M v L lo hi i g cap S e eb k y := by
  subst hy
  have e1 : insL S S[k] (k + 1) = insL S S[k] k := by
    have a1 := insL_move (z := S[k]) hkS
    have a2 := insL_last (z := S[k]) (e := S[k]) (k := k + 1) (S := S) (by omega)
    rw [← a1, a2]
  refine ⟨h.ref, by rw [← e1]; exact h.own, by omega, fun j hj hkj => ?_, h.stp, h.box, h.ne⟩
  rcases Nat.eq_or_lt_of_le hkj with rfl | hlt2
  · exact hlt
  · exact h.big j hj hlt2
theorem KcJ.grown {w wr wq : World} {base r i g cap eb k : Nat} {M lo hi : Int} {v : Value} {L S : List Ent} {e y : Ent} (h : KcJ w wr base r M v L lo hi i g cap S e eb k y) (hg : wr.grownBy wq none) : KcJ w wq base r M v L lo hi i g cap S e eb k y :=
  ⟨h.ref.grown hg, ownsR_stp h.own (T := No) (.of_grown hg) (fun _ _ k => k), h.kle, h.big, h.stp.trans (.of_grown hg), (hg.block eb (lt_of_heap h.box) (by simp)).trans h.box, h.ne⟩
theorem wpList_store_kcj {ops : Array Oper} {rest : List Oper} {o : Oper} {a : Act} {Q : Exit → Act → World → Prop} (hgd : o.guard = none) (x y : Operand) (ho : o.op = .store 40 x y)
    {w W : World} {base r i g cap eb k : Nat} {M lo hi : Int} {v : Value} {L S : List Ent} {e z : Ent} (hJ : KcJ w W base r M v L lo hi i g cap S e eb k z) (hrl : r < w.heap.size) (hv : ∀ x, v.ownBlock = some x → x < w.heap.size) (u : Ent)
    (hx : a.eval x = .pointer (some ⟨g, k * 3, none⟩)) (hy : a.eval y = .agg #[num u.key, u64v u.val, .bool u.dirty]) (h : ∀ W', KcJ w W' base r M v L lo hi i g cap S e eb k u → wpList Try.prog ops Q rest (a.put o.dst undef) W') : wpList Try.prog ops Q (o :: rest) a W :=
  wpList_store_mid hgd 40 x y ho g (k * 3) _ hx hy hJ.there infoR3 (by simp [Value.oneCell']) (h _ (hJ.store hrl hv u rfl))
theorem KcJ.done {w wr W' : World} {base r i g cap eb k gv pc : Nat} {M lo hi : Int} {v : Value} {L S : List Ent} {e : Ent} (h : KcJ w wr base r M v L lo hi i g cap S e eb k e) (hvs : v = .slice (some ⟨gv, 0, none⟩) L.length pc) (hgv : gv < w.heap.size) (hiL : i < L.length) (he : e = L[i]) (hd : isD lo hi e = true) (hS : Rising S) (hp : S.Perm ((L.take i).filter (isD lo hi)))
    (hlo : k = 0 ∨ ∃ h : k - 1 < S.length, S[k - 1].key ≤ e.key) (hW : W' = wr.setCell ⟨gv, i * 3 + 2, none⟩ (.bool false)) :
    KcI w W' base r M v L lo hi (i + 1) (.slice (some ⟨g, 0, none⟩) (insL S e k).length cap) (insL S e k) := by
  have hgn := h.gnew
  have hne : gv ≠ r := fun e => h.ref.ne (by rw [hvs, ← e]; rfl)
  have s1 : Stp (fun x => x = gv) wr W' := by rw [hW]; exact (Stp.refl (fun x => x = gv) wr).set (.inl rfl) _
  have hlen := washTo_len lo hi L i
  have hiW : i < (washTo lo hi L i).length := by omega
  have ew : washTo lo hi L (i + 1) = (washTo lo hi L i).set i ⟨(washTo lo hi L i)[i].key, (washTo lo hi L i)[i].val, false⟩ := by
    rw [washTo_succ lo hi hiL, washTo_at lo hi hiL hiW]
    congr 1
    rw [← he]
    simp [wash, hd]
  refine ⟨⟨s1.obj (fun t => hne t.symm) h.ref.box, ?_, h.ref.ne, h.ref.low⟩, ownsR_stp h.own s1 (fun x hx t => by have := (h.own.lt x hx).1; omega), ?_, ins_rise hS h.kle h.big hlo, h.stp.trans (s1.more fun x t => by rw [hvs, t]; rfl)⟩
  · have ho := h.ref.row
    rw [ew, entC_setD _ _ _ hiW, List.length_set, hW]
    rw [hvs] at ho ⊢
    rw [hlen] at ho ⊢
    exact own_set ho _
  · rw [filter_succ lo hi hiL, ← he, if_pos hd]
    exact (insL_perm S e k).trans ((List.Perm.cons e hp).trans (List.perm_append_singleton e _).symm)
end Lr
end Go.Proofs.Ytlgomaohfhgkpaa
