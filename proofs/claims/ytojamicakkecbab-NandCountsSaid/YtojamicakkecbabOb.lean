/- Layer 4 (nand): a fault that turns bits is laid: what lies in memory. -/
import Derived.Test.YtojamicakkecbabOa
import Derived.Deep.AppendLies
namespace Go.Proofs.Ytojamicakkecbab
open Go.RowKit Go.Maps
namespace Nd
abbrev flV (F : Flip) (gb : Nat) : List Value := [num F.page, num F.frm, num F.times, .slice (some ⟨gb, 0, none⟩) F.bits.length F.bits.length]
theorem nthF_app (fs : List Flip) (F : Flip) (k : Nat) : nthF (fs ++ [F]) k = if k < fs.length then nthF fs k else if k = fs.length then F else noFlip := by
  simp only [nthF, List.getD_eq_getElem?_getD]
  by_cases h : k < fs.length
  · rw [if_pos h, List.getElem?_append_left h]
  · by_cases h2 : k = fs.length
    · subst h2; simp
    · have : (fs ++ [F])[k]? = none := List.getElem?_eq_none (by simp; omega)
      simp [h, h2, this]
theorem FlipsM.app {w : World} {lab : Lab} {d b : Nat} {v : Value} {fs : List Flip} (h : FlipsM w lab d b v fs) (lt : ∀ g, lab g ≠ none → g < w.heap.size) :
    ∃ xs, w.ownsRow 0 87 4 v fs.length xs ∧ (∀ x, v.ownBlock = some x → lab x = some (.flips d b)) ∧
      ∀ w' g' cap' gb F lab', w'.ownsRow 0 87 4 (.slice (some ⟨g', 0, none⟩) (fs.length + 1) cap') (fs.length + 1) (xs ++ flV F gb) → w.grownBy w' v.ownBlock →
        lab' g' = some (.flips d b) → lab' gb = some (.bits d b fs.length) → (∀ x k, lab x = some (.bits d b k) → lab' x = some (.bits d b k)) → (∀ i, i < F.bits.length → w'.cell? ⟨gb, i, none⟩ = some (num (nthI F.bits i))) →
        FlipsM w' lab' d b (.slice (some ⟨g', 0, none⟩) (fs.length + 1) cap') (fs ++ [F]) := by
  have key : ∀ xs : List Value, xs.length = fs.length * 4 → ∀ (hold : ∀ k, k < fs.length → ∃ bk, xs[k * 4]? = some (num (nthF fs k).page) ∧ xs[k * 4 + 1]? = some (num (nthF fs k).frm) ∧ xs[k * 4 + 2]? = some (num (nthF fs k).times) ∧ xs[k * 4 + 3]? = some (.slice (some ⟨bk, 0, none⟩) (nthF fs k).bits.length (nthF fs k).bits.length) ∧ lab bk = some (.bits d b k) ∧ ∀ i, i < (nthF fs k).bits.length → w.cell? ⟨bk, i, none⟩ = some (num (nthI (nthF fs k).bits i))),
      (∀ x, v.ownBlock = some x → lab x = some (.flips d b)) → ∀ w' g' cap' gb F lab', w'.ownsRow 0 87 4 (.slice (some ⟨g', 0, none⟩) (fs.length + 1) cap') (fs.length + 1) (xs ++ flV F gb) → w.grownBy w' v.ownBlock →
        lab' g' = some (.flips d b) → lab' gb = some (.bits d b fs.length) → (∀ x k, lab x = some (.bits d b k) → lab' x = some (.bits d b k)) → (∀ i, i < F.bits.length → w'.cell? ⟨gb, i, none⟩ = some (num (nthI F.bits i))) →
        FlipsM w' lab' d b (.slice (some ⟨g', 0, none⟩) (fs.length + 1) cap') (fs ++ [F]) := by
    intro xs hxl hold hvl w' g' cap' gb F lab' hown hg l1 l2 l3 hbits
    rcases hown.2 with ⟨hv, _⟩ | ⟨g2, cap2, cur, hv, _, h3, h4, h5, h6, h7⟩
    · cases hv
    simp only [Value.slice.injEq, Option.some.injEq, Addr.mk.injEq, and_true, true_and] at hv
    obtain ⟨rfl, rfl⟩ := hv
    have hget : ∀ i, i < (fs.length + 1) * 4 → cur[i]? = (xs ++ flV F gb)[i]? := fun i hi => by
      rw [← h7, List.getElem?_take_of_lt hi]
      simp
    have hbk : ∃ bv : Nat → Nat, ∀ k, k < fs.length → xs[k * 4]? = some (num (nthF fs k).page) ∧ xs[k * 4 + 1]? = some (num (nthF fs k).frm) ∧ xs[k * 4 + 2]? = some (num (nthF fs k).times) ∧ xs[k * 4 + 3]? = some (.slice (some ⟨bv k, 0, none⟩) (nthF fs k).bits.length (nthF fs k).bits.length) ∧ lab (bv k) = some (.bits d b k) ∧ ∀ i, i < (nthF fs k).bits.length → w.cell? ⟨bv k, i, none⟩ = some (num (nthI (nthF fs k).bits i)) := by
      refine ⟨fun k => if hk : k < fs.length then Classical.choose (hold k hk) else 0, fun k hk => ?_⟩
      simp only [hk, dif_pos]
      exact Classical.choose_spec (hold k hk)
    obtain ⟨bv, hbv⟩ := hbk
    refine .inr ⟨g', cap', cur, fun k => if k < fs.length then bv k else gb, by simp, l1, h3, by rw [h6]; omega, by simpa using h4, h5, fun k hk => ?_⟩
    simp only [List.length_append, List.length_singleton] at hk
    by_cases e : k < fs.length
    · obtain ⟨a1, a2, a3, a4, a5, a6⟩ := hbv k e
      have hb' : w'.heap[bv k]? = w.heap[bv k]? := hg.block _ (lt _ (by rw [a5]; simp)) (fun e => by have := hvl _ e.symm; rw [a5] at this; cases this)
      simp only [nthF_app, if_pos e]
      refine ⟨?_, ?_, ?_, ?_, l3 _ _ a5, fun i hi => by rw [cell_of_block hb']; exact a6 i hi⟩
      · rw [hget _ (by omega), List.getElem?_append_left (by omega)]; exact a1
      · rw [hget _ (by omega), List.getElem?_append_left (by omega)]; exact a2
      · rw [hget _ (by omega), List.getElem?_append_left (by omega)]; exact a3
      · rw [hget _ (by omega), List.getElem?_append_left (by omega)]; exact a4
    · obtain rfl : k = fs.length := by omega
      simp only [nthF_app, if_neg (Nat.lt_irrefl _), if_true]
      refine ⟨?_, ?_, ?_, ?_, l2, hbits⟩
      · rw [hget _ (by omega), List.getElem?_append_right (by omega), show fs.length * 4 - xs.length = 0 by omega]; rfl
      · rw [hget _ (by omega), List.getElem?_append_right (by omega), show fs.length * 4 + 1 - xs.length = 1 by omega]; rfl
      · rw [hget _ (by omega), List.getElem?_append_right (by omega), show fs.length * 4 + 2 - xs.length = 2 by omega]; rfl
      · rw [hget _ (by omega), List.getElem?_append_right (by omega), show fs.length * 4 + 3 - xs.length = 3 by omega]; rfl
  rcases h with ⟨h1, h2⟩ | ⟨g, cap, cur, bv, h1, h2, h3, h4, h5, h5', h6⟩
  · subst h1 h2
    refine ⟨[], World.ownsRow_nil w 0 _ 4, fun x hx => (by cases hx), ?_⟩
    exact key [] rfl (fun k hk => by simp at hk) (fun x hx => by cases hx)
  · subst h1
    have hlen : (cur.toList.take (fs.length * 4)).length = fs.length * 4 := by rw [List.length_take]; simp; omega
    have hvl : ∀ x, (Value.slice (some ⟨g, 0, none⟩) fs.length cap).ownBlock = some x → lab x = some (.flips d b) := fun x hx => by
      simp only [Value.ownBlock, Option.some.injEq] at hx
      rw [← hx]; exact h2
    refine ⟨cur.toList.take (fs.length * 4), ⟨hlen, .inr ⟨g, cap, cur, rfl, Nat.zero_le _, h3, h5, h5', by omega, rfl⟩⟩, hvl, ?_⟩
    refine key _ hlen (fun k hk => ?_) hvl
    obtain ⟨a1, a2, a3, a4, a5, a6⟩ := h6 k hk
    have hget : ∀ i, i < fs.length * 4 → (cur.toList.take (fs.length * 4))[i]? = cur[i]? := fun i hi => by
      rw [List.getElem?_take_of_lt hi]; simp
    exact ⟨bv k, by rw [hget _ (by omega)]; exact a1, by rw [hget _ (by omega)]; exact a2, by rw [hget _ (by omega)]; exact a3, by rw [hget _ (by omega)]; exact a4, a5, a6⟩
/-- A flip is put behind the others. -/
theorem Arr.flApp {w2 : World} {M : Lay} {A : St} {lab : Lab} (h : Arr w2 M A lab) {d b : Nat} (hd : d < A.D) (hb : b < A.B) :
    ∃ v xs, w2.cell? ⟨M.bk d, b * 7 + 6, none⟩ = some v ∧ w2.frozen? ⟨M.bk d, b * 7 + 6, none⟩ = false ∧ w2.ownsRow 0 87 4 v (A.blk d b).flips.length xs ∧
      ∀ w w3 g' cap' gb F, Stp lab lab w w2 → w.heap.size ≤ gb → gb < w2.heap.size → lab gb = none → (∀ i, i < F.bits.length → w2.cell? ⟨gb, i, none⟩ = some (num (nthI F.bits i))) →
        w3.ownsRow 0 87 4 (.slice (some ⟨g', 0, none⟩) ((A.blk d b).flips.length + 1) cap') ((A.blk d b).flips.length + 1) (xs ++ flV F gb) → w2.grownBy w3 v.ownBlock → (v.ownBlock = some g' ∨ g' = w2.heap.size) → g' < w3.heap.size →
        w3.frozen? ⟨M.bk d, b * 7 + 6, none⟩ = false ∧ (∃ u, w3.cell? ⟨M.bk d, b * 7 + 6, none⟩ = some u) ∧
        ∃ lab', Arr (w3.setCell ⟨M.bk d, b * 7 + 6, none⟩ (.slice (some ⟨g', 0, none⟩) ((A.blk d b).flips.length + 1) cap')) M (A.upB d b (fun x => { x with flips := x.flips ++ [F] })) lab' ∧ Stp lab lab' w (w3.setCell ⟨M.bk d, b * 7 + 6, none⟩ (.slice (some ⟨g', 0, none⟩) ((A.blk d b).flips.length + 1) cap')) := by
  have hx := h.blk d b hd hb
  obtain ⟨v, f1, f2⟩ := hx.flips
  obtain ⟨xs, hown, hvl, happ⟩ := f2.app h.lt
  refine ⟨v, xs, f1.1, f1.2, hown, fun w w3 g' cap' gb F st hgb hgb2 hlg hbits hown3 hg3 hat hlt3 => ?_⟩
  have hvg : ∀ x r, lab x = some r → r ≠ .flips d b → w3.heap[x]? = w2.heap[x]? := fun x r hr hne => hg3.block x (h.lt x (by rw [hr]; simp)) (fun e => by have := hvl x e.symm; rw [hr] at this; exact hne (Option.some.inj this))
  have hg'gb : gb ≠ g' := fun e => by
    rcases hat with e2 | e2
    · have := hvl _ e2; rw [← e, hlg] at this; cases this
    · omega
  have hbkl := h.lbk d hd
  have hbk3 := hvg _ _ hbkl (by simp)
  have f3 : At w3 (M.bk d) (b * 7 + 6) v := f1.of_heap hbk3
  have hbg' : M.bk d ≠ g' := fun e => by
    rcases hat with e2 | e2
    · have := hvl _ e2; rw [← e, hbkl] at this; cases this
    · have := h.lt (M.bk d) (by rw [hbkl]; simp); omega
  have hbgb : M.bk d ≠ gb := fun e => by rw [e, hlg] at hbkl; cases hbkl
  let lab' : Lab := addLab (addLab lab gb (.bits d b (A.blk d b).flips.length)) g' (.flips d b)
  have l0 : ∀ x r, lab x = some r → lab' x = some r := fun x r hr => by
    show addLab (addLab lab gb _) g' _ x = some r
    unfold addLab
    by_cases e1 : x = g'
    · rw [if_pos e1]
      rcases hat with e2 | e2
      · have := hvl _ e2; rw [← e1, hr] at this; rw [this]
      · have := h.lt x (by rw [hr]; simp); omega
    · rw [if_neg e1]
      by_cases e2 : x = gb
      · rw [e2, hlg] at hr; cases hr
      · rw [if_neg e2]; exact hr
  have l1 : lab' g' = some (.flips d b) := by show addLab _ g' _ g' = _; simp [addLab]
  have l2 : lab' gb = some (.bits d b (A.blk d b).flips.length) := by show addLab (addLab lab gb _) g' _ gb = _; simp [addLab, hg'gb]
  have hlab : ∀ x, lab' x ≠ none → lab x ≠ none ∨ x = gb ∨ x = g' := fun x hx => by
    by_cases e1 : x = g'
    · exact .inr (.inr e1)
    · by_cases e2 : x = gb
      · exact .inr (.inl e2)
      · refine .inl ?_
        have e : lab' x = lab x := by show addLab (addLab lab gb _) g' _ x = lab x; simp [addLab, e1, e2]
        rw [← e]; exact hx
  have hbits3 : ∀ i, i < F.bits.length → w3.cell? ⟨gb, i, none⟩ = some (num (nthI F.bits i)) := fun i hi => by
    rw [cell_of_block (hg3.block gb hgb2 (fun e => by have := hvl _ e.symm; rw [hlg] at this; cases this))]; exact hbits i hi
  have hF := happ w3 g' cap' gb F lab' hown3 hg3 l1 l2 (fun x k hx => l0 x _ hx) hbits3
  obtain ⟨W, hW⟩ : ∃ W, W = w3.setCell ⟨M.bk d, b * 7 + 6, none⟩ (.slice (some ⟨g', 0, none⟩) ((A.blk d b).flips.length + 1) cap') := ⟨_, rfl⟩
  have hWe : ∀ x, x ≠ M.bk d → W.heap[x]? = w3.heap[x]? := fun x hx => by rw [hW]; exact setCell_else hx _
  have hWs : W.heap.size = w3.heap.size := by rw [hW]; exact setCell_size _ _ _
  refine ⟨f3.2, ⟨_, f3.1⟩, lab', ?_, ?_⟩
  · rw [← hW]
    refine h.setBlk hd hb (fun x r hr hne _ => ?_) (fun o u ho hu => ?_) l0 (fun x hx => ?_) ?_
    · rw [hWe x (by rintro rfl; rw [hbkl] at hr; have := Option.some.inj hr; exact hne (.inl this.symm))]
      exact hvg x r hr (by rintro rfl; exact hne (.inr (.inr (.inr (.inl rfl)))))
    · rw [hW]; exact (hu.of_heap hbk3).set_off (by omega) _
    · rw [hWs]
      rcases hlab x hx with e | e | e
      · exact Nat.lt_of_lt_of_le (h.lt x e) hg3.size
      · rw [e]; exact Nat.lt_of_lt_of_le hgb2 hg3.size
      · rw [e]; exact hlt3
    · obtain ⟨pg, a1, a2, a3⟩ := hx.pages
      have off : ∀ {o : Nat} {u : Value}, o ≠ b * 7 + 6 → At w2 (M.bk d) o u → At W (M.bk d) o u := fun ho hu => by rw [hW]; exact (hu.of_heap hbk3).set_off ho _
      have hpgb : pg ≠ M.bk d := fun e => by rw [e, hbkl] at a2; cases a2
      refine ⟨off (by omega) hx.next, off (by omega) hx.erases, off (by omega) hx.marked, off (by omega) hx.noP, off (by omega) hx.noE, ⟨pg, off (by omega) a1, l0 _ _ a2, fun p hp => ?_⟩, .slice (some ⟨g', 0, none⟩) ((A.blk d b).flips.length + 1) cap', ?_, ?_⟩
      · obtain ⟨u, u1, u2⟩ := a3 p hp
        refine ⟨u, u1.of_heap ((hWe pg hpgb).trans (hvg _ _ a2 (by simp))), u2.kept fun x hx => ⟨(hWe x ?_).trans (hvg _ _ hx (by simp)), l0 _ _ hx⟩⟩
        rintro rfl; rw [hbkl] at hx; cases hx
      · rw [hW]; exact f3.set_same _
      · refine hF.kept (fun x hx => ⟨hWe x ?_, hx⟩) (fun k x hx => ⟨hWe x ?_, hx⟩)
        · rintro rfl; rw [l0 _ _ hbkl] at hx; cases hx
        · rintro rfl; rw [l0 _ _ hbkl] at hx; cases hx
  · rw [← hW]
    have s1 : W.os = w.os ∧ W.tape = w.tape ∧ W.output = w.output := by rw [hW]; exact ⟨hg3.os.trans st.os, hg3.tape.trans st.tape, hg3.output.trans st.output⟩
    refine ⟨s1.1, s1.2.1, s1.2.2, by rw [hWs]; exact Nat.le_trans st.size hg3.size, fun x hx hl => ?_, fun x hx => ?_⟩
    · rw [hWe x (by rintro rfl; rw [hbkl] at hl; cases hl), hg3.block x (Nat.lt_of_lt_of_le hx st.size) (fun e => by have := hvl _ e.symm; rw [hl] at this; cases this)]
      exact st.same x hx hl
    · rcases hlab x hx with e | e | e
      · exact .inl e
      · exact .inr (by omega)
      · rcases hat with e2 | e2
        · left; rw [e, hvl _ e2]; simp
        · right; rw [e, e2]; exact st.size
end Nd
end Go.Proofs.Ytojamicakkecbab
