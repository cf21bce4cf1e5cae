/- Layer 10 (lru): the document's row, plainly. -/
import Derived.Test.YtlgomaohfhgkpaaLl
import Derived.Test.YtlgomaohfhgkpaaLt
namespace Go.Proofs.Ytlgomaohfhgkpaa
open Go.RowKit Go.Maps
namespace Lr
/-- All but the j-th. -/
def outL (L : List Ent) (j : Nat) : List Ent := L.take j ++ L.drop (j + 1)
theorem outL_len {L : List Ent} {j : Nat} (h : j < L.length) : (outL L j).length + 1 = L.length := by
  simp [outL]; omega
/-- Where a key is. -/
def Place (L : List Ent) (k i : Int) : Prop := (i = -1 ∧ ∀ x ∈ L, x.key ≠ k) ∨ ∃ j : Nat, i = j ∧ ∃ h : j < L.length, L[j].key = k
theorem at_parts {L : List Ent} {k : Int} (hd : (L.map Ent.key).Nodup) {j : Nat} (h : j < L.length) (hk : L[j].key = k) : look L k = some L[j] ∧ rest L k = outL L j := by
  have e : L.take j ++ L[j] :: L.drop (j + 1) = L := by simp
  have hd' : ((L.take j ++ L[j] :: L.drop (j + 1)).map Ent.key).Nodup := by rw [e]; exact hd
  rw [List.map_append, List.map_cons, List.nodup_append] at hd'
  obtain ⟨_, h2, h3⟩ := hd'
  have hX : ∀ y ∈ L.take j, y.key ≠ k := fun y hy e => h3 y.key (List.mem_map_of_mem hy) L[j].key (by simp) (by rw [e, hk])
  have hY : ∀ y ∈ L.drop (j + 1), y.key ≠ k := fun y hy e => (List.nodup_cons.1 h2).1 (by rw [hk, ← e]; exact List.mem_map_of_mem hy)
  have a1 := look_mid (Y := L.drop (j + 1)) hX hk
  have a2 := rest_mid hX hY hk
  rw [e] at a1 a2
  exact ⟨a1, a2⟩
theorem get_at {L : List Ent} {k : Int} (hd : (L.map Ent.key).Nodup) {j : Nat} (h : j < L.length) (hk : L[j].key = k) : getV L k = L[j].val ∧ (look L k).isSome = true ∧ getL L k = L[j] :: outL L j := by
  obtain ⟨a1, a2⟩ := at_parts hd h hk
  exact ⟨by rw [getV, a1]; rfl, by rw [a1]; rfl, by rw [getL_some a1, a2]⟩
theorem get_miss {L : List Ent} {k : Int} (h : ∀ x ∈ L, x.key ≠ k) : getV L k = 0 ∧ (look L k).isSome = false ∧ getL L k = L := by
  have a1 := look_none h
  exact ⟨by rw [getV, a1]; rfl, by rw [a1]; rfl, getL_none a1⟩
theorem put_at {L : List Ent} {x : Ent} {M : Int} (hd : (L.map Ent.key).Nodup) {j : Nat} (h : j < L.length) (hk : L[j].key = x.key) : putE M x L = zeroE ∧ putB M x L = false ∧ putL M x L = ⟨x.key, x.val, x.dirty || L[j].dirty⟩ :: outL L j := by
  obtain ⟨a1, a2⟩ := at_parts hd h hk
  refine ⟨by simp [putE, a1], by simp [putB, a1], ?_⟩
  simp [putL, a1, a2, Bool.or_comm]
theorem put_miss {L : List Ent} {x : Ent} {M : Int} (h : ∀ y ∈ L, y.key ≠ x.key) (hl : (L.length : Int) < M) : putE M x L = zeroE ∧ putB M x L = false ∧ putL M x L = x :: L := by
  have a1 := look_none h
  refine ⟨by simp [putE, a1, roomE, hl], by simp [putB, a1]; omega, by simp [putL, a1, roomL, hl]⟩
theorem put_full {L : List Ent} {x : Ent} {M : Int} (h : ∀ y ∈ L, y.key ≠ x.key) (hl : (L.length : Int) = M) (h0 : L.length - 1 < L.length) : putE M x L = L[L.length - 1] ∧ putB M x L = true ∧ putL M x L = x :: outL L (L.length - 1) := by
  have a1 := look_none h
  have hne : L ≠ [] := by rintro rfl; simp at h0
  refine ⟨?_, by simp [putB, a1]; omega, ?_⟩
  · simp [putE, a1, roomE, hl, List.getLastD_eq_getLast?, List.getLast?_eq_getElem?, List.getElem?_eq_getElem h0]
  · have e : outL L (L.length - 1) = L.dropLast := by
      unfold outL
      rw [List.drop_of_length_le (by omega), List.append_nil, List.dropLast_eq_take]
    simp [putL, a1, roomL, hl, e]
abbrev Rising (S : List Ent) : Prop := S.Pairwise fun a b => a.key ≤ b.key
abbrev Upward (S : List Ent) : Prop := S.Pairwise fun a b => a.key < b.key
theorem up_unique {X Y : List Ent} (hp : X.Perm Y) (hx : Upward X) (hy : Upward Y) : X = Y := by
  refine hp.eq_of_pairwise (fun a b _ _ h1 h2 => ?_) hx hy
  omega
/-- One is put into its place. -/
def insL (S : List Ent) (e : Ent) (k : Nat) : List Ent := S.take k ++ e :: S.drop k
theorem insL_len {S : List Ent} (e : Ent) {k : Nat} (h : k ≤ S.length) : (insL S e k).length = S.length + 1 := by
  simp [insL]; omega
theorem insL_perm (S : List Ent) (e : Ent) (k : Nat) : (insL S e k).Perm (e :: S) := by
  have := List.perm_middle (a := e) (l₁ := S.take k) (l₂ := S.drop k)
  rw [List.take_append_drop] at this
  exact this
/-- One is moved up. -/
theorem insL_move {S : List Ent} {z : Ent} {k : Nat} (h : k < S.length) : (insL S z (k + 1)).set (k + 1) S[k] = insL S S[k] k := by
  unfold insL
  rw [List.set_append, if_neg (by simp; omega)]
  have e1 : k + 1 - (S.take (k + 1)).length = 0 := by simp; omega
  rw [e1, List.set_cons_zero, List.take_succ_eq_append_getElem h, List.append_assoc]
  congr 1
  rw [List.drop_eq_getElem_cons h]
  simp
theorem insL_last {S : List Ent} {z e : Ent} {k : Nat} (h : k ≤ S.length) : (insL S z k).set k e = insL S e k := by
  unfold insL
  rw [List.set_append, if_neg (by simp; omega)]
  have e1 : k - (S.take k).length = 0 := by simp; omega
  rw [e1, List.set_cons_zero]
theorem insL_full (S : List Ent) (z : Ent) : S ++ [z] = insL S z S.length := by simp [insL]
theorem insL_low {S : List Ent} {z : Ent} {k j : Nat} (hj : j < k) (h : k ≤ S.length) (h2 : j < (insL S z k).length) : (insL S z k)[j] = S[j] := by
  have e : (insL S z k)[j]? = some S[j] := by
    unfold insL
    rw [List.getElem?_append_left (by simp; omega), List.getElem?_take, if_pos hj, List.getElem?_eq_getElem]
  exact Option.some.inj ((List.getElem?_eq_getElem h2).symm.trans e)
theorem ins_rise {S : List Ent} {e : Ent} {k : Nat} (h : Rising S) (hk : k ≤ S.length) (hhi : ∀ j (hj : j < S.length), k ≤ j → e.key < S[j].key) (hlo : k = 0 ∨ ∃ h : k - 1 < S.length, S[k - 1].key ≤ e.key) : Rising (insL S e k) := by
  unfold Rising insL at *
  have h' := h
  rw [← List.take_append_drop k S, List.pairwise_append] at h'
  obtain ⟨h1, h2, h3⟩ := h'
  have hT : ∀ x ∈ S.take k, x.key ≤ e.key := fun x hx => by
    obtain ⟨i, hi, rfl⟩ := List.mem_iff_getElem.1 hx
    rcases hlo with rfl | ⟨h0, hle⟩
    · simp at hi
    · simp at hi
      simp only [List.getElem_take]
      rcases Nat.lt_or_ge i (k - 1) with hlt | hge
      · have := List.pairwise_iff_getElem.1 h i (k - 1) (by omega) h0 hlt
        omega
      · obtain rfl : i = k - 1 := by omega
        exact hle
  have hD : ∀ x ∈ S.drop k, e.key ≤ x.key := fun x hx => by
    obtain ⟨i, hi, rfl⟩ := List.mem_iff_getElem.1 hx
    simp at hi
    simp only [List.getElem_drop]
    exact Int.le_of_lt (hhi (k + i) (by omega) (by omega))
  rw [List.pairwise_append]
  refine ⟨h1, List.pairwise_cons.2 ⟨hD, h2⟩, fun a ha b hb => ?_⟩
  rcases List.mem_cons.1 hb with rfl | hb
  · exact hT a ha
  · exact h3 a ha b hb
/-- So far washed. -/
def washTo (lo hi : Int) (L : List Ent) (i : Nat) : List Ent := (L.take i).map (wash lo hi) ++ L.drop i
theorem washTo_zero (lo hi : Int) (L : List Ent) : washTo lo hi L 0 = L := by simp [washTo]
theorem washTo_all (lo hi : Int) (L : List Ent) : washTo lo hi L L.length = L.map (wash lo hi) := by simp [washTo]
theorem washTo_len (lo hi : Int) (L : List Ent) (i : Nat) : (washTo lo hi L i).length = L.length := by simp [washTo]; omega
theorem washTo_at (lo hi : Int) {L : List Ent} {i : Nat} (h : i < L.length) (h2 : i < (washTo lo hi L i).length) : (washTo lo hi L i)[i] = L[i] := by
  have e : (washTo lo hi L i)[i]? = some L[i] := by
    unfold washTo
    rw [List.getElem?_append_right (by simp; omega), List.getElem?_drop, List.getElem?_eq_getElem (by simp; omega)]
    simp [Nat.min_eq_left (Nat.le_of_lt h)]
  exact Option.some.inj ((List.getElem?_eq_getElem h2).symm.trans e)
theorem washTo_succ (lo hi : Int) {L : List Ent} {i : Nat} (h : i < L.length) : washTo lo hi L (i + 1) = (washTo lo hi L i).set i (wash lo hi L[i]) := by
  unfold washTo
  rw [List.set_append, if_neg (by simp; omega), List.take_succ_eq_append_getElem h, List.map_append, List.append_assoc]
  congr 1
  rw [List.drop_eq_getElem_cons h]
  have e1 : i - ((L.take i).map (wash lo hi)).length = 0 := by simp; omega
  rw [e1]
  rfl
theorem washTo_skip (lo hi : Int) {L : List Ent} {i : Nat} (h : i < L.length) (hd : isD lo hi L[i] = false) : washTo lo hi L (i + 1) = washTo lo hi L i := by
  rw [washTo_succ lo hi h]
  have e : wash lo hi L[i] = (washTo lo hi L i)[i]'(by rw [washTo_len]; exact h) := by
    rw [washTo_at lo hi h]; simp [wash, hd]
  rw [e, List.set_getElem_self]
theorem filter_succ (lo hi : Int) {L : List Ent} {i : Nat} (h : i < L.length) : (L.take (i + 1)).filter (isD lo hi) = (L.take i).filter (isD lo hi) ++ (if isD lo hi L[i] then [L[i]] else []) := by
  rw [List.take_succ_eq_append_getElem h, List.filter_append]
  congr 1
  rw [List.filter_cons]
  rfl
end Lr
end Go.Proofs.Ytlgomaohfhgkpaa
