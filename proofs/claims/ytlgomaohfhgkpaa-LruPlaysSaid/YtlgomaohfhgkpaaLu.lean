/- Layer 10 (lru): entries by rising keys: the sort's closure, and a row of one's own that a sort has turned. -/
import Derived.Test.YtlgomaohfhgkpaaLt
import Derived.Shelf.SlSortCmp.InsertionK
import Derived.Lib.Small
namespace Go.Proofs.Ytlgomaohfhgkpaa
open Go.RowKit Go.Maps Go.Shelf
namespace Lr
attribute [local go_sem] Oper.semAt_some
theorem Compare_ok (x y : Int) (w : World) : Calls Try.prog 35 #[num x, num y] w fun e w' => e = .returned (num (Lib.compareInt x y)) ∧ w' = w := by
  go_enter Try.func35, Try.ntmps35
  go_wp2_with go_in
  all_goals
    go_ret
    refine ⟨?_, rfl⟩
    congr 2
    unfold Lib.compareInt
    simp_all
    try omega
instance : Inhabited Ent := ⟨⟨0, 0, false⟩⟩
def encE (x : Ent) : List Value := [num x.key, u64v x.val, .bool x.dirty]
def cfE (x y : Ent) : Int := Lib.compareInt x.key y.key
theorem ltE (x y : Ent) : Go.Proofs.ltOf cfE x y = decide (x.key < y.key) := by
  unfold Go.Proofs.ltOf cfE Lib.compareInt
  by_cases h1 : x.key < y.key
  · simp [h1]
  · by_cases h2 : y.key < x.key <;> simp [h1, h2]
theorem swoE : Go.Sort.SWO (Go.Proofs.ltOf cfE) where
  irrefl x := by rw [ltE]; simp
  trans x y z h1 h2 := by rw [ltE] at *; simp at *; omega
  ntrans x y z h1 h2 := by rw [ltE] at *; simp at *; omega
set_option maxHeartbeats 1000000 in
theorem Clean1_ok (x y : Ent) (W : World) : Calls Try.prog 34 #[.agg #[num x.key, u64v x.val, .bool x.dirty], .agg #[num y.key, u64v y.val, .bool y.dirty]] W fun e w' => e = .returned (num (cfE x y)) ∧ ∃ q os', w' = Go.Sort.grow (W.drewN q) os' := by
  have hcon := fun W' => Compare_ok x.key y.key W'
  unfold cfE
  generalize Lib.compareInt x.key y.key = r at hcon ⊢
  go_enter Try.func34, Try.ntmps34
  go_wp2_with (go_at_call 35; refine (hcon _).mono ?_; rintro e w' ⟨rfl, rfl⟩)
  go_ret
  exact ⟨rfl, 0, _, by rw [Go.Sort.alloc_eq_grow, Go.Sort.alloc_eq_grow, Go.Sort.grow_grow]; rfl⟩
theorem cmpLaysE (blk off size : Nat) (w : World) : Go.Proofs.CmpLays Try.prog 34 #[] encE 3 cfE blk off size w :=
  fun _ _ _ _ x y => Clean1_ok x y _
theorem entC_get : ∀ (S : List Ent) (t : Nat), t < S.length * 3 → (entC S)[t]? = (encE (S.getD (t / 3) default))[t % 3]?
  | [], t, h => by simp at h
  | x :: S, t, h => by
    have hc : entC (x :: S) = encE x ++ entC S := rfl
    rw [hc]
    by_cases h3 : t < 3
    · rw [List.getElem?_append_left (by simpa [encE] using h3)]
      have e1 : t / 3 = 0 := by omega
      have e2 : t % 3 = t := by omega
      rw [e1, e2]; rfl
    · rw [List.getElem?_append_right (by simp [encE]; omega)]
      have e0 : (encE x).length = 3 := rfl
      rw [e0, entC_get S (t - 3) (by simp at h; omega)]
      have e1 : t / 3 = (t - 3) / 3 + 1 := by omega
      have e2 : (t - 3) % 3 = t % 3 := by omega
      rw [e1, e2]; rfl
theorem flat_get (d : Array Ent) (t : Nat) (h : t < d.size * 3) : (entC d.toList)[t]? = some (Go.Sort.flatK encE 3 d)[t]! := by
  rw [Go.Sort.get_flatK _ _ _ _ h, entC_get _ _ (by simpa using h)]
  have hd : t / 3 < d.size := by omega
  have e1 : d.toList.getD (t / 3) default = d[t / 3]! := by
    rw [getElem!_pos d _ hd]
    simp [List.getD, hd]
  rw [e1]
  have h3 : t % 3 < (encE d[t / 3]!).length := by simp [encE]; omega
  rw [List.getElem?_eq_getElem h3, getElem!_pos (encE d[t / 3]!) (t % 3) h3]
theorem flat_list (d : Array Ent) : (Go.Sort.flatK encE 3 d).toList = entC d.toList := by
  apply List.ext_getElem?
  intro t
  by_cases h : t < d.size * 3
  · rw [flat_get d t h]
    have : t < (Go.Sort.flatK encE 3 d).size := by simpa using h
    rw [getElem!_pos (Go.Sort.flatK encE 3 d) t this]
    simp
  · rw [List.getElem?_eq_none (by simp; omega), List.getElem?_eq_none (by rw [entC_len]; simp; omega)]
/-- A row of one's own, as the sort wants it. -/
theorem holds_of {W : World} {d : Array Ent} {g : Nat} {cur : Array Value} (hg : W.heap[g]? = some (.cells cur 37 (0, 0))) (ht : cur.toList.take (d.size * 3) = entC d.toList) : Go.Sort.HoldsK encE 3 W g 0 d := by
  intro t h
  rw [Go.Sort.size_flatK] at h
  have h1 := flat_get d t h
  rw [← ht, List.getElem?_take, if_pos h] at h1
  rw [Nat.zero_add]
  refine ⟨?_, ?_⟩
  · rw [show (⟨g, t, none⟩ : Addr) = ⟨g, t, none⟩ from rfl]
    simp only [World.cell?, hg]
    simpa using h1
  · simp [World.frozen?, hg]
/-- .. and as the sort leaves it. -/
theorem sorted_own {W : World} {base : Nat} {d d' : Array Ent} {g cap n : Nat} {os : Array Obj} {cur : Array Value} (hs : d'.size = d.size) (hb : base ≤ g) (hg : W.heap[g]? = some (.cells cur 37 (0, 0))) (hn : d.size ≤ cap) (hcap : cap ≤ maxLen) (hcs : cur.size = cap * 3) :
    (Go.Proofs.sortWorldK encE 3 W g 0 n d' os).ownsRow base 37 3 (.slice (some ⟨g, 0, none⟩) d.size cap) d.size (entC d'.toList) ∧ W.grownBy (Go.Proofs.sortWorldK encE 3 W g 0 n d' os) (some g) := by
  have hgl : g < W.heap.size := lt_of_heap hg
  have hF : (Go.Sort.flatK encE 3 d').size = d.size * 3 := by rw [Go.Sort.size_flatK, hs]
  have hh : ∀ k, k < W.heap.size → (Go.Proofs.sortWorldK encE 3 W g 0 n d' os).heap[k]? = (Go.Sort.putRowK encE 3 (Go.Sort.ahead W n) g 0 d').heap[k]? := fun k hk => by
    unfold Go.Proofs.sortWorldK Go.Sort.grow
    simp only
    rw [Array.getElem?_append_left (by rw [Go.Sort.putRowK, Go.Sort.size_putRow]; exact hk)]
  have hgg : (Go.Proofs.sortWorldK encE 3 W g 0 n d' os).heap[g]? = some (.cells (Go.Sort.putCells id 0 (Go.Sort.flatK encE 3 d') cur) 37 (0, 0)) := by
    rw [hh g hgl]
    unfold Go.Sort.putRowK Go.Sort.putRow Go.Sort.mapBlock
    have : (Go.Sort.ahead W n).heap = W.heap := rfl
    rw [Array.getElem?_modify, if_pos rfl, this, hg]
    rfl
  refine ⟨⟨by rw [entC_len]; simp [hs], .inr ⟨g, cap, _, rfl, hb, hgg, hn, hcap, by simp [Go.Sort.putCells, hcs], ?_⟩⟩, ⟨rfl, rfl, rfl, ?_, fun k hk hkg => ?_⟩⟩
  · rw [← flat_list]
    apply List.ext_getElem?
    intro t
    by_cases h : t < d.size * 3
    · have hc : t < cur.size := by rw [hcs]; omega
      rw [List.getElem?_take, if_pos h]
      simp [Go.Sort.putCells, hF, h, hc]
    · rw [List.getElem?_eq_none (by simp; omega), List.getElem?_eq_none (by simp; omega)]
  · unfold Go.Proofs.sortWorldK Go.Sort.grow
    simp [Go.Sort.putRowK]
  · rw [hh k hk]
    unfold Go.Sort.putRowK Go.Sort.putRow Go.Sort.mapBlock
    have : (Go.Sort.ahead W n).heap = W.heap := rfl
    rw [Array.getElem?_modify, if_neg (fun e => hkg (by rw [e])), this]
end Lr
end Go.Proofs.Ytlgomaohfhgkpaa
