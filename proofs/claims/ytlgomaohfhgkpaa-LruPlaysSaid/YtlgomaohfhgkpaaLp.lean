/- Layer 10 (lru): the links of all entries, one behind the other: the iterator's contract. -/
import Derived.Test.YtlgomaohfhgkpaaLo
import Derived.LaidEqlPtr
namespace Go.Proofs.Ytlgomaohfhgkpaa
open Go.RowKit Go.Maps Go.Shelf
namespace Lr
attribute [local go_sem] Oper.semAt_some
/-- The first k numbers below n. -/
def ups (n k : Nat) : List (Fin n) := (List.finRange n).take k
theorem ups_len {n k : Nat} (h : k ≤ n) : (ups n k).length = k := by simp [ups, h]
theorem ups_succ {n k : Nat} (h : k < n) : ups n (k + 1) = ups n k ++ [⟨k, h⟩] := by
  unfold ups
  rw [List.take_succ_eq_append_getElem (by simpa using h)]
  simp
theorem ups_all (n : Nat) : ups n n = List.finRange n := by unfold ups; rw [List.take_of_length_le (by simp)]
theorem Chn.at {nx pv : Nat → Nat} {z : Nat} : ∀ {bs : List Nat} {a : Nat}, Chn nx pv a bs z → ∀ k (hk : k < bs.length), nx bs[k] = bs.getD (k + 1) z
  | [], _, _, k, hk => by simp at hk
  | b :: bs, a, h, 0, _ => by
    have := h.2.2.front
    simp only [List.getElem_cons_zero]
    rw [this]
    cases bs <;> rfl
  | b :: bs, a, h, k + 1, hk => by
    have := Chn.at h.2.2 k (by simpa using hk)
    simpa using this
theorem Chn.head_at {nx pv : Nat → Nat} {z : Nat} {bs : List Nat} {a : Nat} (h : Chn nx pv a bs z) : nx a = bs.getD 0 z := by
  rw [h.front]
  cases bs <;> rfl
def blkOf (v : Value) : Nat := match v with | .pointer (some ⟨b, _, _⟩) => b | _ => 0
/-- What a round keeps. -/
def KeepR (B c e : Nat) (bs : List Nat) (W W' : World) : Prop := W'.heap[B]? = W.heap[B]? ∧ W'.heap[c]? = W.heap[c]? ∧ ∀ b ∈ e :: bs, W'.cell? ⟨b, 4, none⟩ = W.cell? ⟨b, 4, none⟩ ∧ ((∃ L, W.heap[b]? = some (.cells L 68)) → ∃ L, W'.heap[b]? = some (.cells L 68))
theorem keepR_r {B c e : Nat} {bs : List Nat} (X : World) : KeepR B c e bs X X := ⟨rfl, rfl, fun _ _ => ⟨rfl, fun h => h⟩⟩
theorem keepR_t {B c e : Nat} {bs : List Nat} {X Y Z : World} (h : KeepR B c e bs X Y) (k : KeepR B c e bs Y Z) : KeepR B c e bs X Z := ⟨k.1.trans h.1, k.2.1.trans h.2.1, fun b hb => ⟨(k.2.2 b hb).1.trans (h.2.2 b hb).1, fun x => (k.2.2 b hb).2 ((h.2.2 b hb).2 x)⟩⟩
theorem keepR_b {B c e : Nat} {bs : List Nat} {w : World} (hB : B < w.heap.size) (hc : c < w.heap.size) (hb : ∀ b ∈ e :: bs, b < w.heap.size) (W : World) (l : Nat) (o o' : Obj) (hl : w.heap.size ≤ l) (_ : W.heap[l]? = some o) (_ : o.isCells = false) (_ : o.isWalk = false) : KeepR B c e bs W (W.putObj l o') :=
  ⟨World.putObj_heap_other (by omega), World.putObj_heap_other (by omega), fun b hbm => by
    have e1 : (W.putObj l o').heap[b]? = W.heap[b]? := World.putObj_heap_other (by have := hb b hbm; omega)
    exact ⟨cell_of_block e1, fun ⟨L, h⟩ => ⟨L, e1.trans h⟩⟩⟩
theorem made_at {w : World} {c e : Nat} (c2 : w.cell? ⟨c, 2, none⟩ = some (ptr e)) : Calls Try.prog 24 #[ptr c] w fun r w' => r = .returned (.bool true) ∧ w' = w := by
  go_enter Try.func24, Try.ntmps24
  go_wp2_with fail
  go_ret
  exact ⟨rfl, rfl⟩
theorem linkInfo : (Try.prog.info? 68).map (·.size) = some 5 := by kernel_rfl
/-- A link, whatever it holds. -/
def IsLink (w : World) (b : Nat) : Prop := ∃ L, w.heap[b]? = some (.cells L 68)
theorem ptr_neq_same (b : Nat) (w : World) : (binOp .neq 62 (ptr b) (ptr b)).run Try.prog w = .ok (.bool false) w := by
  obtain ⟨j, hj, _⟩ := Option.map_eq_some_iff.1 linkInfo
  have h : ∀ d : Nat, (Op.equalIn (d + 1) 62 (ptr b) (ptr b)).run Try.prog w = .ok true w := fun d => by
    simp [Op.equalIn, run_underlying Try.underlying62, sizeOf, typeInfo, hj, run_sameAddr_same]
  simp only [binOp]
  simp [Op.equal, Op.maxDepth, h 9999]
theorem ptr_neq_other {b e : Nat} {w : World} (hb : IsLink w b) (he : IsLink w e) (hne : b ≠ e) : (binOp .neq 62 (ptr b) (ptr e)).run Try.prog w = .ok (.bool true) w := by
  obtain ⟨j, hj, hs⟩ := Option.map_eq_some_iff.1 linkInfo
  obtain ⟨L, hL⟩ := hb
  obtain ⟨L', hL'⟩ := he
  have hn : (⟨b, 0, none⟩ : Addr) ≠ ⟨e, 0, none⟩ := fun e1 => hne (congrArg Addr.block e1)
  have hsz : j.size ≠ 0 := by rw [hs]; decide
  have h : ∀ d : Nat, (Op.equalIn (d + 1) 62 (ptr b) (ptr e)).run Try.prog w = .ok false w := fun d => by
    simp [Op.equalIn, run_underlying Try.underlying62, sizeOf, typeInfo, hj, hsz, run_sameAddr_other w hn hL hL']
  simp only [binOp]
  simp [Op.equal, Op.maxDepth, h 9999]
abbrev encR (bs : List Nat) (x : Fin bs.length) : Array Value := #[ptr bs[x]]
set_option maxRecDepth 100000 in
set_option maxHeartbeats 2000000 in
theorem all1_in (n : Nat) (hn : 1 ≤ n) (l B c e : Nat) (bs : List Nat) (nx pv : Nat → Nat) (hr : Chn nx pv e bs e) (hd : (e :: bs).Nodup) (J Jx : List (Fin bs.length) → World → Prop)
    (hY : ∀ pre x W, J pre W → pre.length < bs.length → YieldAt Fence.wide (n - 1) Try.prog l (encR bs x) W fun r W' =>
      (r = .returned (.bool true) ∧ J (pre ++ [x]) W' ∧ KeepR B c e bs W W') ∨ (r = .returned (.bool false) ∧ Jx (pre ++ [x]) W'))
    (W : World) (hB : W.cell? ⟨B, 0, none⟩ = some (ptr c)) (hc : W.cell? ⟨c, 2, none⟩ = some (ptr e)) (hx : ∀ b ∈ e :: bs, W.cell? ⟨b, 4, none⟩ = some (ptr (nx b))) (hi : ∀ b ∈ e :: bs, IsLink W b) (h0 : J [] W) :
    CallsIn Fence.wide n Try.prog 38 #[.func (.yield l) #[] #[], .pointer (some ⟨B, 0, none⟩)] W fun r W' => (∃ v, r = .returned v) ∧
      ((∃ ys, ys = List.finRange bs.length ∧ J ys W') ∨ (∃ pre, (∃ k, k ≤ bs.length ∧ pre = ups bs.length k) ∧ Jx pre W')) := by
  have hE := (List.nodup_cons.1 hd).1
  have hnd := (List.nodup_cons.1 hd).2
  have c4 := hx e (by simp)
  rw [hr.head_at] at c4
  have HM := hide (callsIn_wide (n := n - 1).2 (made_at hc))
  have hnt := hnot
  have Hx := hide hx
  clear hx
  refine callsIn_of_wp Try.func38 rfl trivial ?_ rfl
  simp only [Try.ntmps38, List.size_toArray, List.length_cons, List.length_nil, Nat.reduceAdd, Nat.reduceSub, Array.replicate_succ, Array.replicate_zero, List.push_toArray, List.append_toArray, List.nil_append, List.cons_append]
  gi_wp2_with (first | (refine ⟨trivial, ?_⟩; gi_at_call 24; refine HM.out.mono ?_; rintro r w1 ⟨rfl, rfl⟩))
  clear HM
  gi_loopw [3] (fun i wr => ∃ k : Nat, k ≤ bs.length ∧ i = ptr (bs.getD k e) ∧ J (ups bs.length k) wr ∧ KeepR B c e bs w1 wr) (fun i _ => bs.length - bs.idxOf (blkOf i))
  case atStart => exact ⟨0, Nat.zero_le _, rfl, h0, keepR_r _⟩
  case round =>
    obtain ⟨k, hk, rfl, hJs, hkp⟩ := hrel
    have hB' : wr.cell? ⟨B, 0, none⟩ = some (ptr c) := (cell_of_block hkp.1).trans hB
    have hc' : wr.cell? ⟨c, 2, none⟩ = some (ptr e) := (cell_of_block hkp.2.1).trans hc
    by_cases hlt : k < bs.length
    · obtain ⟨fn, tmps, assign, body, hy, hR⟩ := hY _ ⟨k, hlt⟩ wr hJs (by rw [ups_len hk]; exact hlt)
      dsimp only [encR] at hy
      have hbm : bs[k] ∈ bs := List.getElem_mem hlt
      have hbe : bs[k] ≠ e := by intro he; rw [he] at hbm; exact hE hbm
      have hnx := hr.at k hlt
      have hix : bs.idxOf bs[k] = k := hnd.idxOf_getElem k hlt
      have hgd : bs.getD k e = bs[k] := by simp [hlt]
      have hix2 : k + 1 ≤ bs.idxOf (bs.getD (k + 1) e) := by
        by_cases h2 : k + 1 < bs.length
        · have : bs.getD (k + 1) e = bs[k + 1] := by simp [h2]
          rw [this, hnd.idxOf_getElem (k + 1) h2]
          exact Nat.le_refl _
        · have : bs.getD (k + 1) e = e := by simp [h2]
          rw [this, List.idxOf_eq_length hE]
          omega
      have hpn := ptr_neq_other (w := wr) ((hkp.2.2 _ (List.mem_cons_of_mem _ hbm)).2 (hi _ (List.mem_cons_of_mem _ hbm))) ((hkp.2.2 e (by simp)).2 (hi e (by simp))) hbe
      have hxk : wr.cell? ⟨bs[k], 4, none⟩ = some (ptr (nx bs[k])) := (hkp.2.2 _ (List.mem_cons_of_mem _ hbm)).1.trans (Hx.out bs[k] (List.mem_cons_of_mem _ hbm))
      rw [hnx] at hxk
      rw [hgd]
      obtain ⟨b2, hb2⟩ : ∃ b2, bs.getD (k + 1) e = b2 := ⟨_, rfl⟩
      rw [hb2] at hxk hix2
      have Hb2 := hide hb2
      have Hix := hide hix
      have Hix2 := hide hix2
      have Hm := hide hbm
      clear hgd hnx hix hix2 hbm hb2
      generalize bs[k] = b at *
      gi_wp2
      refine hR.mono ?_
      rintro r W3 (⟨rfl, hJ3, hk3⟩ | ⟨rfl, hJx3⟩)
      · have hx3 : W3.cell? ⟨b, 4, none⟩ = some (ptr b2) := (hk3.2.2 b (List.mem_cons_of_mem _ Hm.out)).1.trans hxk
        gi_wp2
        go_roundw
        case rel => exact ⟨k + 1, by omega, by rw [Hb2.out], by rw [ups_succ hlt]; exact hJ3, keepR_t hkp hk3⟩
        case measure => simp only [blkOf]; rw [Hix.out]; have := Hix2.out; omega
      · gi_wp2
        refine bodyPost_ret (results_none rfl _ _ _) rfl ?_
        exact ⟨⟨_, rfl⟩, .inr ⟨_, ⟨k + 1, by omega, (ups_succ hlt).symm⟩, hJx3⟩⟩
    · obtain rfl : k = bs.length := by omega
      have hgd : bs.getD bs.length e = e := by simp
      rw [hgd]
      have hpn := ptr_neq_same e
      gi_wp2
      go_end0
      exact ⟨⟨_, rfl⟩, .inl ⟨_, rfl, by rw [← ups_all]; exact hJs⟩⟩
set_option maxHeartbeats 1000000 in
theorem all_in (F : Fence) (n : Nat) (hf : F.fn 32) (hro : F.round = none) (c : Nat) (w : World) :
    CallsIn F n Try.prog 32 #[ptr c] w fun e w' => e = .returned (.func (.func 38) #[] #[.pointer (some ⟨w.heap.size, 0, none⟩)]) ∧ w' = w.alloc (.cells #[ptr c] 24) := by
  refine callsIn_of_wp Try.func32 rfl hf ?_ hro
  simp only [Try.ntmps32, List.size_toArray, List.length_cons, List.length_nil, Nat.reduceAdd, Nat.reduceSub, Array.replicate_succ, Array.replicate_zero, List.push_toArray, List.append_toArray, List.nil_append, List.cons_append]
  gi_wp2
  go_ret
  exact ⟨rfl, rfl⟩
theorem all_stops (n : Nat) (hn : 1 ≤ n) {w : World} {B c m e : Nat} {most : Int} {bs : List Nat} {ent : Nat → Ent} {pv nx : Nat → Nat} {K : Int → Option Nat} (h : CacheM w c m e most bs ent pv nx K) (hB : B < w.heap.size) (hc : w.cell? ⟨B, 0, none⟩ = some (ptr c)) :
    SeqStopsK Fence.wide n Try.prog 38 #[.pointer (some ⟨B, 0, none⟩)] (encR bs) (KeepR B c e bs) (fun ys => ys = List.finRange bs.length) (fun pre => ∃ k, k ≤ bs.length ∧ pre = ups bs.length k) bs.length w := fun l J Jx W hW _ _ hY h0 => by
  have hlk : ∀ b ∈ e :: bs, LinkM W b (ent b) (pv b) (nx b) := fun b hb => (h.links b hb).of_heap (hW.block b (h.links b hb).lt)
  exact all1_in n hn l B c e bs nx pv h.ring h.nd J Jx hY W ((hW.cell (p := ⟨B, 0, none⟩) hB).trans hc) ((hW.cell (p := ⟨c, 2, none⟩) (lt_of_heap h.box)).trans h.cend) (fun b hb => (hlk b hb).behind) (fun b hb => ⟨_, hlk b hb⟩) h0
end Lr
end Go.Proofs.Ytlgomaohfhgkpaa
