/- Layer 4 (nand): filled; a map of pages that are known. -/
import Derived.Test.YtojamicakkecbaaNx
import Derived.Maps.StringElems
namespace Go.Proofs.Ytojamicakkecbaa
open Go.ChangeShapes Go.WideShapes Go.ChangeAt Go.RowKit Go.Maps
namespace Nd
def FillPost (w : World) (n : Nat) (e : Ending) (w' : World) : Prop :=
  ∃ g c l T, e = .returned (.slice (some ⟨g, 0, none⟩) n c) ∧ w.heap.size ≤ g ∧ w'.heap[g]? = some (.cells (valsB l ++ T).toArray 5) ∧ l.length = n ∧ (∀ i, nth l i ≤ 255) ∧ n ≤ c ∧ w.grownBy w' none
theorem valsB_app (a b : List Nat) : valsB (a ++ b) = valsB a ++ valsB b := by simp [valsB]
theorem cell_one_new' (w : World) (v : Value) : ∀ j u, [v][j]? = some u → (w.alloc (.cells #[v] 5)).cell? ((⟨w.heap.size, 0, none⟩ : Addr).add j) = some u := fun j u hj => by
  have hj0 : j = 0 := by have := (List.getElem?_eq_some_iff.1 hj).1; simpa using this
  subst hj0
  rw [addr_add']
  simp at hj
  have := (At.of_row (o := 0) (heap_alloc_new w (.cells #[v] 5)) rfl).1
  rw [Nat.zero_add, this, hj]
  rfl
theorem own_parts {w : World} {B n : Nat} {v : Value} {l : List Nat} (h : w.ownsRow B 5 1 v n (valsB l)) (hn : 1 ≤ n) : ∃ g cap T, v = .slice (some ⟨g, 0, none⟩) n cap ∧ B ≤ g ∧ w.heap[g]? = some (.cells (valsB l ++ T).toArray 5) ∧ n ≤ cap := by
  rcases h.2 with ⟨_, h0⟩ | ⟨g, cap, cur, rfl, hg, hh, hle, _, hcs, ht⟩
  · omega
  · refine ⟨g, cap, cur.toList.drop n, rfl, hg, ?_, hle⟩
    rw [Nat.mul_one] at ht
    rw [hh, ← ht, List.take_append_drop]
theorem u8_wrap (z : Int) : ∃ x : Nat, IntKind.u8.wrap z = (x : Int) ∧ x ≤ 255 := by
  refine ⟨(z % 256).toNat, ?_, by omega⟩
  have : IntKind.u8.wrap z = z % 256 := by simp [IntKind.wrap, IntKind.bits, IntKind.signed]
  rw [this]
  omega
set_option maxHeartbeats 3200000 in
set_option maxRecDepth 4000 in
theorem filled_ok {w : World} {ao : Option Addr} {cap : Nat} {bs : List Nat} (hr : RdB w ao bs) (hl : bs.length ≤ 9223372036854775807) :
    Calls Try.prog 16 #[.slice ao bs.length cap, num 4] w (FillPost w 4) := by
  obtain ⟨i0, hi, hz0, hz1, hz2⟩ := info_parts info5
  have hl' : (bs.length : Int) ≤ 9223372036854775807 := by omega
  go_enter Try.func16, Try.ntmps16
  go_wp2_with fail
  go_loopw [5, 6] (fun v i wr => ∃ (k : Nat) (l : List Nat), k ≤ 4 ∧ i = num k ∧ l.length = k ∧ (∀ x ∈ l, x ≤ 255) ∧ wr.ownsRow w.heap.size 5 1 v k (valsB l) ∧ w.grownBy wr none) (fun _ i _ => 4 - (intOf i).toNat)
  case atStart => exact ⟨0, [], by omega, rfl, rfl, by simp, World.ownsRow_nil _ _ _ _, World.grownBy.refl _ _⟩
  case round =>
    obtain ⟨k, l, hk, rfl, hll, hle, hown, hgr⟩ := hrel
    by_cases hlt : k < 4
    · have q1 : (k : Int) < 4 := by omega
      have HEnd : Hid (∀ (x : Nat), x ≤ 255 → ∀ v2 (w3 : World), w3.ownsRow w.heap.size 5 1 v2 (k + 1) (valsB l ++ [.int .u8 (x : Int)]) → w.grownBy w3 none → ∃ k' : Nat, k' ≤ 4 ∧ (k : Int) + 1 = (k' : Int) ∧ ∃ l' : List Nat, l'.length = k' ∧ (∀ x ∈ l', x ≤ 255) ∧ w3.ownsRow w.heap.size 5 1 v2 k' (valsB l') ∧ w.grownBy w3 none) := fun x hx v2 w3 ho hg3 =>
        ⟨k + 1, by omega, by omega, l ++ [x], by simp [hll], fun y hy => by
          rcases List.mem_append.1 hy with h | h
          · exact hle y h
          · simp at h; omega, by rw [valsB_app]; exact ho, hg3⟩
      by_cases h0 : bs.length = 0
      · have q2 : ¬ (0 : Int) < (bs.length : Int) := by omega
        obtain ⟨x, hx1, hx2⟩ := u8_wrap ((k : Int) * 7)
        have HGr : Hid (∀ w3 : World, (wr.alloc (.cells #[.int .u8 (x : Int)] 5)).grownBy w3 u5.ownBlock → w.grownBy w3 none) := fun w3 h3 => by
          have hob := (hown.alloc (.cells #[.int .u8 (x : Int)] 5)).lt
          have hg1 := grownBy_trans hgr (World.grownBy_alloc wr (.cells #[.int .u8 (x : Int)] 5) none)
          exact ⟨h3.os.trans hg1.os, h3.tape.trans hg1.tape, h3.output.trans hg1.output, Nat.le_trans hg1.size h3.size, fun j hj _ => by
            rw [h3.block j (Nat.lt_of_lt_of_le hj hg1.size) (fun e => by have := (hob j e.symm).1; omega)]; exact hg1.block j hj (by simp)⟩
        go_wp2_with (first | (at_builtin; refine wpList_append_own _ rfl (.tmp 32) (.tmp 34) 35 rfl w.heap.size 5 i0 (.int .u8 0) 1 1 Try.underlying35 hi hz0 hz1 hz2 rfl (by decide) u5 k (valsB l) rfl (hown.alloc _) ⟨wr.heap.size, 0, none⟩ 1 1 [.int .u8 (x : Int)] rfl rfl (cell_one_new' _ _) (by intro u hu; simp at hu; subst hu; rfl) (by unfold maxLen; omega) (by omega) (by have := hgr.size; simp; omega) ?_; intro v2 w3 ho3 hg3 _))
        have hg03 : w.grownBy w3 none := HGr.out w3 hg3
        have HE2 : Hid _ := HEnd.out x hx2 v2 w3 (by simpa using ho3) hg03
        clear ho3 hg3 HEnd hown
        go_wp2
        exact ⟨HE2.out, by simp [intOf]; omega⟩
      · have q2 : (0 : Int) < (bs.length : Int) := by omega
        obtain ⟨g, off, rfl, src⟩ := (hr.more hgr).src (by omega)
        have hml : k % bs.length < bs.length := Nat.mod_lt _ (by omega)
        have hcm := src.cell (k % bs.length) hml
        have e1 : ((k : Int) % (bs.length : Int)) = ((k % bs.length : Nat) : Int) := by simp
        have e2 : ((k : Int) / (bs.length : Int)) = ((k / bs.length : Nat) : Int) := by simp
        have hml' : ((k % bs.length : Nat) : Int) < (bs.length : Int) := by omega
        have hdv : k / bs.length ≤ 4 := Nat.le_trans (Nat.div_le_self _ _) (by omega)
        have hdv' : ((k / bs.length : Nat) : Int) ≤ 4 := by omega
        have hby := src.le (k % bs.length)
        generalize k % bs.length = km at hcm e1 hml'
        generalize k / bs.length = kd at e2 hdv hdv'
        generalize nth bs km = y at hcm
        obtain ⟨x, hxe⟩ : ∃ x : Nat, x = (y + kd) % 256 := ⟨_, rfl⟩
        have hx2 : x ≤ 255 := by omega
        have e3 : ((y : Int) + (kd : Int)) % 256 = (x : Int) := by omega
        clear hxe
        go_wp2_with fail
        go_quiet (fail)
        obtain ⟨wq, hwq⟩ : ∃ wq, wq = wr.drewN nq := ⟨_, rfl⟩
        have HOw : Hid (wq.ownsRow w.heap.size 5 1 u5 k (valsB l)) := by rw [hwq]; exact hown
        have HGq : Hid (w.grownBy wq none) := by rw [hwq]; exact grownBy_drewN hgr nq
        rw [← hwq]
        clear hcm hwq src
        have HGr2 : Hid (∀ w3 : World, (wq.alloc (.cells #[.int .u8 (x : Int)] 5)).grownBy w3 u5.ownBlock → w.grownBy w3 none) := fun w3 h3 => by
          have hob := (HOw.out.alloc (.cells #[.int .u8 (x : Int)] 5)).lt
          have hg1 := grownBy_trans HGq.out (World.grownBy_alloc wq (.cells #[.int .u8 (x : Int)] 5) none)
          exact ⟨h3.os.trans hg1.os, h3.tape.trans hg1.tape, h3.output.trans hg1.output, Nat.le_trans hg1.size h3.size, fun j hj _ => by
            rw [h3.block j (Nat.lt_of_lt_of_le hj hg1.size) (fun e => by have := (hob j e.symm).1; omega)]; exact hg1.block j hj (by simp)⟩
        go_wp2_with (first | (at_builtin; refine wpList_append_own _ rfl (.tmp 32) (.tmp 34) 35 rfl w.heap.size 5 i0 (.int .u8 0) 1 1 Try.underlying35 hi hz0 hz1 hz2 rfl (by decide) u5 k (valsB l) rfl (HOw.out.alloc _) ⟨wq.heap.size, 0, none⟩ 1 1 [.int .u8 (x : Int)] rfl rfl (cell_one_new' _ _) (by intro u hu; simp at hu; subst hu; rfl) (by unfold maxLen; omega) (by omega) (by have := HGq.out.size; simp; omega) ?_; intro v2 w3 ho3 hg3 _))
        have hg03 : w.grownBy w3 none := HGr2.out w3 hg3
        have HE2 : Hid _ := HEnd.out x hx2 v2 w3 (by simpa using ho3) hg03
        clear ho3 hg3 HEnd hown
        go_wp2
        obtain ⟨k', y1, y2, l', y3, y4, y5, y6⟩ := HE2.out
        exact ⟨⟨k', l', y1, by rw [y2], y3, y4, y5, y6⟩, by simp [intOf]; omega⟩
    · obtain rfl : k = 4 := by omega
      obtain ⟨g, c, T, rfl, hg, hh, hc⟩ := own_parts hown (by omega)
      have q1 : ¬ ((4 : Nat) : Int) < 4 := by omega
      have HE : Hid (FillPost w 4 (.returned (.slice (some ⟨g, 0, none⟩) 4 c)) wr) := ⟨g, c, l, T, rfl, hg, hh, hll, nth_mem_le hle, hc, hgr⟩
      clear hh hown
      go_wp2
      go_ret
      exact HE.out
/-! ### A map of strings -/
def KnownM (w : World) (mp : Nat) (K : Int → Option (List Nat)) (N : Nat) : Prop :=
  ∃ n DM, w.ownsMap Try.prog 3 (plainElem (H := Unit) Try.prog 9) mp n DM ∧ n ≤ N ∧
    (∀ k, Maps.has DM (.int .i64 k) = (K k).isSome) ∧ (∀ k bs, K k = some bs → ∀ z, DM.atKey (.int .i64 k) z = .lit (.string (strB bs).data.toList)) ∧ (∀ k, K k = none → ∀ z, DM.atKey (.int .i64 k) z = z)
theorem zero9 (w : World) : (zeroValue 9).run Try.prog w = .ok (.string ⟨#[]⟩) w := by kernel_rfl
theorem KnownM.kept {w w' : World} {mp : Nat} {K : Int → Option (List Nat)} {N : Nat} (h : KnownM w mp K N) (e : w'.heap[mp]? = w.heap[mp]?) : KnownM w' mp K N := by
  obtain ⟨n, DM, ⟨es, clock, h1, h2, h3, h4⟩, h5⟩ := h
  exact ⟨n, DM, ⟨es, clock, e.trans h1, h2, h3, h4⟩, h5⟩
theorem known_made (w : World) : KnownM (w.alloc (.map #[] 0)) w.heap.size (fun _ => none) 0 := by
  refine ⟨0, .map [], World.ownsMap_made w Try.prog 3 _, Nat.le_refl _, fun k => ?_, fun k v hv => ?_, fun k _ z => ?_⟩
  · simp [Maps.has]
  · simp at hv
  · simp [DataW.atKey]
theorem str_eq {s s' : ByteArray} (h : s.data.toList = s'.data.toList) : s = s' := by
  cases s; cases s'
  simp only at h
  exact congrArg ByteArray.mk (Array.toList_inj.1 h)
def wantV (K : Int → Option (List Nat)) (k : Int) : Value := match K k with | some bs => .string (strB bs) | none => .string ⟨#[]⟩
theorem KnownM.look {w : World} {mp : Nat} {K : Int → Option (List Nat)} {N : Nat} (h : KnownM w mp K N) {k : Int} (hk : I64 k) :
    (Instr.lookup 41 (.map (some mp)) (num k) true).run Try.prog w = .ok (.tuple #[wantV K k, .bool (K k).isSome]) w := by
  obtain ⟨n, DM, hown, _, h1, h2, h3⟩ := h
  obtain ⟨v, ps, hrun, hv⟩ := hown.look_ok (t := 41) keyed3 Try.underlying41 (zero9 w) (plainElem_string Try.underlying9 (by decide)) (keyOf_int_mk Try.underlying3 (wf_i64 hk))
  obtain ⟨s, rfl, hs, _⟩ := plainElem_string_inv Try.underlying9 hv
  have hs' := congrArg Prod.fst hs
  simp only at hs'
  rw [hrun, h1]
  have e : wantV K k = .string s := by
    unfold wantV
    cases hK : K k with
    | none =>
      rw [h3 k hK] at hs'
      simp at hs'
      exact congrArg Value.string (str_eq (by simpa using hs'))
    | some bs =>
      rw [h2 k bs hK] at hs'
      simp at hs'
      exact congrArg Value.string (str_eq (by simpa using hs'))
  rw [e]
theorem KnownM.put {w : World} {mp : Nat} {K : Int → Option (List Nat)} {N : Nat} (h : KnownM w mp K N) {k : Int} {bs : List Nat} (hk : I64 k) (hb : bs.length ≤ 4096) (hN : N ≤ 100000) :
    ∃ w', (Instr.mapUpdate 41 (.map (some mp)) (num k) (.string (strB bs))).run Try.prog w = .ok () w' ∧ KnownM w' mp (fun i => if i = k then some bs else K i) (N + 1) ∧ w.grownBy w' (some mp) := by
  obtain ⟨n, DM, hown, hn, h1, h2, h3⟩ := h
  have hsz : (strB bs).size ≤ maxLen := by
    have : (strB bs).size = bs.length := by simp [strB, strOfNums, ints, ByteArray.size]
    rw [this]; unfold maxLen; omega
  obtain ⟨w', hrun, hown', ht⟩ := hown.store (t := 41) keyed3 Try.underlying41 (by unfold maxLen; omega) (keyOf_int_mk Try.underlying3 (wf_i64 hk)) (plainElem_string Try.underlying9 hsz)
  refine ⟨w', hrun, ⟨n + 1, _, hown', by omega, fun i => ?_, fun i x hx z => ?_, fun i hx z => ?_⟩, ht.grown⟩
  · by_cases e : i = k
    · subst e
      rw [has_put_same (k := .int .i64 i) hown.isMap trivial]
      simp
    · rw [has_put_other (fun e2 => e (by simpa using e2)), h1]
      simp [e]
  · by_cases e : i = k
    · subst e
      simp at hx
      subst hx
      exact atKey_put_same (k := .int .i64 i) hown.isMap trivial _ z
    · simp [e] at hx
      rw [atKey_put_other (fun e2 => e (by simpa using e2))]
      exact h2 i x hx z
  · by_cases e : i = k
    · simp [e] at hx
    · simp [e] at hx
      rw [atKey_put_other (fun e2 => e (by simpa using e2))]
      exact h3 i hx z
theorem KnownM.del {w : World} {mp : Nat} {K : Int → Option (List Nat)} {N : Nat} (h : KnownM w mp K N) {k : Int} (hk : I64 k) (ty : TypeId) :
    ∃ w', (Builtin.delete_ #[41, 3] ty #[.map (some mp), num k]).run Try.prog w = .ok (.tuple #[]) w' ∧ KnownM w' mp (fun i => if i = k then none else K i) N ∧ w.grownBy w' (some mp) := by
  obtain ⟨n, DM, hown, hn, h1, h2, h3⟩ := h
  obtain ⟨w', hrun, hown', ht⟩ := hown.drop (t := 41) keyed3 Try.underlying41 (keyOf_int_mk Try.underlying3 (wf_i64 hk)) ty
  refine ⟨w', hrun, ⟨n, _, hown', hn, fun i => ?_, fun i x hx z => ?_, fun i hx z => ?_⟩, ht.grown⟩
  · by_cases e : i = k
    · subst e
      simp [has_del_same]
    · rw [has_del_other (fun e2 => e (by simpa using e2)), h1]
      simp [e]
  · by_cases e : i = k
    · simp [e] at hx
    · simp [e] at hx
      rw [atKey_del_other (fun e2 => e (by simpa using e2))]
      exact h2 i x hx z
  · by_cases e : i = k
    · subst e
      simp [atKey_del_same]
    · simp [e] at hx
      rw [atKey_del_other (fun e2 => e (by simpa using e2))]
      exact h3 i hx z
end Nd
end Go.Proofs.Ytojamicakkecbaa
