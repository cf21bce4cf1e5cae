/- Layer 7 (blocks): the document's Bytes. -/
import Derived.Test.YtoakokpeomlkjaaDoorCc
namespace Go.Proofs.YtoakokpeomlkjaaDoor
open Go.RowKit Go.Maps Go.Shelf
namespace Bk
open Cr (valsB RdB Glob)
/-- The bytes, block after block. -/
def flatB (f : Pool) (n m j : Nat) : List Nat := [n, m] ++ (List.range j).flatMap fun x => blkB (f (x / m) (x % m))
theorem flatB_succ (f : Pool) (n m j : Nat) : flatB f n m (j + 1) = flatB f n m j ++ blkB (f (j / m) (j % m)) := by simp [flatB, List.range_succ]
theorem flatB_len (f : Pool) (n m : Nat) : ∀ j, (flatB f n m j).length = 2 + 5 * j
  | 0 => by simp [flatB]
  | j + 1 => by rw [flatB_succ, List.length_append, flatB_len f n m j]; simp [blkB]; omega
theorem dieB_range {m : Nat} (r : Nat → Blk) : dieB r (List.finRange m) = (List.range m).flatMap fun x => blkB (r x) := by
  have h : List.range m = (List.finRange m).map (fun x => x.1) := by
    apply List.ext_getElem
    · simp
    · intro i h1 h2; simp
  rw [h, List.flatMap_map]
  rfl
theorem flatB_rows (f : Pool) (n : Nat) {m : Nat} (hm : 0 < m) : ∀ k, flatB f n m (k * m) = poolB f n m k
  | 0 => by simp [flatB, poolB]
  | k + 1 => by
    rw [poolB_succ, ← flatB_rows f n hm k, dieB_range]
    unfold flatB
    rw [Nat.add_mul, Nat.one_mul, List.range_add, List.flatMap_append, List.flatMap_map, List.append_assoc]
    congr 2
    rw [List.flatMap_def, List.flatMap_def]
    congr 1
    apply List.map_congr_left
    intro x hx
    have hx := List.mem_range.1 hx
    rw [Nat.mul_comm k m, Nat.mul_add_div hm, Nat.div_eq_of_lt hx, Nat.mul_add_mod, Nat.mod_eq_of_lt hx, Nat.add_zero]
theorem flatB_le {f : Pool} {n m : Nat} (hn : n ≤ 255) (hm : m ≤ 255) (hst : ∀ i k, i < n → k < m → (f i k).st ≤ 4) {j : Nat} (hj : j ≤ n * m) : ∀ x ∈ flatB f n m j, x ≤ 255 := fun x hx => by
  unfold flatB at hx
  rcases List.mem_append.1 hx with hx | hx
  · simp at hx; rcases hx with rfl | rfl <;> omega
  · obtain ⟨i, hi, hx⟩ := List.mem_flatMap.1 hx
    have hi := List.mem_range.1 hi
    have hm0 : 0 < m := by
      rcases Nat.eq_zero_or_pos m with h | h
      · subst h; simp at hj; omega
      · exact h
    exact blkB_le (hst _ _ (Nat.div_lt_of_lt_mul (by rw [Nat.mul_comm]; omega)) (Nat.mod_lt _ hm0)) x hx
theorem cell_alloc {w : World} {g o : Nat} {v : Value} {O : Obj} (h : w.cell? ⟨g, o, none⟩ = some v) : (w.alloc O).drew.cell? ⟨g, o, none⟩ = some v :=
  (cell_of_block ((World.grownBy_alloc w O none).block g (lt_of_cell h) (by simp))).trans h
/-- A row of bytes of one's own, under way. -/
structure KBy (w wr : World) (v : Value) (L : List Nat) : Prop where
  grown : w.grownBy wr none
  own : wr.ownsRow w.heap.size 5 1 v L.length (valsB L)
theorem KBy.push {w wr wa w2 : World} {v v' : Value} {L N : List Nat} (h : KBy w wr v L) (ga : wr.grownBy wa none) (g : wa.grownBy w2 v.ownBlock) (own : w2.ownsRow w.heap.size 5 1 v' (L.length + N.length) (valsB L ++ valsB N)) : KBy w w2 v' (L ++ N) := by
  have h1 := grownBy_trans h.grown ga
  refine ⟨⟨g.os.trans h1.os, g.tape.trans h1.tape, g.output.trans h1.output, Nat.le_trans h1.size g.size, fun x hx _ => ?_⟩, ?_⟩
  · have := h1.size
    exact (g.block _ (by omega) (fun e => by have := (h.own.lt _ e.symm).1; omega)).trans (h1.block _ hx (by simp))
  · rw [List.length_append, Cr.valsB_app]; exact own
theorem KBy.shape {w wr : World} {v : Value} {L : List Nat} (h : KBy w wr v L) (hl : 1 ≤ L.length) (h255 : ∀ x ∈ L, x ≤ 255) : ∃ g cap, v = .slice (some ⟨g, 0, none⟩) L.length cap ∧ RdB wr (some ⟨g, 0, none⟩) L := by
  rcases h.own.2 with ⟨_, h0⟩ | ⟨g, cap, cur, rfl, h1, h2, h3, _, h5, ht⟩
  · omega
  · refine ⟨g, cap, rfl, ⟨fun i => ?_, .inr ⟨g, 0, rfl, fun j hj => ?_⟩⟩⟩
    · by_cases hi : i < L.length
      · unfold Cr.nth
        rw [List.getD_eq_getElem?_getD, List.getElem?_eq_getElem hi]
        exact h255 _ (List.getElem_mem hi)
      · unfold Cr.nth
        rw [List.getD_eq_getElem?_getD, List.getElem?_eq_none (by omega)]
        exact Nat.zero_le _
    · rw [Nat.zero_add]
      refine cell_at h2 ?_
      have := congrArg (fun l => l[j]?) ht
      simp only [Nat.mul_one] at this
      rw [List.getElem?_take_of_lt hj, Cr.valsB_at hj] at this
      simpa using this
theorem cells_new (w : World) (L : List Value) (t : TypeId) : ∀ j u, L[j]? = some u → (w.alloc (.cells L.toArray t)).cell? ((⟨w.heap.size, 0, none⟩ : Addr).add j) = some u := fun j u hj => by
  rw [addr_add', Nat.zero_add]
  exact cell_at (heap_alloc_new w _) (by simpa using hj)
theorem rSeal_here {w : World} (ao : Option Addr) (cap : Nat) (bs : List Nat) (hx : RdB w ao bs) (hcap : ao = none → cap = 0) (hl : bs.length + 4 ≤ 140737488355328) : Calls Tryd.prog 19 #[.slice ao bs.length cap] w fun e w' => Cr.RowPost w (bs ++ Cr.le4 (Cr.crc bs)) e w' := Cr.kSeal_ok ao cap bs hx hcap hl
set_option maxRecDepth 8000 in
set_option maxHeartbeats 3200000 in
theorem kBytes_ok {w : World} {R : Ref} {f : Pool} (h : RefM w R f) (hn1 : 1 ≤ R.n) (hm1 : 1 ≤ R.m) (hst : ∀ i k, i < R.n → k < R.m → 1 ≤ (f i k).st ∧ (f i k).st ≤ 4 ∧ (f i k).er < 4294967296) : Calls Tryd.prog 35 #[ptr R.r 0] w fun e w' => Cr.RowPost w (poolB f R.n R.m R.n ++ Cr.le4 (Cr.crc (poolB f R.n R.m R.n))) e w' := by
  obtain ⟨i0, hi, hz0, hz1, hz2⟩ := info_parts info5
  have hN : R.n ≤ 8 := h.n8
  have hM : R.m ≤ 64 := h.m64
  have c0 : w.cell? ⟨R.r, 0, none⟩ = some (num R.n) := cell_at h.box rfl
  have c1 : w.cell? ⟨R.r, 1, none⟩ = some (num R.m) := cell_at h.box rfl
  have HL : Hid (R.l = R.n * R.m) := h.len
  have hl512 : R.l ≤ 512 := by have := Nat.mul_le_mul h.n8 h.m64; have := h.len; omega
  obtain ⟨V, hV⟩ : ∃ V, V = (w.alloc (.cells #[.int .u8 (IntKind.u8.wrap (R.n : Int)), .int .u8 (IntKind.u8.wrap (R.m : Int))] 5)).drew := ⟨_, rfl⟩
  have hK0 : KBy w V (.slice (some ⟨w.heap.size, 0, none⟩) 2 2) (flatB f R.n R.m 0) := by
    have e1 : IntKind.u8.wrap (R.n : Int) = (R.n : Int) := by rw [IntKind.wrap_u8]; omega
    have e2 : IntKind.u8.wrap (R.m : Int) = (R.m : Int) := by rw [IntKind.wrap_u8]; omega
    rw [e1, e2] at hV
    have hr : V.heap[w.heap.size]? = some (.cells #[q8 R.n, q8 R.m] 5) := by rw [hV]; exact heap_alloc_new w _
    refine ⟨by rw [hV]; exact grownBy_drew (World.grownBy_alloc w _ none), by simp [flatB, valsB], .inr ⟨w.heap.size, 2, _, rfl, Nat.le_refl _, hr, Nat.le_refl _, by unfold maxLen; omega, rfl, by simp [flatB, valsB]⟩⟩
  have HK0 := hide hK0
  have HV := hide hV
  have HF : Hid (∀ wr, w.grownBy wr none → ∀ j, j < R.l → ∃ (s e : Nat), blkB (f (j / R.m) (j % R.m)) = [s, e % 256, e / 256 % 256, e / 65536 % 256, e / 16777216 % 256] ∧ s ≤ 255 ∧ e < 4294967296 ∧ wr.cell? ⟨R.sb, j, none⟩ = some (num s) ∧ wr.cell? ⟨R.eb, j, none⟩ = some (num e)) := fun wr hg j hj => by
    have hm0 : 0 < R.m := by omega
    rw [HL.out] at hj
    have hd : j / R.m < R.n := Nat.div_lt_of_lt_mul (by rw [Nat.mul_comm]; omega)
    have hr : j % R.m < R.m := Nat.mod_lt _ hm0
    obtain ⟨s1, s4, e1⟩ := hst _ _ hd hr
    have hh := h.grown hg
    have cs := hh.st _ _ hd hr
    have ce := hh.er _ _ hd hr
    rw [Nat.div_add_mod'] at cs ce
    refine ⟨(f (j / R.m) (j % R.m)).st.toNat, (f (j / R.m) (j % R.m)).er, rfl, by omega, e1, ?_, ce⟩
    rw [cs]; congr 2; omega
  have HB : Hid (∀ wr, w.grownBy wr none → wr.cell? ⟨R.r, 2, none⟩ = some (.slice (some ⟨R.sb, 0, none⟩) R.l R.sc) ∧ wr.cell? ⟨R.r, 3, none⟩ = some (.slice (some ⟨R.eb, 0, none⟩) R.l R.ec)) := fun wr hg => ⟨cell_at (h.grown hg).box rfl, cell_at (h.grown hg).box rfl⟩
  have HE : Hid (flatB f R.n R.m R.l = poolB f R.n R.m R.n ∧ ∀ x ∈ flatB f R.n R.m R.l, x ≤ 255) := ⟨by rw [HL.out]; exact flatB_rows f R.n hm1 R.n, flatB_le (by omega) (by omega) (fun i k hi hk => (hst i k hi hk).2.1) (Nat.le_of_eq HL.out)⟩
  have HS0 : Hid (w.drew.cell? ⟨R.r, 0, none⟩ = some (num R.n) ∧ w.drew.cell? ⟨R.r, 1, none⟩ = some (num R.m)) := ⟨c0, c1⟩
  clear hV hK0 hst h
  go_enter Tryd.func35, Tryd.ntmps35
  go_wp2_with fail
  go_region_held3 (fun w' => w'.cell? ⟨R.r, 0, none⟩ = some (num R.n) ∧ w'.cell? ⟨R.r, 1, none⟩ = some (num R.m)) (first | assumption | exact HS0.out | exact ⟨cell_alloc c0, cell_alloc c1⟩) (fail)
  rw [← HV.out]
  clear HS0 c0 c1 HV
  generalize IntKind.u8.wrap (R.n : Int) = zn
  generalize IntKind.u8.wrap (R.m : Int) = zm
  go_wp2_with fail
  go_loopw [3, 4, 5] (fun v i _ wr => ∃ j : Nat, j ≤ R.l ∧ i = num j ∧ KBy w wr v (flatB f R.n R.m j)) (fun _ i _ _ => R.l - (intOf i).toNat)
  case atStart => exact ⟨0, Nat.zero_le _, rfl, HK0.out⟩
  case round =>
    clear HK0
    obtain ⟨j, hj, rfl, hK⟩ := hrel
    obtain ⟨c2, c3⟩ := HB.out _ hK.grown
    by_cases hjl : j < R.l
    · have q1 : (j : Int) < (R.l : Int) := by omega
      obtain ⟨s, e, hblk, hs, he, cs, ce⟩ := HF.out _ hK.grown j hjl
      have E5 : Hid (#[Value.int .u8 (s : Int), .int .u8 ((e : Int) % 256), .int .u8 ((e : Int) / 256 % 256), .int .u8 ((e : Int) / 65536 % 256), .int .u8 ((e : Int) / 16777216)] = (valsB [s, e % 256, e / 256 % 256, e / 65536 % 256, e / 16777216 % 256]).toArray) := by simp [Hid, valsB]; omega
      have fs : IntKind.u8.wrap (s : Int) = (s : Int) := by rw [IntKind.wrap_u8]; omega
      have HNx : Hid (flatB f R.n R.m (j + 1) = flatB f R.n R.m j ++ [s, e % 256, e / 256 % 256, e / 65536 % 256, e / 16777216 % 256]) := by rw [Hid, flatB_succ, hblk]
      have hBL : (flatB f R.n R.m j).length ≤ 3000 := by rw [flatB_len]; omega
      have hNl : (valsB [s, e % 256, e / 256 % 256, e / 65536 % 256, e / 16777216 % 256]).length = 5 := rfl
      clear hblk
      generalize flatB f R.n R.m j = L at hK hBL HNx
      obtain ⟨N, hN5⟩ : ∃ N, N = [s, e % 256, e / 256 % 256, e / 65536 % 256, e / 16777216 % 256] := ⟨_, rfl⟩
      have hNn : N.length = 5 := by rw [hN5]; rfl
      rw [← hN5] at E5 HNx hNl
      clear hN5
      have HO := hide (hK.own.alloc (.cells (valsB N).toArray 5))
      have HC := hide (cells_new wr (valsB N) 5)
      have HBs : Hid (w.heap.size ≤ (wr.alloc (.cells (valsB N).toArray 5)).heap.size) := (grownBy_trans hK.grown (World.grownBy_alloc wr _ none)).size
      have HK : Hid _ := hK
      have HL5 : Hid (N.length = 5) := hNn
      have HL6 : Hid ((valsB N).length = 5 * 1) := hNl
      clear hK hNn hNl
      go_wp2_with (at_builtin; go_loud (rw [E5.out]; refine wpList_append_own _ rfl (.tmp 33) (.tmp 53) 43 rfl w.heap.size 5 i0 (.int .u8 0) 1 1 Tryd.underlying43 hi hz0 hz1 hz2 rfl (by decide) _ _ _ rfl HO.out ⟨wr.heap.size, 0, none⟩ 5 5 (valsB N) rfl HL6.out HC.out (Cr.valsB_one _) (by unfold maxLen; omega) (by omega) HBs.out ?_; intro v5 w5 hown5 hg5 _))
      have HK5 : Hid (KBy w w5 v5 (flatB f R.n R.m (j + 1))) := by rw [Hid, HNx.out]; exact HK.out.push (World.grownBy_alloc wr _ none) hg5 (by rw [HL5.out]; exact hown5)
      clear HK HO HC HBs HNx E5 HL5 HL6 hown5 hg5 HF HB HE
      go_wp2_with fail
      go_roundw
      case rel => exact ⟨j + 1, by omega, by go_num, HK5.out⟩
      case measure => simp [intOf]; omega
    · obtain rfl : j = R.l := by omega
      have q1 : ¬ (R.l : Int) < (R.l : Int) := by omega
      have hlen : 1 ≤ (flatB f R.n R.m R.l).length ∧ (flatB f R.n R.m R.l).length ≤ 3000 := by rw [flatB_len]; omega
      obtain ⟨e1, e2⟩ := HE.out
      generalize flatB f R.n R.m R.l = L at hK e1 e2 hlen
      subst e1
      obtain ⟨g, cap, rfl, hrd⟩ := hK.shape hlen.1 e2
      have HS := hide (rSeal_here (some ⟨g, 0, none⟩) cap _ hrd (by simp) (by omega))
      have HG : Hid _ := hK.grown
      clear hK hrd e2 hlen HF HB HE
      go_wp2_with fail
      refine HS.out.mono ?_
      rintro e w' ⟨ao', cap', rfl, hr', hg'⟩
      have hgw := grownBy_trans HG.out hg'
      go_wp2_with fail
      go_ret
      exact ⟨ao', cap', by rw [List.length_append]; rfl, hr', hgw⟩
end Bk
end Go.Proofs.YtoakokpeomlkjaaDoor
