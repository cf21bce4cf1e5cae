/- The walk of NandFlips. -/
import Derived.Test.YtojamicakkecbaaOv
import Derived.Laws.ShiftsVarLaws
namespace Go.Proofs.Ytojamicakkecbaa
open Go.ChangeShapes Go.WideShapes Go.ChangeAt Go.RowKit Go.Maps
namespace Nd
def bitL (n : Nat) (xs : List Int) : List Int := xs.map fun x => ((absS x % (8 * n) : Nat) : Int)
theorem bitL_len (n : Nat) (xs : List Int) : (bitL n xs).length = xs.length := by simp [bitL]
theorem bitL_at (n : Nat) {xs : List Int} {j : Nat} (h : j < xs.length) : nthI (bitL n xs) j = ((absS (nthI xs j) % (8 * n) : Nat) : Int) := by
  simp [bitL, nthI, h]
theorem own_more {w w' : World} {base : Nat} {e : TypeId} {size : Nat} {v : Value} {n : Nat} {xs : List Value} (h : w.ownsRow base e size v n xs) (hg : w.grownBy w' none) : w'.ownsRow base e size v n xs :=
  ⟨h.1, h.2.imp id fun ⟨g, cap, cur, a, b, c, d⟩ => ⟨g, cap, cur, a, b, (hg.block g (lt_of_heap c) (by simp)).trans c, d⟩⟩
theorem own_step {w1 wr w5 : World} {e : TypeId} {size : Nat} {v : Value} {n : Nat} {xs : List Value} (h : w1.grownBy wr none) (hown : wr.ownsRow w1.heap.size e size v n xs) (hg : wr.grownBy w5 v.ownBlock) : w1.grownBy w5 none := by
  refine ⟨hg.os.trans h.os, hg.tape.trans h.tape, hg.output.trans h.output, Nat.le_trans h.size hg.size, fun x hx _ => (hg.block x (Nat.lt_of_lt_of_le hx h.size) ?_).trans (h.block x hx (by simp))⟩
  rcases hown.2 with ⟨rfl, _⟩ | ⟨g, cap, cur, rfl, hb, _⟩
  · simp [Value.ownBlock]
  · simp only [Value.ownBlock, ne_eq, Option.some.injEq]; omega
theorem own_bits {w : World} {base : Nat} {v : Value} {n : Nat} {L : List Int} (h : w.ownsRow base 3 1 v n (valsI L)) : ∃ ba bc, v = .slice ba L.length bc ∧ (L = [] ∨ ∃ g, ba = some ⟨g, 0, none⟩ ∧ g < w.heap.size ∧ ∀ i, i < L.length → w.cell? ⟨g, i, none⟩ = some (num (nthI L i))) := by
  have hn : L.length = n := by have := h.1; rw [valsI_len] at this; omega
  rcases h.2 with ⟨rfl, h0⟩ | ⟨g, cap, cur, rfl, _, hg, hnc, hcm, hcs, htk⟩
  · exact ⟨none, 0, by rw [hn, h0], .inl (List.eq_nil_of_length_eq_zero (by omega))⟩
  · refine ⟨some ⟨g, 0, none⟩, cap, by rw [hn], .inr ⟨g, rfl, lt_of_heap hg, fun i hi => ?_⟩⟩
    have e : (cur.toList.take (n * 1))[i]? = some (num (nthI L i)) := by rw [htk]; exact valsI_at hi
    rw [List.getElem?_take_of_lt (by omega)] at e
    simp only [World.cell?, hg]
    simpa using e
theorem take_next (L : List Int) {j : Nat} (h : j < L.length) : valsI (L.take j) ++ [num (nthI L j)] = valsI (L.take (j + 1)) := by
  rw [nthI_of h]
  unfold valsI
  rw [List.take_add_one, List.getElem?_eq_getElem h, List.map_append]
  rfl
theorem set_front (X : List Nat) (T : List Value) {i : Nat} (h : i < X.length) (v : Nat) : (valsB X ++ T).set i (.int .u8 (v : Nat)) = valsB (X.set i v) ++ T := by
  rw [List.set_append_left _ _ (by rw [valsB_len]; exact h), valsB_set]
theorem front_src {w : World} {g : Nat} {X : List Nat} {T : List Value} (h : w.heap[g]? = some (.cells (valsB X ++ T).toArray 5)) (hle : ∀ i, nth X i ≤ 255) : Src w g 0 X :=
  ⟨hle, fun i hi => by rw [Nat.zero_add, cell_row h, List.getElem?_append_left (by rw [valsB_len]; exact hi)]; exact valsB_at hi⟩
theorem own_front {w : World} {base g n cap : Nat} {bs : List Nat} (h : w.ownsRow base 5 1 (.slice (some ⟨g, 0, none⟩) n cap) n ([] ++ valsB bs)) : base ≤ g ∧ ∃ T, w.heap[g]? = some (.cells (valsB bs ++ T).toArray 5) := by
  rcases h.2 with ⟨h, _⟩ | ⟨g', cap', cur, hv, hb, hg, hnc, hcm, hcs, htk⟩
  · cases h
  · simp only [Value.slice.injEq, Option.some.injEq, Addr.mk.injEq, and_true, true_and] at hv
    obtain ⟨rfl, rfl⟩ := hv
    refine ⟨hb, cur.toList.drop n, ?_⟩
    have e : cur.toList = valsB bs ++ cur.toList.drop n := by
      have h2 := List.take_append_drop n cur.toList
      rw [Nat.mul_one] at htk
      rw [htk, List.nil_append] at h2
      exact h2.symm
    rw [hg, ← e]
theorem field3 (a b c d e f : Int) (w : World) : (Instr.field 57 (.agg #[num a, num b, num c, num d, num e, num f]) 3).run Try.prog w = .ok (num d) w := by kernel_rfl
set_option maxHeartbeats 25600000 in
set_option maxRecDepth 4000 in
theorem law_NandFlips (ao : Option Addr) (len cap : Nat) (bs : List Nat) {w : World} (hx : ArgB w ao len bs) (hl : len ≤ cap ∧ cap ≤ 9223372036854775807) (a2 : Option Addr) (len2 cap2 : Nat) (xs : List Int) (hx2 : Arg w a2 len2 xs) (hl2 : len2 ≤ 9223372036854775807) (t0 : Int) (ht0 : I64 t0) (m0 : Int) (hm0 : I64 m0) :
    Calls Try.prog 6 #[.slice ao len cap, .slice a2 len2 cap2, num t0, num m0] w fun e w' => e = .returned (.bool true) ∧ w.grownBy w' none := by
  have hnn := hnot
  obtain ⟨hbl, hrd⟩ := hx
  have hl2' : (len2 : Int) ≤ 9223372036854775807 := by omega
  by_cases h0 : len = 0
  · have b1 : ((len : Int) == 0) = true := by rw [h0]; rfl
    go_enter Try.func6, Try.ntmps6
    go_wp2_with fail
    refine (awake_ok w).mono ?_
    rintro e w1 ⟨rfl, hg1⟩
    go_wp2_with fail
    go_ret
    exact ⟨rfl, hg1⟩
  have b1 : ((len : Int) == 0) = false := by simp; omega
  by_cases h1 : 100 < len
  · have b2 : (100 : Int) < (len : Int) := by omega
    go_enter Try.func6, Try.ntmps6
    go_wp2_with fail
    refine (awake_ok w).mono ?_
    rintro e w1 ⟨rfl, hg1⟩
    go_wp2_with fail
    go_ret
    exact ⟨rfl, hg1⟩
  have b2 : ¬ (100 : Int) < (len : Int) := by omega
  by_cases h2 : 20 < len2
  · have b3 : (20 : Int) < (len2 : Int) := by omega
    go_enter Try.func6, Try.ntmps6
    go_wp2_with fail
    refine (awake_ok w).mono ?_
    rintro e w1 ⟨rfl, hg1⟩
    go_wp2_with fail
    go_ret
    exact ⟨rfl, hg1⟩
  have b3 : ¬ (20 : Int) < (len2 : Int) := by omega
  have l1' : (1 : Int) ≤ (len : Int) := by omega
  have l2' : (len : Int) ≤ 100 := by omega
  have l3' : (len2 : Int) ≤ 20 := by omega
  obtain ⟨gs, off, rfl, src⟩ := hrd.src (by omega)
  have hgs : gs < w.heap.size := lt_of_cell (src.cell 0 (by omega))
  obtain ⟨t, ht⟩ : ∃ n, n = absS t0 % 5 := ⟨_, rfl⟩
  obtain ⟨mm, hm⟩ : ∃ n, n = absS m0 % 4 := ⟨_, rfl⟩
  have HA2 : Hid (∀ w, Calls Try.prog 14 #[num t0] w fun e w' => e = .returned (num (absS t0)) ∧ w' = w) := fun w => abs_ok t0 ht0 w
  have HA3 : Hid (∀ w, Calls Try.prog 14 #[num m0] w fun e w' => e = .returned (num (absS m0)) ∧ w' = w) := fun w => abs_ok m0 hm0 w
  have ha2 := absS_le ht0
  have ha3 := absS_le hm0
  have ha2' : (absS t0 : Int) ≤ 9223372036854775807 := by omega
  have ha3' : (absS m0 : Int) ≤ 9223372036854775807 := by omega
  have HT : Hid ((absS t0 : Int) % 5 = (t : Int)) := by rw [Hid, ht]; omega
  have HM : Hid ((absS m0 : Int) % 4 = (mm : Int)) := by rw [Hid, hm]; omega
  have t5 : t < 5 := by omega
  have m4 : mm < 4 := by omega
  have t5' : (t : Int) < 5 := by omega
  have m4' : (mm : Int) < 4 := by omega
  obtain ⟨L, hL⟩ : ∃ L, L = bitL len xs := ⟨_, rfl⟩
  have hxl := hx2.1
  have hLl : L.length = len2 := by rw [hL, bitL_len]; exact hxl
  have hLb : ∀ i, i < L.length → 0 ≤ nthI L i ∧ nthI L i < 8 * len := fun i hi => by
    rw [hL, bitL_at len (by omega)]
    have := Nat.mod_lt (absS (nthI xs i)) (show 8 * len > 0 by omega)
    omega
  obtain ⟨i0, hi, hz0, hz1, hz2⟩ := info_parts infoI
  have HL : Hid (L = bitL len xs) := hL
  clear ht hm ha2 ha3 ht0 hm0 hL
  go_enter Try.func6, Try.ntmps6
  go_wp2_with fail
  refine (awake_ok w).mono ?_
  rintro e w1 ⟨rfl, hg1⟩
  go_wp2_with fail
  go_loopw [10, 11] (fun v i wr => ∃ (j : Nat) (v0 : Value), v0 = v ∧ j ≤ len2 ∧ i = num j ∧ w1.grownBy wr none ∧ wr.ownsRow w1.heap.size 3 1 v j (valsI (L.take j))) (fun _ i _ => len2 - (intOf i).toNat)
  case atStart => exact ⟨0, _, rfl, Nat.zero_le _, rfl, World.grownBy.refl _ _, by simpa [valsI] using World.ownsRow_nil w1 w1.heap.size 3 1⟩
  case round =>
    obtain ⟨j, v, rfl, hj, rfl, hgr, hown⟩ := hrel
    by_cases hjl : j < len2
    · have q1 : (j : Int) < (len2 : Int) := by omega
      have hxr := hx2.more (grownBy_trans hg1 hgr)
      obtain ⟨g2, off2, rfl, hc2⟩ := hxr.2.2.resolve_left (fun e => by rw [e] at hxl; simp at hxl; omega)
      have hcj := hc2 j (by omega)
      have hI : I64 (nthI xs j) := hx2.2.1 _ (by rw [nthI_of (by omega)]; exact List.getElem_mem _)
      have HK := bitL_at len (xs := xs) (j := j) (by omega)
      rw [← HL.out] at HK
      generalize nthI xs j = x at hcj hI HK
      obtain ⟨K, hK⟩ : ∃ K, K = absS x % (8 * len) := ⟨_, rfl⟩
      rw [← hK] at HK
      have HAx : Hid (∀ w, Calls Try.prog 14 #[num x] w fun e w' => e = .returned (num (absS x)) ∧ w' = w) := fun w => abs_ok x hI w
      have hax := absS_le hI
      have hax' : (absS x : Int) ≤ 9223372036854775807 := by omega
      have HPt : Hid ((absS x : Int) % (8 * (len : Int)) = (K : Int)) := by rw [Hid, hK]; simp
      have hKl : K < 8 * len := by rw [hK]; exact Nat.mod_lt _ (by omega)
      have hKl' : (K : Int) < 8 * (len : Int) := by omega
      have hgA := World.grownBy_alloc wr (.cells #[num K] 3) none
      have HOw : Hid ((wr.alloc (.cells #[num K] 3)).ownsRow w1.heap.size 3 1 v j (valsI (L.take j))) := own_more hown hgA
      have HGr : Hid (w1.grownBy (wr.alloc (.cells #[num K] 3)) none) := grownBy_trans hgr hgA
      have HTn : Hid (valsI (L.take j) ++ [num K] = valsI (L.take (j + 1))) := by rw [Hid, ← take_next L (by omega), HK]
      have HBs : Hid (w1.heap.size ≤ (wr.alloc (.cells #[num K] 3)).heap.size) := HGr.out.size
      clear hxr hc2 hI HK hK hax hgA hgr hown
      go_wp2_with fail
      refine (HAx.out _).mono ?_
      rintro e wr ⟨rfl, rfl⟩
      go_wp2_with (first | rw [HPt.out] | (at_builtin; refine wpList_append_lies _ rfl (.tmp 41) (.tmp 51) 42 rfl w1.heap.size 3 i0 (.int .i64 0) 1 8 Try.underlying42 hi hz0 hz1 hz2 rfl (by decide) _ j (valsI (L.take j)) rfl HOw.out ⟨wr.heap.size, 0, none⟩ 1 1 [num K] rfl rfl (cell_one_new _ _ _) (fun u hu => by rw [List.mem_singleton] at hu; subst hu; rfl) (by decide) (by unfold maxLen; omega) (by omega) HBs.out _ rfl ?_; intro g5 cap5 w5 hown5 hg5 hat5 hlt5))
      have hgr5 := own_step HGr.out HOw.out hg5
      rw [HTn.out] at hown5
      clear hg5 hat5 hlt5 HOw HGr HTn HBs
      go_wp2_with fail
      exact ⟨⟨j + 1, _, rfl, by omega, by go_num, hgr5, hown5⟩, by simp [intOf]; omega⟩
    · obtain rfl : j = len2 := by omega
      have q1 : ¬ (j : Int) < (j : Int) := by omega
      rw [List.take_of_length_le (by omega)] at hown
      obtain ⟨ba, bc, rfl, hbits⟩ := own_bits hown
      have hL20 : L.length ≤ 20 := by omega
      have hL20' : (L.length : Int) ≤ 20 := by omega
      clear hLl
      obtain ⟨W, hW⟩ : ∃ W, W = wr.alloc (.cells #[num 1, num 0, num 0, num 0, num 0, num t, num 0, .slice ba L.length bc] 52) := ⟨_, rfl⟩
      have hgW : wr.grownBy W none := by rw [hW]; exact World.grownBy_alloc wr _ none
      have hbx : W.heap[wr.heap.size]? = some (.cells (fltL (flipF t L ba bc)).toArray 52) := by rw [hW]; exact heap_alloc_new wr _
      have Hw : Hid _ := hW
      have hg0 : w.grownBy W none := grownBy_trans (grownBy_trans hg1 hgr) hgW
      have hbR : BitsR W (flipF t L ba bc) := by
        rcases hbits with h | ⟨g, hb, hlt, hc⟩
        · exact .inl h
        · exact .inr ⟨g, 0, hb, fun i hi => by rw [Nat.zero_add, cell_of_block (hgW.block g hlt (by simp))]; exact hc i hi⟩
      have hM : FaultsM W (some ⟨wr.heap.size, 0, none⟩) [flipF t L ba bc] := by
        refine ⟨.inr ⟨wr.heap.size, 0, rfl, fun k f hf j v hv => ?_⟩, fun f hf => ?_⟩
        · cases k with
          | zero =>
            simp at hf
            subst hf
            have := (At.of_row (o := j) hbx (by simpa using hv)).1
            simpa using this
          | succ k => simp at hf
        · simp at hf
          subst hf
          exact ⟨hbR, by show L.length ≤ _; omega⟩
      have HN : Hid (Calls Try.prog 10 #[shapeV 1 1 1 len, .slice (some ⟨wr.heap.size, 0, none⟩) 1 1] W (NewPost W (layAll (St.new 1 1 1 len) [flipF t L ba bc]))) :=
        new_okF 1 1 1 len (dims_new (by decide) (by decide) (by decide) (by decide) (by decide) (by decide) (by omega) (by omega)) (by omega) (fs := [flipF t L ba bc]) (cap := 1) hM (fun f hf => by simp at hf; subst hf; exact flipF_may hLb) (by simp) (fun f hf => by simp at hf; subst hf; show L.length ≤ _; omega)
      have HLb : Hid (L = [] ∨ ∃ g, ba = some ⟨g, 0, none⟩ ∧ g < W.heap.size ∧ ∀ i, i < L.length → W.cell? ⟨g, i, none⟩ = some (num (nthI L i))) := by
        rcases hbits with h | ⟨g, hb, hlt, hc⟩
        · exact .inl h
        · exact .inr ⟨g, hb, Nat.lt_of_lt_of_le hlt hgW.size, fun i hi => by rw [cell_of_block (hgW.block g hlt (by simp))]; exact hc i hi⟩
      clear hW hbx hM hbR hbits hown hgr hgW hg1
      go_wp2_with fail
      refine (HA2.out _).mono ?_
      rintro e wr ⟨rfl, rfl⟩
      go_wp2_with (first | rw [HT.out] | rw [← Hw.out])
      refine HN.out.mono ?_
      rintro e w2 ⟨M, lab, rfl, h2, st2⟩
      have st02 := Stp.from hg0 st2
      have hgW2 := st2.grownBy
      have hlg : lab gs = none := st02.no hgs rfl
      have srcR : ∀ {w'}, w.grownBy w' none → Src w' gs off bs := fun {w'} hg => src.of_heap (hg.block gs hgs (by simp))
      obtain ⟨e5, hO5⟩ := FlR.start (n := len) (t := t) (l := L) (ba := ba) (bc := bc) (by omega) (by omega) hLb hbl
      have hst := flip_start (n := len) (t := t) (l := L) (ba := ba) (bc := bc)
      have hbd0 : Bd (layAll (St.new 1 1 1 len) [flipF t L ba bc]) 0 := by rw [hst]; exact (Bd.new 1 1 1 len).up 0 0 rfl ((Bd.new 1 1 1 len).nx 0 0)
      have hE := Program_done h2 hbd0 (by omega) 0 0 0 gs off cap (by rw [hst]; rfl) (by rw [hst]; show 0 < 1; decide) (by rw [hst]; show 0 < 1; decide) (by rw [hst]; show 0 < 1; decide) (by rw [hst]; rfl) (bs := bs) (srcR st02.grownBy) (by rw [hst]; exact hbl) (by rw [hst]; exact hl.1) hlg
      have hY0 : (layAll (St.new 1 1 1 len) [flipF t L ba bc]).Y = len := by rw [hst]; rfl
      rw [hY0] at hE
      generalize (layAll (St.new 1 1 1 len) [flipF t L ba bc]).doProgram 0 0 0 bs = R5 at hE hO5 e5
      have HE : Hid (Calls Try.prog 17 #[ptr M.a 0, num 0, num 0, num 0, .slice (some ⟨gs, off, none⟩) len cap] w2 (OpPost w2 M lab R5)) := hE
      obtain ⟨A5, r5⟩ := R5
      simp only at e5 hO5
      subst e5
      have HSrc : Hid (∀ {w'}, w.grownBy w' none → Src w' gs off bs) := @srcR
      have hlW : ∀ x, x < W.heap.size → lab x = none := fun x hx => st2.no hx rfl
      clear hE hlg srcR src h2 st2 hst hbd0 hY0 HN Hw hg0
      go_wp2_with fail
      refine HE.out.mono ?_
      rintro e w3 ⟨lab3, rfl, h3, st3⟩
      simp only at h3 ⊢
      have st03 := st02.trans st3
      have hgW3 : W.grownBy w3 none := ⟨st3.os.trans hgW2.os, st3.tape.trans hgW2.tape, st3.output.trans hgW2.output, Nat.le_trans hgW2.size st3.size, fun x hx _ => (st3.same x (Nat.lt_of_lt_of_le hx hgW2.size) (hlW x hx)).trans (hgW2.block x hx (by simp))⟩
      have src3 := HSrc.out st03.grownBy
      obtain ⟨i5, hi5, hy0, hy1, hy2⟩ := info_parts info5
      clear HE st3 hgW2 hlW
      have K1 : Hid ((valsB bs).length = len * 1) := by rw [Hid, valsB_len]; omega
      have K2 : Hid (∀ j u, (valsB bs)[j]? = some u → w3.cell? ((⟨gs, off, none⟩ : Addr).add j) = some u) := by
        have := src3.news bs.length
        rwa [List.take_length] at this
      go_wp2_with (first | (at_builtin; refine wpList_append_lies _ rfl (.tmp 79) (.tmp 80) 35 rfl w3.heap.size 5 i5 (.int .u8 0) 1 1 Try.underlying35 hi5 hy0 hy1 hy2 rfl (by decide) _ 0 [] rfl (World.ownsRow_nil _ _ _ _) ⟨gs, off, none⟩ len cap (valsB bs) rfl K1.out K2.out (valsB_one bs) (by omega) (by unfold maxLen; omega) (by omega) (Nat.le_refl _) _ rfl ?_; intro g4 cap4 w4 hown4 hg4 hat4 hlt4))
      simp only [Nat.zero_add] at hown4 ⊢
      obtain ⟨hg43, T, hrow4⟩ := own_front hown4
      have hg34 : w3.grownBy w4 none := hg4
      have hle : ∀ i, nth bs i ≤ 255 := src3.le
      have HFo : Hid (Try.prog.follows .mixedOrders = true) := follows_mixed
      clear hown4 hg4 hat4 hlt4 K1 K2 src3
      go_wp2_with fail
      go_loopw [15] (fun i wr => ∃ j : Nat, j ≤ L.length ∧ i = num j ∧ w3.grownBy wr none ∧ wr.heap[g4]? = some (.cells (valsB (tbs bs (L.take j)) ++ T).toArray 5)) (fun i _ => L.length - (intOf i).toNat)
      case atStart => exact ⟨0, Nat.zero_le _, rfl, hg34, hrow4⟩
      case round =>
        clear hrow4 hg34
        obtain ⟨j2, hj2, rfl, hgr, hrow⟩ := hrel
        by_cases hjl : j2 < L.length
        · have q5 : (j2 : Int) < (L.length : Int) := by omega
          obtain ⟨gL, hba, hltL, hcL⟩ := HLb.out.resolve_left (fun e => by rw [e] at hjl; simp at hjl)
          have hcj : wr.cell? ⟨gL, j2, none⟩ = some (num (nthI L j2)) := by
            rw [cell_of_block (hgr.block gL (Nat.lt_of_lt_of_le hltL hgW3.size) (by simp)), cell_of_block (hgW3.block gL hltL (by simp))]; exact hcL j2 hjl
          obtain ⟨x0, x1⟩ := hLb j2 hjl
          obtain ⟨X, hX⟩ := Int.eq_ofNat_of_zero_le x0
          have hnext := tbs_next bs L hjl
          rw [hX] at hcj hnext x1
          have hT : (tbs bs (L.take j2)).length = len := (tbs_len _ _).trans hbl
          have hTle := tbs_le (L.take j2) hle
          obtain ⟨Q, eQ⟩ : ∃ Q, Q = tbs bs (L.take j2) := ⟨_, rfl⟩
          rw [← eQ] at hT hTle hrow hnext
          obtain ⟨I, hI⟩ : ∃ I, I = X / 8 := ⟨_, rfl⟩
          obtain ⟨R, hR⟩ : ∃ R, R = X % 8 := ⟨_, rfl⟩
          have eI : (X : Int) / 8 = (I : Int) := by omega
          have eR : Int.tmod (X : Int) 8 = (R : Int) := by rw [Int.tmod_eq_emod_of_nonneg (by omega)]; omega
          have r8 : R < 8 := by omega
          have hx8 : I < len := by omega
          have q6 : (I : Int) < (len : Int) := by omega
          have q7 : IntKind.i64.wrap (I : Int) = (I : Int) := by rw [IntKind.wrap_i64]; omega
          have q8 : IntKind.i64.wrap (R : Int) = (R : Int) := by rw [IntKind.wrap_i64]; omega
          have q9 : (R : Int) ≤ 8 := by omega
          have cc : wr.cell? ⟨g4, I, none⟩ = some (.int .u8 (nth Q I : Nat)) := by rw [cell_row hrow, List.getElem?_append_left (by rw [valsB_len]; omega)]; exact valsB_at (by omega)
          have zz : wr.frozen? ⟨g4, I, none⟩ = false := frozen_row hrow
          have eM : min (IntKind.u64.wrap (R : Int)).toNat 8 = R := by rw [IntKind.wrap_u64]; omega
          have HV : Hid (bits .xor .u8 ((nth Q I : Nat) : Int) ((128 : Int) / (2 : Int) ^ min (IntKind.u64.wrap (R : Int)).toNat 8) = ((nth Q I ^^^ 128 >>> R : Nat) : Int)) := by
            rw [Hid, eM, shrI]; exact xor_u8 (hTle _) (Nat.le_trans (shr_le _) (by decide))
          have HN2 : Hid (w3.grownBy (wr.drew.setCell ⟨g4, I, none⟩ (.int .u8 ((nth Q I ^^^ 128 >>> R : Nat) : Int))) none ∧ (wr.drew.setCell ⟨g4, I, none⟩ (.int .u8 ((nth Q I ^^^ 128 >>> R : Nat) : Int))).heap[g4]? = some (.cells (valsB (tbs bs (L.take (j2 + 1))) ++ T).toArray 5)) := by
            refine ⟨grownBy_setCell (grownBy_drew hgr) (.inl hg43) _, ?_⟩
            rw [setCell_row (w := wr.drew) hrow, set_front Q T (by omega), hnext, hI, hR]
            rfl
          clear hI hR hgr hrow hnext eQ hX hcL eM
          subst hba
          go_wp2_with fail
          go_still_tail 23, HFo.out
          rw [HV.out]
          go_wp2
          go_roundw
          case rel => exact ⟨j2 + 1, by omega, by go_num, HN2.out.1, HN2.out.2⟩
          case measure => simp [intOf]; omega
        · obtain rfl : j2 = L.length := by omega
          have q5 : ¬ (L.length : Int) < (L.length : Int) := by omega
          rw [List.take_length] at hrow
          have hA3 : Arr wr M A5 lab3 := h3.more hgr
          have st3r : Stp (fun _ => none) lab3 w wr := st03.grown hgr
          have hl4 : lab3 g4 = none := h3.fresh hg43
          have hWle := tbs_le L hle
          have hWl : (tbs bs L).length = len := (tbs_len _ _).trans hbl
          obtain ⟨WT, hWT⟩ : ∃ WT, WT = tbs bs L := ⟨_, rfl⟩
          have HWT : Hid (tbs bs L = WT) := hWT.symm
          rw [← hWT] at hrow hWle hWl
          have hbW : ((len : Int) != (len : Int)) = false := by simp
          have hTL : t * L.length ≤ 5 * 20 := Nat.mul_le_mul (by omega) hL20
          have hTL' : IntKind.i64.wrap ((t : Int) * (L.length : Int)) = (t : Int) * (L.length : Int) := by
            have : ((t * L.length : Nat) : Int) ≤ 100 := by omega
            rw [Int.natCast_mul] at this
            have h0 : (0 : Int) ≤ (t : Int) * (L.length : Int) := Int.mul_nonneg (by omega) (by omega)
            rw [IntKind.wrap_i64]; omega
          clear hgr hWT
          go_wp2_with fail
          go_loopw [16] (fun i wq => ∃ (k : Nat) (A : St) (lab' : Lab), k ≤ t + 1 + mm ∧ i = num k ∧ FlR A len t L k bs ∧ Arr wq M A lab' ∧ Stp (fun _ => none) lab' w wq ∧ wq.heap[g4]? = some (.cells (valsB WT ++ T).toArray 5) ∧ lab' g4 = none) (fun i _ => t + 1 + mm - (intOf i).toNat)
          case atStart => exact ⟨0, A5, lab3, Nat.zero_le _, rfl, hO5, hA3, st3r, hrow, hl4⟩
          case round =>
            clear hO5 hA3 st3r hrow hl4 h3 st03 st02
            obtain ⟨k, A, lab', hk, rfl, hO, hA, st, hrow, hl4⟩ := hrel
            by_cases hkl : k < t + 1 + mm
            · have q10 : (k : Int) < (t : Int) + 1 + (mm : Int) := by omega
              have hE := Read_done hA hO.bd (by omega) 0 0 0 hO.on (by rw [hO.d]; decide) (by rw [hO.b]; decide) (by rw [hO.p]; decide) hO.ok (by rw [hO.fl]; simp)
              obtain ⟨eR, hO'⟩ := hO.read (by omega) (by omega) (by omega)
              generalize A.doRead 0 0 0 = R7 at hE eR hO'
              obtain ⟨A7, r7⟩ := R7
              simp only at eR hO'
              subst eR
              rw [HWT.out] at hE
              have HE : Hid (Calls Try.prog 18 #[ptr M.a 0, num 0, num 0, num 0] wr (ReadPost wr M lab' (A7, some (if k < t then WT else bs), 0))) := hE
              have hg4l := lt_of_heap hrow
              clear hE hO hA
              go_wp2_with fail
              refine (HA3.out _).mono ?_
              rintro e wr ⟨rfl, rfl⟩
              go_wp2_with (rw [HM.out])
              refine HE.out.mono ?_
              rintro e w8 ⟨lab8, v8, rfl, h8, st8, hv8⟩
              simp only at h8 hv8 ⊢
              obtain ⟨bs8, g8, e8, rfl, hg8, hl8, hr8, hle8⟩ := hv8.resolve_left (fun e => by cases e.1)
              have e8 := Option.some.inj e8
              have st08 := st.trans st8
              have hrow8 : w8.heap[g4]? = some (.cells (valsB WT ++ T).toArray 5) := (st8.same g4 hg4l hl4).trans hrow
              have hl48 : lab8 g4 = none := st8.no hg4l hl4
              have hcx := conv_ok (w := w8) (Src.of_row hr8 hle8) bs8.length
              have hcw := conv_ok (w := w8) (front_src hrow8 hWle) cap4
              have hcb := conv_ok (w := w8) (HSrc.out st08.grownBy) cap
              rw [hWl] at hcw
              rw [hbl] at hcb
              have HEnd : Hid (FlR A7 len t L (k + 1) bs ∧ Arr w8 M A7 lab8 ∧ Stp (fun _ => none) lab8 w w8 ∧ w8.heap[g4]? = some (.cells (valsB WT ++ T).toArray 5) ∧ lab8 g4 = none) := ⟨hO', h8, st08, hrow8, hl48⟩
              clear hO' h8 st8 st st08 hrow8 hl48 hrow hl4 hr8 hle8 hv8 HE hg8 hl8
              by_cases hkt : k < t
              · rw [if_pos hkt] at e8
                have m1 : (k : Int) < (t : Int) := by omega
                have m2 : ¬ (t : Int) ≤ (k : Int) := by omega
                have m3 : decide ((k : Int) < (t : Int)) = true := by simpa using m1
                have m4 : decide ((t : Int) ≤ (k : Int)) = false := by simpa using m1
                have m5 : decide (k < t) = true := by simpa using hkt
                have m6 : decide (t ≤ k) = false := by simpa using hkt
                subst e8
                rw [hWl] at hcx
                go_wp2_with fail
                exact ⟨⟨k + 1, A7, lab8, by omega, by go_num, HEnd.out.1, HEnd.out.2.1, HEnd.out.2.2.1, HEnd.out.2.2.2.1, HEnd.out.2.2.2.2⟩, by simp [intOf]; omega⟩
              · rw [if_neg hkt] at e8
                have m1 : ¬ (k : Int) < (t : Int) := by omega
                have m2 : (t : Int) ≤ (k : Int) := by omega
                have m3 : decide ((k : Int) < (t : Int)) = false := by simpa using m1
                have m4 : decide ((t : Int) ≤ (k : Int)) = true := by simpa using m2
                have m5 : decide (k < t) = false := by simpa using hkt
                have m6 : decide (t ≤ k) = true := by simp; omega
                subst e8
                rw [hbl] at hcx
                go_wp2_with fail
                exact ⟨⟨k + 1, A7, lab8, by omega, by go_num, HEnd.out.1, HEnd.out.2.1, HEnd.out.2.2.1, HEnd.out.2.2.2.1, HEnd.out.2.2.2.2⟩, by simp [intOf]; omega⟩
            · obtain rfl : k = t + 1 + mm := by omega
              have q10 : ¬ ((t + 1 + mm : Nat) : Int) < (t : Int) + 1 + (mm : Int) := by omega
              have hc3 : A.cnt 3 = (t : Int) * (L.length : Int) := by
                rw [hO.c3, show min (t + 1 + mm) t = t by omega, Int.natCast_mul]
              have hEv := events_ok hA
              unfold evV at hEv
              rw [hc3] at hEv
              have HE : Hid (Calls Try.prog 22 #[ptr M.a 0] wr fun e w' => e = .returned (.agg #[num (A.cnt 0), num (A.cnt 1), num (A.cnt 2), num ((t : Int) * (L.length : Int)), num (A.cnt 4), num (A.cnt 5)]) ∧ wr.grownBy w' none) := hEv
              have m1 : ((t : Int) * (L.length : Int) == (t : Int) * (L.length : Int)) = true := by simp
              clear hEv hc3 hO hrow hl4
              go_wp2_with fail
              refine (HA3.out _).mono ?_
              rintro e wr ⟨rfl, rfl⟩
              go_wp2_with (rw [HM.out])
              refine HE.out.mono ?_
              rintro e w9 ⟨rfl, hg9⟩
              have hfd := field3 (A.cnt 0) (A.cnt 1) (A.cnt 2) ((t : Int) * (L.length : Int)) (A.cnt 4) (A.cnt 5) w9
              go_wp2
              go_ret
              exact ⟨ret_bool (by simp), grownBy_trans st.grownBy hg9⟩
end Nd
end Go.Proofs.Ytojamicakkecbaa
