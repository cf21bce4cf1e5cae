/- bent: its walk. -/
import Derived.Test.YtiojdoehlooibaaDoorZBe
import Derived.Test.YtiojdoehlooibaaDoorZLay2
namespace Go.Proofs.YtiojdoehlooibaaDoor
open Go.RowKit
namespace Gf
/-- What holds while bits are turned: two rows of one's own. -/
structure BeRel (w wr : World) (g1 g2 : Nat) (D P : List Nat) (T1 T2 : List Value) : Prop where
  at1 : wr.heap[g1]? = some (.cells (valsB D ++ T1).toArray 5)
  at2 : wr.heap[g2]? = some (.cells (valsB P ++ T2).toArray 5)
  ne : g1 ≠ g2
  new1 : w.heap.size ≤ g1
  new2 : w.heap.size ≤ g2
  grown : w.grownBy wr none
theorem BeRel.store1 {w wr : World} {g1 g2 : Nat} {D P : List Nat} {T1 T2 : List Value} (h : BeRel w wr g1 g2 D P T1 T2) {i v : Nat} (hi : i < D.length) : BeRel w (wr.setCell ⟨g1, i, none⟩ (.int .u8 (v : Nat))) g1 g2 (D.set i v) P T1 T2 :=
  ⟨by
    have := setCell_row (i := i) h.at1 (.int .u8 (v : Nat))
    rw [List.set_append_left _ _ (by rw [valsB_len]; exact hi), valsB_set] at this
    exact this, by rw [setCell_else h.ne.symm]; exact h.at2, h.ne, h.new1, h.new2, grownBy_setCell h.grown (.inl h.new1) _⟩
theorem BeRel.store2 {w wr : World} {g1 g2 : Nat} {D P : List Nat} {T1 T2 : List Value} (h : BeRel w wr g1 g2 D P T1 T2) {i v : Nat} (hi : i < P.length) : BeRel w (wr.setCell ⟨g2, i, none⟩ (.int .u8 (v : Nat))) g1 g2 D (P.set i v) T1 T2 :=
  ⟨by rw [setCell_else h.ne]; exact h.at1, by
    have := setCell_row (i := i) h.at2 (.int .u8 (v : Nat))
    rw [List.set_append_left _ _ (by rw [valsB_len]; exact hi), valsB_set] at this
    exact this, h.ne, h.new1, h.new2, grownBy_setCell h.grown (.inl h.new2) _⟩
theorem BeRel.cell1 {w wr : World} {g1 g2 : Nat} {D P : List Nat} {T1 T2 : List Value} (h : BeRel w wr g1 g2 D P T1 T2) {i : Nat} (hi : i < D.length) : wr.cell? ⟨g1, i, none⟩ = some (.int .u8 (nth D i : Nat)) ∧ wr.frozen? ⟨g1, i, none⟩ = false :=
  ⟨by rw [cell_row h.at1, List.getElem?_append_left (by rw [valsB_len]; exact hi), valsB_at hi], frozen_row h.at1⟩
theorem BeRel.cell2 {w wr : World} {g1 g2 : Nat} {D P : List Nat} {T1 T2 : List Value} (h : BeRel w wr g1 g2 D P T1 T2) {i : Nat} (hi : i < P.length) : wr.cell? ⟨g2, i, none⟩ = some (.int .u8 (nth P i : Nat)) ∧ wr.frozen? ⟨g2, i, none⟩ = false :=
  ⟨by rw [cell_row h.at2, List.getElem?_append_left (by rw [valsB_len]; exact hi), valsB_at hi], frozen_row h.at2⟩
/-- What bent answers. -/
def BentPost (w : World) (ds ps : List Nat) (n : Nat) (e : Ending) (w' : World) : Prop := ∃ g1 g2 c1 c2 D P T1 T2, e = .returned (.tuple #[.slice (some ⟨g1, 0, none⟩) ds.length c1, .slice (some ⟨g2, 0, none⟩) ps.length c2]) ∧ BeRel w w' g1 g2 D P T1 T2 ∧ Bent ds ps D P n
theorem own_parts {w : World} {B n : Nat} {v : Value} {l : List Nat} (h : w.ownsRow B 5 1 v n (valsB l)) (hn : 1 ≤ n) (hl : l.length = n) : ∃ g cap T, v = .slice (some ⟨g, 0, none⟩) n cap ∧ B ≤ g ∧ w.heap[g]? = some (.cells (valsB l ++ T).toArray 5) := by
  rcases h.2 with ⟨_, h0⟩ | ⟨g, cap, cur, rfl, hg, hh, hle, _, hcs, ht⟩
  · omega
  · refine ⟨g, cap, cur.toList.drop n, rfl, hg, ?_⟩
    rw [Nat.mul_one] at ht
    rw [hh, ← ht, List.take_append_drop]
theorem news_of_rd {w : World} {g off : Nat} {bs : List Nat} (h : ∀ i, i < bs.length → w.cell? ⟨g, off + i, none⟩ = some (.int .u8 (nth bs i : Nat))) : ∀ j u, (valsB bs)[j]? = some u → w.cell? ((⟨g, off, none⟩ : Addr).add j) = some u := fun j u hj => by
  have hjl : j < bs.length := by
    have := (List.getElem?_eq_some_iff.1 hj).1
    rwa [valsB_len] at this
  rw [valsB_at hjl] at hj
  rw [addr_add', h j hjl, hj]
theorem u8_pow {k : Nat} (hk : k < 8) : (2 : Int) ^ k % 256 = ((2 ^ k : Nat) : Int) := by
  have h1 := two_le hk
  have e : ((2 : Int) ^ k) = ((2 ^ k : Nat) : Int) := by simp
  obtain ⟨q, hq⟩ : ∃ q, q = 2 ^ k := ⟨_, rfl⟩
  rw [e, ← hq]
  rw [← hq] at h1
  omega
set_option maxHeartbeats 3200000 in
set_option maxRecDepth 4000 in
theorem bent_ok {w : World} (ad ap ax : Option Addr) (cd cp cx : Nat) (ds ps : List Nat) (xs : List Int) (hd : RdB w ad ds) (hp : RdB w ap ps) (hx : Arg w ax xs.length xs) (d1 : 1 ≤ ds.length) (p1 : 1 ≤ ps.length) (d2 : ds.length ≤ 1000) (p2 : ps.length ≤ 1000) (hxl : xs.length ≤ 17592186044416) :
    Calls Tryd.prog 20 #[.slice ad ds.length cd, .slice ap ps.length cp, .slice ax xs.length cx] w fun e w' => BentPost w ds ps (min xs.length 12) e w' := by
  obtain ⟨i0, hi, hz0, hz1, hz2⟩ := info_parts Tryd.info5
  obtain ⟨gd, od, rfl, hcd⟩ := hd.2.resolve_left (fun e => by rw [e] at d1; simp at d1)
  obtain ⟨gp, op, rfl, hcp⟩ := hp.2.resolve_left (fun e => by rw [e] at p1; simp at p1)
  have hgp := lt_of_cell (hcp 0 (by omega))
  have HCd : Hid _ := news_of_rd hcd
  go_enter Tryd.func20, Tryd.ntmps20
  go_wp2_with (first | (at_builtin; refine wpList_append_own _ rfl (.tmp 13) (.tmp 14) 35 rfl w.heap.size 5 i0 (.int .u8 0) 1 1 Tryd.underlying35 hi hz0 hz1 hz2 rfl (by decide) _ _ _ rfl (World.ownsRow_nil _ _ _ _) ⟨gd, od, none⟩ ds.length cd (valsB ds) rfl (by rw [valsB_len]; omega) ?c1 ?c2 ?c3 ?c4 ?c5 ?_))
  case c1 => exact HCd.out
  case c2 => exact valsB_one ds
  case c3 => unfold maxLen; omega
  case c4 => omega
  case c5 => exact Nat.le_refl _
  intro v1 w2 hown hgrow _
  have hg2 : w.grownBy w2 none := hgrow
  obtain ⟨g1, c1, T1, rfl, hb1, hh1⟩ := own_parts (l := ds) (by simpa using hown) (by omega) (by omega)
  have HCp : Hid _ := news_of_rd (w := w2) (g := gp) (off := op) (bs := ps) (fun i hi' => by
    rw [World.cell?_of_block (w := w) (a := ⟨gp, op + i, none⟩) (hg2.block gp (lt_of_cell (hcp i hi')) (by simp))]; exact hcp i hi')
  clear hown hgrow HCd
  go_wp2_with (first | (at_builtin; refine wpList_append_own _ rfl (.tmp 16) (.tmp 17) 35 rfl w2.heap.size 5 i0 (.int .u8 0) 1 1 Tryd.underlying35 hi hz0 hz1 hz2 rfl (by decide) _ _ _ rfl (World.ownsRow_nil _ _ _ _) ⟨gp, op, none⟩ ps.length cp (valsB ps) rfl (by rw [valsB_len]; omega) ?c1 ?c2 ?c3 ?c4 ?c5 ?_))
  case c1 => exact HCp.out
  case c2 => exact valsB_one ps
  case c3 => unfold maxLen; omega
  case c4 => omega
  case c5 => exact Nat.le_refl _
  intro v2 w3 hown hgrow _
  have hg3 : w2.grownBy w3 none := hgrow
  obtain ⟨g2, c2, T2, rfl, hb2, hh2⟩ := own_parts (l := ps) (by simpa using hown) (by omega) (by omega)
  have hB0 : BeRel w w3 g1 g2 ds ps T1 T2 := ⟨by rw [hg3.block g1 (lt_of_heap hh1) (by simp)]; exact hh1, hh2, by have := lt_of_heap hh1; omega, hb1, by have := hg2.size; omega, grownBy_trans hg2 hg3⟩
  clear hown hgrow HCp hh1 hh2 hg2 hg3 hb1 hb2
  have b1 : (ds.length : Int) ≤ 1000 := by omega
  have b2 : (ps.length : Int) ≤ 1000 := by omega
  go_wp2_with fail
  obtain ⟨NN, hNN⟩ : ∃ NN, NN = 8 * (ds.length + ps.length) := ⟨_, rfl⟩
  have HNN : Hid ((8 : Int) * ((ds.length : Int) + (ps.length : Int)) = (NN : Int)) := by rw [Hid]; omega
  rw [HNN.out]
  have bNN2 : (NN : Int) ≤ 16000 := by omega
  have bNN3 : (0 : Int) < (NN : Int) := by omega
  have bx : (xs.length : Int) ≤ 17592186044416 := by omega
  have nn1 : NN ≤ 8 * (ds.length + ps.length) := by omega
  have nn2 : 8 * (ds.length + ps.length) ≤ NN := by omega
  clear hNN
  have hB00 : Bent ds ps ds ps 0 := Bent.start hd.1 hp.1
  go_loopw [11] (fun v wr => ∃ (j : Nat) (D P : List Nat), j ≤ xs.length ∧ j ≤ 12 ∧ v = num j ∧ BeRel w wr g1 g2 D P T1 T2 ∧ Bent ds ps D P j) (fun v _ => xs.length - (intOf v).toNat)
  case atStart => exact ⟨0, ds, ps, Nat.zero_le _, by omega, rfl, hB0, hB00⟩
  case round =>
    clear hB0 hB00
    obtain ⟨j, D, P, hj, hj12, rfl, hB, hBn⟩ := hrel
    by_cases hlt : j < xs.length
    · have bj : (j : Int) < (xs.length : Int) := by omega
      by_cases h12 : j < 12
      · have bj12 : (j : Int) < 12 := by omega
        obtain ⟨gx, ox, hax, hcx⟩ := hx.2.2.resolve_left (fun e => by rw [e] at hlt; simp at hlt)
        subst hax
        have ck : wr.cell? ⟨gx, ox + j, none⟩ = some (num (nthI xs j)) := by
          rw [World.cell?_of_block (w := w) (a := ⟨gx, ox + j, none⟩) (hB.grown.block gx (lt_of_cell (hcx j hlt)) (by simp))]; exact hcx j hlt
        have hxi : I64 (nthI xs j) := by rw [nthI_of hlt]; exact hx.2.1 _ (List.getElem_mem hlt)
        obtain ⟨x, hxe⟩ : ∃ x, x = nthI xs j := ⟨_, rfl⟩
        rw [← hxe] at ck hxi
        obtain ⟨x1, x2⟩ := hxi
        clear hxe hcx
        by_cases hneg : x < 0
        · obtain ⟨U, hU⟩ := Int.eq_ofNat_of_zero_le (show 0 ≤ -(x + 1) by omega)
          have hte : x = -(U : Int) - 1 := by omega
          subst hte
          clear hU
          have HK : Hid _ := Nat.mod_lt U (show 0 < NN by omega)
          obtain ⟨K, hK⟩ : ∃ K, K = U % NN := ⟨_, rfl⟩
          have eK : (U : Int) % (NN : Int) = (K : Int) := by rw [hK]; simp
          rw [← hK] at HK
          have hKN : K < NN := HK.out
          clear hK HK
          have bNN : (1 : Int) ≤ (NN : Int) := by omega
          have bNN0 : ((NN : Int) == 0) = false := by simp; omega
          by_cases hKd : K < 8 * ds.length
          · have bK : (K : Int) < 8 * (ds.length : Int) := by omega
            have hlD := hBn.ld
            obtain ⟨cc, zz⟩ := hB.cell1 (i := K / 8) (by omega)
            have hk8 : K % 8 < 8 := Nat.mod_lt _ (by decide)
            have hBn2 := hBn.dat (i := K / 8) (k := K % 8) (by omega) hk8
            have hB2 := hB.store1 (i := K / 8) (v := nth D (K / 8) ^^^ 2 ^ (K % 8)) (by omega)
            have hle := hBn.bd (K / 8)
            have hxo := xor_u8 hle (two_le hk8)
            have hpw := u8_pow hk8
            obtain ⟨PW, hPW⟩ : ∃ PW, PW = 2 ^ (K % 8) := ⟨_, rfl⟩
            rw [← hPW] at hBn2 hB2 hxo hpw
            have hPl : PW ≤ 255 := by rw [hPW]; exact two_le hk8
            obtain ⟨A, hA⟩ : ∃ A, A = nth D (K / 8) := ⟨_, rfl⟩
            rw [← hA] at cc hBn2 hB2 hxo hle
            have HXo : Hid _ := hxo
            have HPw : Hid _ := hpw
            clear hpw
            clear hA hPW hB hBn hxo
            go_wp2_with fail
            go_roundw
            case rel => exact ⟨j + 1, _, _, by omega, by omega, by go_num, by rw [HPw.out, HXo.out]; exact hB2, hBn2⟩
            case measure => simp [intOf]; omega
          · have bK : ¬ (K : Int) < 8 * (ds.length : Int) := by omega
            have hlP := hBn.lp
            obtain ⟨K2, hK2⟩ : ∃ K2, K2 = K - 8 * ds.length := ⟨_, rfl⟩
            have eK2 : (K : Int) - 8 * (ds.length : Int) = (K2 : Int) := by omega
            obtain ⟨cc, zz⟩ := hB.cell2 (i := K2 / 8) (by omega)
            have hk8 : K2 % 8 < 8 := Nat.mod_lt _ (by decide)
            have hBn2 := hBn.par (i := K2 / 8) (k := K2 % 8) (by omega) hk8
            have hB2 := hB.store2 (i := K2 / 8) (v := nth P (K2 / 8) ^^^ 2 ^ (K2 % 8)) (by omega)
            have hle := hBn.bp (K2 / 8)
            have hxo := xor_u8 hle (two_le hk8)
            have hpw := u8_pow hk8
            have hK2l : K2 / 8 < ps.length := by omega
            have bK2 : ((K2 / 8 : Nat) : Int) < (ps.length : Int) := by omega
            obtain ⟨PW, hPW⟩ : ∃ PW, PW = 2 ^ (K2 % 8) := ⟨_, rfl⟩
            rw [← hPW] at hBn2 hB2 hxo hpw
            have hPl : PW ≤ 255 := by rw [hPW]; exact two_le hk8
            obtain ⟨A, hA⟩ : ∃ A, A = nth P (K2 / 8) := ⟨_, rfl⟩
            rw [← hA] at cc hBn2 hB2 hxo hle
            have HXo : Hid _ := hxo
            have HPw : Hid _ := hpw
            clear hpw
            clear hA hPW hB hBn hxo hK2
            go_wp2_with fail
            go_roundw
            case rel => exact ⟨j + 1, _, _, by omega, by omega, by go_num, by rw [HPw.out, HXo.out]; exact hB2, hBn2⟩
            case measure => simp [intOf]; omega
        · obtain ⟨U, rfl⟩ := Int.eq_ofNat_of_zero_le (show 0 ≤ x by omega)
          have HK : Hid _ := Nat.mod_lt U (show 0 < NN by omega)
          obtain ⟨K, hK⟩ : ∃ K, K = U % NN := ⟨_, rfl⟩
          have eK : (U : Int) % (NN : Int) = (K : Int) := by rw [hK]; simp
          rw [← hK] at HK
          have hKN : K < NN := HK.out
          clear hK HK
          have bNN : (1 : Int) ≤ (NN : Int) := by omega
          have bNN0 : ((NN : Int) == 0) = false := by simp; omega
          by_cases hKd : K < 8 * ds.length
          · have bK : (K : Int) < 8 * (ds.length : Int) := by omega
            have hlD := hBn.ld
            obtain ⟨cc, zz⟩ := hB.cell1 (i := K / 8) (by omega)
            have hk8 : K % 8 < 8 := Nat.mod_lt _ (by decide)
            have hBn2 := hBn.dat (i := K / 8) (k := K % 8) (by omega) hk8
            have hB2 := hB.store1 (i := K / 8) (v := nth D (K / 8) ^^^ 2 ^ (K % 8)) (by omega)
            have hle := hBn.bd (K / 8)
            have hxo := xor_u8 hle (two_le hk8)
            have hpw := u8_pow hk8
            obtain ⟨PW, hPW⟩ : ∃ PW, PW = 2 ^ (K % 8) := ⟨_, rfl⟩
            rw [← hPW] at hBn2 hB2 hxo hpw
            have hPl : PW ≤ 255 := by rw [hPW]; exact two_le hk8
            obtain ⟨A, hA⟩ : ∃ A, A = nth D (K / 8) := ⟨_, rfl⟩
            rw [← hA] at cc hBn2 hB2 hxo hle
            have HXo : Hid _ := hxo
            have HPw : Hid _ := hpw
            clear hpw
            clear hA hPW hB hBn hxo
            go_wp2_with fail
            go_roundw
            case rel => exact ⟨j + 1, _, _, by omega, by omega, by go_num, by rw [HPw.out, HXo.out]; exact hB2, hBn2⟩
            case measure => simp [intOf]; omega
          · have bK : ¬ (K : Int) < 8 * (ds.length : Int) := by omega
            have hlP := hBn.lp
            obtain ⟨K2, hK2⟩ : ∃ K2, K2 = K - 8 * ds.length := ⟨_, rfl⟩
            have eK2 : (K : Int) - 8 * (ds.length : Int) = (K2 : Int) := by omega
            obtain ⟨cc, zz⟩ := hB.cell2 (i := K2 / 8) (by omega)
            have hk8 : K2 % 8 < 8 := Nat.mod_lt _ (by decide)
            have hBn2 := hBn.par (i := K2 / 8) (k := K2 % 8) (by omega) hk8
            have hB2 := hB.store2 (i := K2 / 8) (v := nth P (K2 / 8) ^^^ 2 ^ (K2 % 8)) (by omega)
            have hle := hBn.bp (K2 / 8)
            have hxo := xor_u8 hle (two_le hk8)
            have hpw := u8_pow hk8
            have hK2l : K2 / 8 < ps.length := by omega
            have bK2 : ((K2 / 8 : Nat) : Int) < (ps.length : Int) := by omega
            obtain ⟨PW, hPW⟩ : ∃ PW, PW = 2 ^ (K2 % 8) := ⟨_, rfl⟩
            rw [← hPW] at hBn2 hB2 hxo hpw
            have hPl : PW ≤ 255 := by rw [hPW]; exact two_le hk8
            obtain ⟨A, hA⟩ : ∃ A, A = nth P (K2 / 8) := ⟨_, rfl⟩
            rw [← hA] at cc hBn2 hB2 hxo hle
            have HXo : Hid _ := hxo
            have HPw : Hid _ := hpw
            clear hpw
            clear hA hPW hB hBn hxo hK2
            go_wp2_with fail
            go_roundw
            case rel => exact ⟨j + 1, _, _, by omega, by omega, by go_num, by rw [HPw.out, HXo.out]; exact hB2, hBn2⟩
            case measure => simp [intOf]; omega
      · have bj12 : ¬ (j : Int) < 12 := by omega
        have hm : min xs.length 12 = j := by omega
        have HM : Hid _ := hm
        clear hm
        go_wp2_with fail
        go_ret2
        exact ⟨g1, g2, c1, c2, D, P, T1, T2, rfl, hB, by rw [HM.out]; exact hBn⟩
    · have bj : ¬ (j : Int) < (xs.length : Int) := by omega
      have hm : min xs.length 12 = j := by omega
      have HM : Hid _ := hm
      clear hm
      go_wp2_with fail
      go_ret2
      exact ⟨g1, g2, c1, c2, D, P, T1, T2, rfl, hB, by rw [HM.out]; exact hBn⟩
end Gf
end Go.Proofs.YtiojdoehlooibaaDoor
