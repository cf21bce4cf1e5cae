/- bent of no parity: its walk. -/
import Derived.Test.YtiojdoehlooibaaDoorZBw
namespace Go.Proofs.YtiojdoehlooibaaDoor
open Go.RowKit
namespace Gf
/-- What holds while bits are turned: a row of one's own. -/
structure BnRel (w wr : World) (g1 : Nat) (D : List Nat) (T1 : List Value) : Prop where
  at1 : wr.heap[g1]? = some (.cells (valsB D ++ T1).toArray 5)
  new1 : w.heap.size ≤ g1
  grown : w.grownBy wr none
theorem BnRel.store {w wr : World} {g1 : Nat} {D : List Nat} {T1 : List Value} (h : BnRel w wr g1 D T1) {i v : Nat} (hi : i < D.length) : BnRel w (wr.setCell ⟨g1, i, none⟩ (.int .u8 (v : Nat))) g1 (D.set i v) T1 :=
  ⟨by
    have := setCell_row (i := i) h.at1 (.int .u8 (v : Nat))
    rw [List.set_append_left _ _ (by rw [valsB_len]; exact hi), valsB_set] at this
    exact this, h.new1, grownBy_setCell h.grown (.inl h.new1) _⟩
theorem BnRel.cell {w wr : World} {g1 : Nat} {D : List Nat} {T1 : List Value} (h : BnRel w wr g1 D T1) {i : Nat} (hi : i < D.length) : wr.cell? ⟨g1, i, none⟩ = some (.int .u8 (nth D i : Nat)) ∧ wr.frozen? ⟨g1, i, none⟩ = false :=
  ⟨by rw [cell_row h.at1, List.getElem?_append_left (by rw [valsB_len]; exact hi), valsB_at hi], frozen_row h.at1⟩
/-- A row of bytes of the same length. -/
structure BnIs (ds D : List Nat) : Prop where
  ld : D.length = ds.length
  bd : ∀ i, nth D i ≤ 255
theorem BnIs.dat {ds D : List Nat} {i k : Nat} (h : BnIs ds D) (_ : i < ds.length) (hk : k < 8) : BnIs ds (D.set i (nth D i ^^^ 2 ^ k)) := ⟨by rw [List.length_set, h.ld], nth_set_le h.bd _ (xor_byte (h.bd i) (two_le hk))⟩
/-- What bent answers. -/
def BentNPost (w : World) (ds : List Nat) (e : Ending) (w' : World) : Prop := ∃ g1 c1 D T1, e = .returned (.tuple #[.slice (some ⟨g1, 0, none⟩) ds.length c1, .slice none 0 0]) ∧ BnRel w w' g1 D T1 ∧ BnIs ds D
set_option maxHeartbeats 3200000 in
set_option maxRecDepth 4000 in
theorem bentNil_ok {w : World} (ad ax : Option Addr) (cd cx : Nat) (ds : List Nat) (xs : List Int) (hd : RdB w ad ds) (hx : Arg w ax xs.length xs) (d1 : 1 ≤ ds.length) (d2 : ds.length ≤ 1000) (hxl : xs.length ≤ 17592186044416) :
    Calls Tryd.prog 20 #[.slice ad ds.length cd, .slice none 0 0, .slice ax xs.length cx] w fun e w' => BentNPost w ds e w' := by
  obtain ⟨i0, hi, hz0, hz1, hz2⟩ := info_parts Tryd.info5
  obtain ⟨gd, od, rfl, hcd⟩ := hd.2.resolve_left (fun e => by rw [e] at d1; simp at d1)
  have HCd : Hid _ := news_of_rd hcd
  go_enter Tryd.func20, Tryd.ntmps20
  go_wp2_with (first | (at_builtin; refine wpList_append_own _ rfl (.tmp 13) (.tmp 14) 35 rfl w.heap.size 5 i0 (.int .u8 0) 1 1 Tryd.underlying35 hi hz0 hz1 hz2 rfl (by decide) _ _ _ rfl (World.ownsRow_nil _ _ _ _) ⟨gd, od, none⟩ ds.length cd (valsB ds) rfl (by rw [valsB_len]; omega) ?c1 ?c2 ?c3 ?c4 ?c5 ?_))
  case c1 => exact HCd.out
  case c2 => exact valsB_one ds
  case c3 => unfold maxLen; omega
  case c4 => omega
  case c5 => exact Nat.le_refl _
  intro v1 w2 hown hgrow _
  have hg2 : w.grownBy w2 none := hgrow
  obtain ⟨g1, c1, T1, rfl, hb1, hh1⟩ := own_parts (l := ds) (by simpa using hown) (by omega) (by omega)
  have hB0 : BnRel w w2 g1 ds T1 := ⟨hh1, hb1, hg2⟩
  clear hown hgrow HCd hh1 hg2 hb1
  have b1 : (ds.length : Int) ≤ 1000 := by omega
  go_wp2_with fail
  obtain ⟨NN, hNN⟩ : ∃ NN, NN = 8 * ds.length := ⟨_, rfl⟩
  have HNN : Hid ((8 : Int) * (ds.length : Int) = (NN : Int)) := by rw [Hid]; omega
  rw [HNN.out]
  have bNN2 : (NN : Int) ≤ 16000 := by omega
  have bNN3 : (0 : Int) < (NN : Int) := by omega
  have bx : (xs.length : Int) ≤ 17592186044416 := by omega
  have nn1 : NN ≤ 8 * ds.length := by omega
  have nn2 : 8 * ds.length ≤ NN := by omega
  clear hNN
  have hB00 : BnIs ds ds := ⟨rfl, hd.1⟩
  go_loopw [11] (fun v wr => ∃ (j : Nat) (D : List Nat), j ≤ xs.length ∧ j ≤ 12 ∧ v = num j ∧ BnRel w wr g1 D T1 ∧ BnIs ds D) (fun v _ => xs.length - (intOf v).toNat)
  case atStart => exact ⟨0, ds, Nat.zero_le _, by omega, rfl, hB0, hB00⟩
  case round =>
    clear hB0 hB00
    obtain ⟨j, D, hj, hj12, rfl, hB, hBn⟩ := hrel
    by_cases hlt : j < xs.length
    · have bj : (j : Int) < (xs.length : Int) := by omega
      by_cases h12 : j < 12
      · have bj12 : (j : Int) < 12 := by omega
        obtain ⟨gx, ox, hax, hcx⟩ := hx.2.2.resolve_left (fun e => by rw [e] at hlt; simp at hlt)
        subst hax
        have ck : wr.cell? ⟨gx, ox + j, none⟩ = some (num (nthI xs j)) := by
          rw [World.cell?_of_block (w := w) (a := ⟨gx, ox + j, none⟩) (hB.grown.block gx (lt_of_cell (hcx j hlt)) (by simp))]; exact hcx j hlt
        have hxi : I64 (nthI xs j) := by rw [nthI_of hlt]; exact hx.2.1 _ (List.getElem_mem hlt)
        obtain ⟨x, hxe⟩ : ∃ x, x = nthI xs j := ⟨_, rfl⟩
        rw [← hxe] at ck hxi
        obtain ⟨x1, x2⟩ := hxi
        clear hxe hcx
        by_cases hneg : x < 0
        · obtain ⟨U, hU⟩ := Int.eq_ofNat_of_zero_le (show 0 ≤ -(x + 1) by omega)
          have hte : x = -(U : Int) - 1 := by omega
          subst hte
          clear hU
          have HK : Hid _ := Nat.mod_lt U (show 0 < NN by omega)
          obtain ⟨K, hK⟩ : ∃ K, K = U % NN := ⟨_, rfl⟩
          have eK : (U : Int) % (NN : Int) = (K : Int) := by rw [hK]; simp
          rw [← hK] at HK
          have hKN : K < NN := HK.out
          clear hK HK
          have bNN : (1 : Int) ≤ (NN : Int) := by omega
          have bNN0 : ((NN : Int) == 0) = false := by simp; omega
          · have bK : (K : Int) < 8 * (ds.length : Int) := by omega
            have hlD := hBn.ld
            obtain ⟨cc, zz⟩ := hB.cell (i := K / 8) (by omega)
            have hk8 : K % 8 < 8 := Nat.mod_lt _ (by decide)
            have hBn2 := hBn.dat (i := K / 8) (k := K % 8) (by omega) hk8
            have hB2 := hB.store (i := K / 8) (v := nth D (K / 8) ^^^ 2 ^ (K % 8)) (by omega)
            have hle := hBn.bd (K / 8)
            have hxo := xor_u8 hle (two_le hk8)
            have hpw := u8_pow hk8
            obtain ⟨PW, hPW⟩ : ∃ PW, PW = 2 ^ (K % 8) := ⟨_, rfl⟩
            rw [← hPW] at hBn2 hB2 hxo hpw
            have hPl : PW ≤ 255 := by rw [hPW]; exact two_le hk8
            obtain ⟨A, hA⟩ : ∃ A, A = nth D (K / 8) := ⟨_, rfl⟩
            rw [← hA] at cc hBn2 hB2 hxo hle
            have HXo : Hid _ := hxo
            have HPw : Hid _ := hpw
            clear hpw
            clear hA hPW hB hBn hxo
            go_wp2_with fail
            go_roundw
            case rel => exact ⟨j + 1, _, by omega, by omega, by go_num, by rw [HPw.out, HXo.out]; exact hB2, hBn2⟩
            case measure => simp [intOf]; omega
        · obtain ⟨U, rfl⟩ := Int.eq_ofNat_of_zero_le (show 0 ≤ x by omega)
          have HK : Hid _ := Nat.mod_lt U (show 0 < NN by omega)
          obtain ⟨K, hK⟩ : ∃ K, K = U % NN := ⟨_, rfl⟩
          have eK : (U : Int) % (NN : Int) = (K : Int) := by rw [hK]; simp
          rw [← hK] at HK
          have hKN : K < NN := HK.out
          clear hK HK
          have bNN : (1 : Int) ≤ (NN : Int) := by omega
          have bNN0 : ((NN : Int) == 0) = false := by simp; omega
          · have bK : (K : Int) < 8 * (ds.length : Int) := by omega
            have hlD := hBn.ld
            obtain ⟨cc, zz⟩ := hB.cell (i := K / 8) (by omega)
            have hk8 : K % 8 < 8 := Nat.mod_lt _ (by decide)
            have hBn2 := hBn.dat (i := K / 8) (k := K % 8) (by omega) hk8
            have hB2 := hB.store (i := K / 8) (v := nth D (K / 8) ^^^ 2 ^ (K % 8)) (by omega)
            have hle := hBn.bd (K / 8)
            have hxo := xor_u8 hle (two_le hk8)
            have hpw := u8_pow hk8
            obtain ⟨PW, hPW⟩ : ∃ PW, PW = 2 ^ (K % 8) := ⟨_, rfl⟩
            rw [← hPW] at hBn2 hB2 hxo hpw
            have hPl : PW ≤ 255 := by rw [hPW]; exact two_le hk8
            obtain ⟨A, hA⟩ : ∃ A, A = nth D (K / 8) := ⟨_, rfl⟩
            rw [← hA] at cc hBn2 hB2 hxo hle
            have HXo : Hid _ := hxo
            have HPw : Hid _ := hpw
            clear hpw
            clear hA hPW hB hBn hxo
            go_wp2_with fail
            go_roundw
            case rel => exact ⟨j + 1, _, by omega, by omega, by go_num, by rw [HPw.out, HXo.out]; exact hB2, hBn2⟩
            case measure => simp [intOf]; omega
      · have bj12 : ¬ (j : Int) < 12 := by omega
        go_wp2_with fail
        go_ret2
        exact ⟨g1, c1, D, T1, rfl, hB, hBn⟩
    · have bj : ¬ (j : Int) < (xs.length : Int) := by omega
      go_wp2_with fail
      go_ret2
      exact ⟨g1, c1, D, T1, rfl, hB, hBn⟩
end Gf
end Go.Proofs.YtiojdoehlooibaaDoor
