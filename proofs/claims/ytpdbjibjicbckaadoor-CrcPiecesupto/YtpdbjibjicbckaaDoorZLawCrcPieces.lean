/- The walk of CrcPieces. -/
import Derived.Test.YtpdbjibjicbckaaDoorZXi
import Derived.Deep.Matrix
namespace Go.Proofs.YtpdbjibjicbckaaDoor
open Go.ChangeShapes Go.WideShapes Go.ChangeAt Go.RowKit
namespace Cr
/-- A piece: where it lies, its room, its bytes. -/
abbrev Piece := Option Addr × Nat × List Nat
def noPiece : Piece := (none, 0, [])
def nthP (xs : List Piece) (i : Nat) : Piece := xs.getD i noPiece
/-- An argument that is a slice of slices of bytes. -/
def ArgP (w : World) (ao : Option Addr) (len : Nat) (xs : List Piece) : Prop :=
  xs.length = len ∧ (xs = [] ∨ ∃ g off, ao = some ⟨g, off, none⟩ ∧ ∀ i, i < xs.length → w.cell? ⟨g, off + i, none⟩ = some (.slice (nthP xs i).1 (nthP xs i).2.2.length (nthP xs i).2.1)) ∧
    ∀ i, i < xs.length → RdB w (nthP xs i).1 (nthP xs i).2.2 ∧ ((nthP xs i).1 = none → (nthP xs i).2.1 = 0)
def catP (xs : List Piece) : List Nat := xs.flatMap (fun p => p.2.2)
theorem catP_snoc (xs : List Piece) {i : Nat} (hi : i < xs.length) : catP (xs.take (i + 1)) = catP (xs.take i) ++ (nthP xs i).2.2 := by
  have h1 : xs.take (i + 1) = xs.take i ++ [nthP xs i] := by
    rw [← List.take_append_getElem hi]
    simp [nthP, hi]
  rw [catP, h1, List.flatMap_append]
  simp [catP]
theorem catP_take_le (xs : List Piece) (i : Nat) : (catP (xs.take i)).length ≤ (catP xs).length := by
  have h : catP xs = catP (xs.take i) ++ catP (xs.drop i) := by
    rw [catP, catP, catP, ← List.flatMap_append, List.take_append_drop]
  rw [h, List.length_append]; omega
theorem rd_of_ints {W : World} {a : Addr} {zs : List Int} {n : Nat} (hn : n ≤ zs.length) (hwz : ∀ x ∈ zs, (Lit.int .u8 x).wf = true) (hcell : ∀ c, c < zs.length → W.cell? (a.add c) = some (.int .u8 (zs.getD c 0))) : RdB W (some a) ((zs.take n).map Int.toNat) := by
  have hlen : ((zs.take n).map Int.toNat).length = n := by simp; omega
  have hb : ∀ i (hi : i < zs.length), 0 ≤ zs[i] ∧ zs[i] ≤ 255 := fun i hi => u8_of_wf (hwz _ (List.getElem_mem hi))
  have hn' : ∀ i (hi : i < n), ((nth ((zs.take n).map Int.toNat) i : Nat) : Int) = zs[i]'(by omega) := fun i hi => by
    rw [nth_of (by omega)]
    have := hb i (by omega)
    simp
    omega
  refine ⟨fun i => ?_, ?_⟩
  · by_cases hi : i < n
    · have h1 := hn' i hi
      have h2 := hb i (by omega)
      omega
    · rw [nth_over _ (by omega)]; omega
  · by_cases h0 : n = 0
    · subst h0; exact .inl (by simp)
    · obtain ⟨g, off, spot⟩ := a
      have hc := hcell 0 (by omega)
      have hspot : spot = none := by simpa [Addr.add] using World.cell?_spot hc
      subst hspot
      refine .inr ⟨g, off, rfl, fun i hi => ?_⟩
      have hi2 : i < n := by omega
      have := hcell i (by omega)
      rw [addr_add'] at this
      rw [this, hn' i hi2]
      simp [show i < zs.length by omega]
theorem sum_le {H : Type} (f : Nat → Piece) (g : Nat → DataW H) : ∀ l : List Nat, (∀ r ∈ l, (f r).2.2.length ≤ Rows.uptoBulk (g r)) → (catP (l.map f)).length ≤ Rows.uptoBulkAll (l.map g)
  | [], _ => by simp [catP]
  | r :: l, h => by
    have ih := sum_le f g l (fun x hx => h x (by simp [hx]))
    have h1 := h r (by simp)
    simp only [List.map_cons, Rows.uptoBulkAll, catP, List.flatMap_cons, List.length_append] at ih ⊢
    omega
theorem argP_bulk {W : World} {a0 : Option Addr} {len0 cap0 : Nat} {H : Type} {enc : TypeId × Value → H} {base : Nat} {d : DataW H} {ps : List MemPlace}
    (h0 : DataW.Trod enc Tryd.prog W base (fun _ => true) true 37 (.slice a0 len0 cap0) d ps) :
    ∃ xs, ArgP W a0 len0 xs ∧ (catP xs).length ≤ Rows.uptoBulk d ∧ len0 ≤ cap0 ∧ cap0 ≤ maxLen := by
  obtain ⟨fuel, hf⟩ := h0
  rcases Deep.open_int_rows Tryd.underlying37 Tryd.underlying22 Tryd.underlying5 (by kernel_rfl) (by kernel_rfl) hf with ⟨hcs, hx⟩ | ⟨a, len, cap, A, L, C, Z, hcs, _, hl, hm, hx, hr⟩
  · simp [Value.cells] at hcs
    obtain ⟨rfl, rfl, rfl⟩ := hcs
    exact ⟨[], ⟨rfl, .inl rfl, by simp⟩, by simp [catP], Nat.le_refl _, Nat.zero_le _⟩
  · simp [Value.cells] at hcs
    obtain ⟨rfl, rfl, rfl⟩ := hcs
    simp only [Prod.mk.injEq] at hx
    obtain ⟨rfl, _⟩ := hx
    obtain ⟨f, hfe⟩ : ∃ f : Nat → Piece, f = fun r => (A r, C r, ((Z r).take (L r)).map Int.toNat) := ⟨_, rfl⟩
    have hnth : ∀ i, i < len0 → nthP ((List.range len0).map f) i = f i := fun i hi => by simp [nthP, hi]
    have hfl : ∀ i, i < len0 → (f i).2.2.length = L i := fun i hi => by
      have := hr i (by omega)
      rw [hfe]
      simp
      omega
    refine ⟨(List.range len0).map f, ⟨by simp, ?_, fun i hi => ?_⟩, ?_, hl, hm⟩
    · by_cases h0 : len0 = 0
      · subst h0; exact .inl (by simp)
      · obtain ⟨g, off, spot⟩ := a
        have hc := (hr 0 (by omega)).1
        have hspot : spot = none := by simpa [Addr.add] using World.cell?_spot hc
        subst hspot
        refine .inr ⟨g, off, rfl, fun i hi => ?_⟩
        have hi' : i < len0 := by simpa using hi
        have h1 := (hr i (by omega)).1
        rw [addr_add'] at h1
        rw [h1, hnth i hi', hfl i hi', hfe]
    · have hi' : i < len0 := by simpa using hi
      obtain ⟨_, h1, h2, h3, h4, h5, h6⟩ := hr i (by omega)
      rw [hnth i hi', hfe]
      refine ⟨?_, h5⟩
      show RdB W (A i) (((Z i).take (L i)).map Int.toNat)
      cases hA : A i with
      | none =>
        have := h5 hA
        have hz : L i = 0 := by omega
        rw [hz]
        exact ⟨fun j => by rw [nth_over _ (by simp)]; omega, .inl (by simp)⟩
      | some a' => exact rd_of_ints (by omega) h4 (fun c hc => (h6 a' hA).2 c (by omega))
    · have := sum_le f (fun r => Deep.intRow (H := H) .u8 (A r) (L r) (Z r)) (List.range len0) (fun r hr' => by
        have hr2 : r < len0 := by simpa using hr'
        have h1 := hr r (by omega)
        rw [hfl r hr2]
        unfold Deep.intRow
        cases hA : A r with
        | none => have := h1.2.2.2.2.2.1 hA; omega
        | some a' =>
          have h2 := bulk_len (H := H) (lits .u8 ((Z r).take (L r)))
          simp only [lits, List.length_map, List.length_take] at h2
          simp only [Rows.uptoBulk]
          simp only [lits] at h2 ⊢
          omega)
      simp only [Rows.uptoBulk]
      omega
theorem ArgP.kept {w w' : World} {ao : Option Addr} {len : Nat} {xs : List Piece} (h : ArgP w ao len xs) (hg : w.grownBy w' none) : ArgP w' ao len xs := by
  refine ⟨h.1, ?_, fun i hi => ⟨(h.2.2 i hi).1.more hg, (h.2.2 i hi).2⟩⟩
  rcases h.2.1 with h1 | ⟨g, off, h1, h2⟩
  · exact .inl h1
  · refine .inr ⟨g, off, h1, fun i hi => ?_⟩
    rw [World.cell?_of_block (w := w) (a := ⟨g, off + i, none⟩) (hg.block g (lt_of_cell (h2 i hi)) (by simp))]
    exact h2 i hi
theorem catP_le {w : World} {ao : Option Addr} {len : Nat} {xs : List Piece} (h : ArgP w ao len xs) : ∀ k, k ≤ xs.length → ∀ x ∈ catP (xs.take k), x ≤ 255
  | 0, _, x, hx => by simp [catP] at hx
  | k + 1, hk, x, hx => by
    rw [catP_snoc xs (by omega)] at hx
    rcases List.mem_append.1 hx with hx | hx
    · exact catP_le h k (by omega) x hx
    · exact (h.2.2 k (by omega)).1.le x hx
set_option maxHeartbeats 3200000 in
theorem law_CrcPieces {w : World} (ao : Option Addr) (len cap : Nat) (xs : List Piece) (hx : ArgP w ao len xs) (hl : (catP xs).length ≤ 1048576 ∧ len ≤ cap ∧ cap ≤ maxLen) (hG : Glob w) (_h0 : 0 < w.heap.size) :
    Calls Tryd.prog 8 #[.slice ao len cap] w fun e w' => e = .returned (.bool true) ∧ w.grownBy w' none := by
  obtain ⟨rfl, hx'⟩ := hx
  have hx : ArgP w ao xs.length xs := ⟨rfl, hx'⟩
  clear hx'
  have hlm : xs.length ≤ 9223372036854775807 := by have := hl.2.2; unfold maxLen at this; omega
  have hcl : ∀ k, (catP (xs.take k)).length ≤ 1048576 := fun k => Nat.le_trans (catP_take_le xs k) hl.1
  go_enter Tryd.func8, Tryd.ntmps8
  go_wp2_with fail
  refine (awake_ok hG).mono ?_
  rintro e w1 ⟨rfl, hg1⟩
  have h0 := sum_ok (hG.more hg1) none 0 [] ⟨fun i => by rw [nth_over _ (by simp)]; omega, .inl rfl⟩ (by simp)
  have H0 : Hid (Calls Tryd.prog 10 #[.slice none 0 0] w1 _) := h0
  clear h0
  go_wp2_with fail
  refine H0.out.mono ?_
  rintro e w1 ⟨rfl, rfl⟩
  go_wp2_with fail
  go_loopw [6, 4, 5] (fun i a s wr => ∃ k : Nat, k ≤ xs.length ∧ k ≤ 50 ∧ i = num k ∧ s = q32 (crc (catP (xs.take k))) ∧ wr.ownsRow w1.heap.size 5 1 a (catP (xs.take k)).length (valsB (catP (xs.take k))) ∧ w1.grownBy wr none) (fun i _ _ _ => 50 - (intOf i).toNat)
  case atStart => exact ⟨0, Nat.zero_le _, Nat.zero_le _, rfl, rfl, World.ownsRow_nil _ _ _ _, World.grownBy.refl _ _⟩
  case round =>
    obtain ⟨k, hk, hk50, rfl, rfl, hown, hgr⟩ := hrel
    have hgw := grownBy_trans hg1 hgr
    by_cases hlt : k < xs.length ∧ k < 50
    · have b1 : decide ((k : Int) < (xs.length : Int)) = true := by simp; omega
      have b2 : decide ((k : Int) < 50) = true := by simp; omega
      have b3 : (k : Int) < (xs.length : Int) := by omega
      obtain ⟨hrd, hcap⟩ := hx.2.2 k hlt.1
      obtain ⟨g, off, hao, hc⟩ := hx.2.1.resolve_left (fun e => by have : xs.length = 0 := by { rw [e]; rfl }; omega)
      have hck := hc k hlt.1
      have hct := catP_snoc xs hlt.1
      have hcl1 := hcl (k + 1)
      have hlc := catP_le hx k hk
      rw [hct] at hcl1
      have HCT : Hid _ := hct
      subst hao
      clear hct hc
      generalize catP (xs.take k) = S at hown hcl1 HCT hlc ⊢
      generalize (nthP xs k).1 = pa at hrd hcap hck
      generalize (nthP xs k).2.1 = pc at hcap hck
      generalize (nthP xs k).2.2 = pb at hrd hck hcl1 HCT
      rw [List.length_append] at hcl1
      have HK : Hid (∀ w', w.grownBy w' none → w'.cell? ⟨g, off + k, none⟩ = some (.slice pa pb.length pc)) := fun w' hg => by
        rw [World.cell?_of_block (w := w) (a := ⟨g, off + k, none⟩) (hg.block g (lt_of_cell hck) (by simp))]; exact hck
      have hmo := fun (w' : World) (hg : w.grownBy w' none) => more_ok (hG.more hg) (crc S) (crc_lt hlc) pa pc pb (hrd.more hg) (by omega)
      rw [show more (crc S) pb = crc (S ++ pb) from more_app 0 S pb] at hmo
      have HMo : Hid _ := hmo
      have ck := HK.out _ hgw
      clear hck hmo
      go_wp2_with (at_builtin; refine wpList_append_more rfl _ _ rfl u4 S rfl hown hgr.size pa pb pc rfl (hrd.more hgw) (by omega) hcap ?_; intro v2 w3 hown2 hg3; have hg13 := grown_own hgr hown hg3; have hgw3 := grownBy_trans hg1 hg13; have ck3 := HK.out _ hgw3)
      refine (HMo.out w3 hgw3).mono ?_
      rintro e w4 ⟨rfl, rfl⟩
      rw [← HCT.out] at hown2
      have HE : Hid (crc (S ++ pb) = crc (catP (xs.take (k + 1)))) := by rw [Hid, HCT.out]
      clear ck ck3 hg3 HMo HK HCT hown
      go_wp2
      go_roundw
      case rel => exact ⟨k + 1, by omega, by omega, by go_num, by rw [HE.out], hown2, hg13⟩
      case measure => simp [intOf]; omega
    · have hor : (decide ((k : Int) < (xs.length : Int)) && decide ((k : Int) < 50)) = false := by
        by_cases h1 : k < xs.length
        · have : ¬ k < 50 := fun h => hlt ⟨h1, h⟩
          simp; omega
        · simp; omega
      obtain ⟨ad, cd, rfl, hrd⟩ := rd_own hown (catP_le hx k hk)
      have hsm := sum_ok (hG.more hgw) ad cd _ hrd (by have := hcl k; omega)
      have HS : Hid (Calls Tryd.prog 10 #[.slice ad (catP (xs.take k)).length cd] wr _) := hsm
      clear hsm hrd hown hcl
      generalize catP (xs.take k) = S at HS ⊢
      rcases q1 : decide ((k : Int) < (xs.length : Int)) with _ | _
      · go_wp2_with fail
        all_goals
          refine HS.out.mono ?_
          rintro e wr ⟨rfl, rfl⟩
          go_wp2
          go_ret
          exact ⟨rfl, hgw⟩
      · have q2 : decide ((k : Int) < 50) = false := by rw [q1] at hor; simpa using hor
        go_wp2_with fail
        all_goals
          refine HS.out.mono ?_
          rintro e wr ⟨rfl, rfl⟩
          go_wp2
          go_ret
          exact ⟨rfl, hgw⟩
end Cr
end Go.Proofs.YtpdbjibjicbckaaDoor
