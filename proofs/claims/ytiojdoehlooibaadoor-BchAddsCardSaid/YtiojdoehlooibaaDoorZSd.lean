/- The document's own answers of layer 2 (bch): what is left of bits by the generator. -/
import Derived.Test.YtiojdoehlooibaaDoorZPb
import Derived.Deep.RegionWith
namespace Go.Proofs.YtiojdoehlooibaaDoor
open Go.RowKit
namespace Gf
/-- Numbers that can be read. -/
def RdN (w : World) (ao : Option Addr) (l : List Nat) : Prop :=
  l = [] ∨ ∃ g off, ao = some ⟨g, off, none⟩ ∧ ∀ i, i < l.length → w.cell? ⟨g, off + i, none⟩ = some (num (nth l i : Nat))
theorem RdN.more {w w' : World} {ao : Option Addr} {l : List Nat} (h : RdN w ao l) (hg : w.grownBy w' none) : RdN w' ao l := by
  rcases h with h | ⟨g, off, h1, h3⟩
  · exact .inl h
  · refine .inr ⟨g, off, h1, fun i hi => ?_⟩
    rw [World.cell?_of_block (w := w) (a := ⟨g, off + i, none⟩) (hg.block g (lt_of_cell (h3 i hi)) (by simp))]
    exact h3 i hi
/-- A row of one's own in a block g that came since, with more behind it. -/
structure OwnN (w wr : World) (g : Nat) (S : List Nat) (T : List Value) : Prop where
  at_ : wr.heap[g]? = some (.cells (vals S ++ T).toArray 3)
  new : w.heap.size ≤ g
  grown : w.grownBy wr none
theorem OwnN.cell {w wr : World} {g : Nat} {S : List Nat} {T : List Value} (h : OwnN w wr g S T) {k : Nat} (hk : k < S.length) : wr.cell? ⟨g, k, none⟩ = some (num (nth S k : Nat)) := by
  rw [cell_row h.at_, List.getElem?_append_left (by rw [vals_len]; exact hk), vals_at hk]
theorem OwnN.store {w wr : World} {g : Nat} {S : List Nat} {T : List Value} (h : OwnN w wr g S T) (k v : Nat) (hk : k < S.length) : OwnN w (wr.setCell ⟨g, k, none⟩ (num (nth S k ^^^ v : Nat))) g (put S k v) T :=
  ⟨by
    have := setCell_row (i := k) h.at_ (num (nth S k ^^^ v : Nat))
    rw [List.set_append_left _ _ (by rw [vals_len]; exact hk), vals_set] at this
    exact this, h.new, grownBy_setCell h.grown (.inl h.new) _⟩
theorem OwnN.drew {w wr : World} {g : Nat} {S : List Nat} {T : List Value} (h : OwnN w wr g S T) : OwnN w wr.drew g S T := ⟨h.at_, h.new, grownBy_drew h.grown⟩
theorem ret_slice2 {a : Option Addr} {l l' c c' : Nat} (h : l = l') (h' : c = c') : Ending.returned (.slice a l c) = .returned (.slice a l' c') := by rw [h, h']
theorem addr_add' (g off i : Nat) : (⟨g, off, none⟩ : Addr).add i = ⟨g, off + i, none⟩ := by unfold Addr.add; split <;> simp_all
set_option maxHeartbeats 3200000 in
set_option maxRecDepth 4000 in
theorem srest_ok {w : World} (m bytes t : Int) (ao al : Option Addr) (cg cl : Nat) (G l : List Nat) (hG : RdN w ao G) (hl : RdN w al l) (hBl : Bits l) (hBG : Bits G) (hg1 : 2 ≤ G.length) (hgl : G.length ≤ l.length) (hn : l.length ≤ 100000) :
    Calls Tryd.prog 34 #[codeV m bytes t (.slice ao G.length cg), .slice al l.length cl] w fun e w' => ∃ g T, e = .returned (.slice (some ⟨g, l.length - (G.length - 1), none⟩) (G.length - 1) ((G.length - 1) + T.length)) ∧ OwnN w w' g (dv G l (l.length - (G.length - 1))) T := by
  obtain ⟨i0, hi, hz0, hz1, hz2⟩ := info_parts Tryd.info3
  obtain ⟨gl, ol, rfl, hcl⟩ := hl.resolve_left (fun e => by rw [e, List.length_nil] at hgl; omega)
  obtain ⟨gg, og, rfl, hcg⟩ := hG.resolve_left (fun e => by rw [e, List.length_nil] at hg1; omega)
  have hgl1 := lt_of_cell (hcl 0 (by omega))
  have hgg1 := lt_of_cell (hcg 0 (by omega))
  have hw1 := World.grownBy_alloc w (.cells #[num m, num bytes, num t, .slice (some ⟨gg, og, none⟩) G.length cg] 29) none
  go_enter Tryd.func34, Tryd.ntmps34
  go_wp2_with (first | (at_builtin; refine wpList_append_own _ rfl _ _ 27 rfl (w.heap.size + 1) 3 i0 (.int .i64 0) 1 8 Tryd.underlying27 hi hz0 hz1 hz2 rfl (by decide) _ _ _ rfl (World.ownsRow_nil _ _ _ _) ⟨gl, ol, none⟩ l.length cl (vals l) rfl (by rw [vals_len]; omega) ?c1 ?c2 ?c3 ?c4 ?c5 ?_))
  case c1 =>
    intro j u hj
    have hjl : j < l.length := by
      have := (List.getElem?_eq_some_iff.1 hj).1
      rwa [vals_len] at this
    rw [vals_at hjl] at hj
    rw [addr_add', World.cell?_of_block (w := w) (a := ⟨gl, ol + j, none⟩) (hw1.block gl hgl1 (by simp)), hcl j hjl, hj]
  case c2 => intro u hu; simp [vals] at hu; obtain ⟨x, _, rfl⟩ := hu; rfl
  case c3 => unfold maxLen; omega
  case c4 => omega
  case c5 => simp
  intro v1 w2 hown hgrow _
  rcases hown.2 with ⟨rfl, hn0⟩ | ⟨g, cap, cur, rfl, hg, hh, hle, hq, hcs, ht⟩
  · exfalso; simp at hn0; rw [hn0, List.length_nil] at hgl; omega
  have hcur : cur = (vals l ++ cur.toList.drop l.length).toArray := by
    rw [Nat.mul_one] at ht
    rw [← ht, List.take_append_drop]
  have hcap : cap = l.length + (cur.toList.drop l.length).length := by simp; omega
  obtain ⟨T, hT⟩ : ∃ T, T = cur.toList.drop l.length := ⟨_, rfl⟩
  rw [← hT] at hcur hcap
  subst hcap
  rw [hcur] at hh
  have hg2 : (w.alloc (.cells #[num m, num bytes, num t, .slice (some ⟨gg, og, none⟩) G.length cg] 29)).grownBy w2 none := hgrow
  have hO : OwnN w w2 g l T := ⟨hh, by omega, grownBy_trans hw1 hg2⟩
  have hbox : w2.heap[w.heap.size]? = some (.cells #[num m, num bytes, num t, .slice (some ⟨gg, og, none⟩) G.length cg] 29) := by
    rw [hg2.block w.heap.size (by simp) (by simp)]
    exact heap_alloc_new w _
  clear hown hgrow hh hcur hT ht hcs hq hle cur hl hG
  have k0 : w2.cell? ⟨w.heap.size, 0, none⟩ = some (num m) := by simp [World.cell?, hbox]
  have k1 : w2.cell? ⟨w.heap.size, 1, none⟩ = some (num bytes) := by simp [World.cell?, hbox]
  have k2 : w2.cell? ⟨w.heap.size, 2, none⟩ = some (num t) := by simp [World.cell?, hbox]
  have k3 : w2.cell? ⟨w.heap.size, 3, none⟩ = some (.slice (some ⟨gg, og, none⟩) G.length cg) := by simp [World.cell?, hbox]
  have hbl := lt_of_heap hbox
  clear hbox
  go_wp2_with fail
  refine (sR_ok m bytes t (some ⟨gg, og, none⟩) G.length cg (by omega) w2).mono ?_
  rintro e w3 ⟨rfl, hg3⟩
  have hO3 : OwnN w w3 g l T := ⟨by rw [hg3.block g (lt_of_heap hO.at_) (by simp)]; exact hO.at_, hO.new, grownBy_trans hO.grown hg3⟩
  have hb3 : w3.cell? ⟨w.heap.size, 3, none⟩ = some (.slice (some ⟨gg, og, none⟩) G.length cg) := by
    rw [World.cell?_of_block (w := w2) (a := ⟨w.heap.size, 3, none⟩) (hg3.block w.heap.size hbl (by simp))]
    exact k3
  clear k0 k1 k2 k3 hO hg3 hg2 hw1
  have hrd : ∀ {wr : World}, w.grownBy wr none → ∀ k, k < G.length → wr.cell? ⟨gg, og + k, none⟩ = some (num (nth G k : Nat)) := fun hgr k hk => by
    rw [World.cell?_of_block (w := w) (a := ⟨gg, og + k, none⟩) (hgr.block gg hgg1 (by simp))]
    exact hcg k hk
  have HRd : Hid _ := @hrd
  clear hrd hcg hcl
  go_wp2_with fail
  go_loopw [7] (fun c wr => ∃ i : Nat, i + (G.length - 1) ≤ l.length ∧ c = num i ∧ OwnN w wr g (dv G l i) T ∧ wr.cell? ⟨w.heap.size, 3, none⟩ = some (.slice (some ⟨gg, og, none⟩) G.length cg)) (fun c _ => l.length - (intOf c).toNat)
  case atStart => exact ⟨0, by omega, rfl, hO3, hb3⟩
  case round =>
    obtain ⟨i, hil, rfl, hO, hbx⟩ := hrel
    clear hO3 hb3
    have hdl := dv_len G l i
    by_cases hlt : i + (G.length - 1) < l.length
    · have b1 : (i : Int) + ((G.length : Int) - 1) < (l.length : Int) := by omega
      have b2 : (i : Int) < (l.length : Int) := by omega
      have ci : wr.cell? ⟨g, i, none⟩ = some (num (nth (dv G l i) i : Nat)) := hO.cell (by omega)
      by_cases h1 : nth (dv G l i) i = 1
      · have HD : Hid (dv G l (i + 1) = xo (dv G l i) G i G.length) := by rw [dv, if_pos h1]; rfl
        rw [h1] at ci
        clear h1
        have hBd := bits_dv hBl hBG i (by omega)
        obtain ⟨S, hS⟩ : ∃ S, S = dv G l i := ⟨_, rfl⟩
        rw [← hS] at hO hdl HD hBd
        clear hS
        go_wp2_with fail
        go_loopw [8] (fun c ws => ∃ k : Nat, k ≤ G.length ∧ c = num k ∧ OwnN w ws g (xo S G i k) T ∧ ws.cell? ⟨w.heap.size, 3, none⟩ = some (.slice (some ⟨gg, og, none⟩) G.length cg)) (fun c _ => G.length - (intOf c).toNat)
        case atStart => exact ⟨0, Nat.zero_le _, rfl, hO, hbx⟩
        case round =>
          obtain ⟨k, hkl, rfl, hO2, hbx2⟩ := hrel
          clear hO hbx ci
          have hxl := xo_len S G i k
          by_cases hkl2 : k < G.length
          · have ck := HRd.out hO2.grown k hkl2
            have cr : wr.cell? ⟨g, i + k, none⟩ = some (num (nth (xo S G i k) (i + k) : Nat)) := hO2.cell (by omega)
            have zr : wr.frozen? ⟨g, i + k, none⟩ = false := frozen_row hO2.at_
            have hBx := bits_xo hBd hBG i k (by omega) (i + k)
            have hBk := hBG k
            have HX : Hid (xo S G i (k + 1) = put (xo S G i k) (i + k) (nth G k)) := rfl
            have hN := hO2.drew.store (i + k) (nth G k) (by omega)
            have hgb : w.heap.size ≠ g := by omega
            have hbN : (wr.drew.setCell ⟨g, i + k, none⟩ (num (nth (xo S G i k) (i + k) ^^^ nth G k : Nat))).cell? ⟨w.heap.size, 3, none⟩ = some (.slice (some ⟨gg, og, none⟩) G.length cg) := by
              rw [World.cell?_of_block (w := wr.drew) (a := ⟨w.heap.size, 3, none⟩) (setCell_else hgb _)]
              exact hbx2
            have hxo : bits .xor .i64 (nth (xo S G i k) (i + k) : Int) (nth G k : Int) = ((nth (xo S G i k) (i + k) ^^^ nth G k : Nat) : Int) := xor_i64 _ _ (by have := hBx; omega) (by have := hBk; omega)
            have hwr : IntKind.i64.wrap ((i : Int) + (k : Int)) = (i : Int) + (k : Int) := by rw [IntKind.wrap_i64]; omega
            have b6 : (0 : Int) ≤ (i : Int) + (k : Int) := by omega
            have b3 : ((i : Int) + (k : Int)).toNat = i + k := by omega
            have b4 : (i : Int) + (k : Int) < (l.length : Int) := by omega
            have b5 : (k : Int) < (G.length : Int) := by omega
            obtain ⟨A, hA⟩ : ∃ A, A = nth (xo S G i k) (i + k) := ⟨_, rfl⟩
            rw [← hA] at cr hBx hN hbN hxo
            clear hA
            go_wp2_with fail
            go_region_with fail
            all_goals
              go_wp2
              go_roundw
              case rel => exact ⟨k + 1, by omega, by go_num, by rw [HX.out]; exact hN, hbN⟩
              case measure => simp [intOf]; omega
          · obtain rfl : k = G.length := by omega
            rw [← HD.out] at hO2
            go_wp2_with fail
            go_roundw
            case rel => exact ⟨i + 1, by omega, by go_num, hO2, hbx2⟩
            case measure => simp [intOf]; omega
      · have h1' : (((nth (dv G l i) i : Nat) : Int) == 1) = false := by simp; omega
        have HD : Hid (dv G l (i + 1) = dv G l i) := by rw [dv, if_neg h1]; rfl
        clear h1
        go_wp2_with fail
        go_roundw
        case rel => exact ⟨i + 1, by omega, by go_num, by rw [HD.out]; exact hO, hbx⟩
        case measure => simp [intOf]; omega
    · obtain rfl : i = l.length - (G.length - 1) := by omega
      have b1 : ¬ ((l.length - (G.length - 1) : Nat) : Int) + ((G.length : Int) - 1) < (l.length : Int) := by omega
      have b2 : ((l.length : Int) - ((G.length : Int) - 1)).toNat = l.length - (G.length - 1) := by omega
      have HL : Hid (l.length - (l.length - (G.length - 1)) = G.length - 1) := by unfold Hid; omega
      have HC : Hid (l.length + T.length - (l.length - (G.length - 1)) = G.length - 1 + T.length) := by unfold Hid; omega
      go_wp2_with fail
      go_ret
      exact ⟨g, T, ret_slice2 HL.out HC.out, hO⟩
end Gf
end Go.Proofs.YtiojdoehlooibaaDoor
