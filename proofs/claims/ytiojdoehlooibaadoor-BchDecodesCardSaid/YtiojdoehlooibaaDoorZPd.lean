/- The document's own answers of layer 2 (bch): what is left of bits by the generator. -/
import Derived.Test.YtiojdoehlooibaaDoorZPb
import Derived.Deep.RegionWith
namespace Go.Proofs.YtiojdoehlooibaaDoor
open Go.RowKit
namespace Gf
/-- Numbers that can be read. -/
def RdN (w : World) (ao : Option Addr) (l : List Nat) : Prop :=
  l = [] ∨ ∃ g off, ao = some ⟨g, off, none⟩ ∧ ∀ i, i < l.length → w.cell? ⟨g, off + i, none⟩ = some (num (nth l i : Nat))
theorem RdN.more {w w' : World} {ao : Option Addr} {l : List Nat} (h : RdN w ao l) (hg : w.grownBy w' none) : RdN w' ao l := by
  rcases h with h | ⟨g, off, h1, h3⟩
  · exact .inl h
  · refine .inr ⟨g, off, h1, fun i hi => ?_⟩
    rw [World.cell?_of_block (w := w) (a := ⟨g, off + i, none⟩) (hg.block g (lt_of_cell (h3 i hi)) (by simp))]
    exact h3 i hi
/-- A row of one's own in a block g that came since, with more behind it. -/
structure OwnN (w wr : World) (g : Nat) (S : List Nat) (T : List Value) : Prop where
  at_ : wr.heap[g]? = some (.cells (vals S ++ T).toArray 3)
  new : w.heap.size ≤ g
  grown : w.grownBy wr none
theorem OwnN.cell {w wr : World} {g : Nat} {S : List Nat} {T : List Value} (h : OwnN w wr g S T) {k : Nat} (hk : k < S.length) : wr.cell? ⟨g, k, none⟩ = some (num (nth S k : Nat)) := by
  rw [cell_row h.at_, List.getElem?_append_left (by rw [vals_len]; exact hk), vals_at hk]
theorem OwnN.store {w wr : World} {g : Nat} {S : List Nat} {T : List Value} (h : OwnN w wr g S T) (k v : Nat) (hk : k < S.length) : OwnN w (wr.setCell ⟨g, k, none⟩ (num (nth S k ^^^ v : Nat))) g (put S k v) T :=
  ⟨by
    have := setCell_row (i := k) h.at_ (num (nth S k ^^^ v : Nat))
    rw [List.set_append_left _ _ (by rw [vals_len]; exact hk), vals_set] at this
    exact this, h.new, grownBy_setCell h.grown (.inl h.new) _⟩
theorem OwnN.drew {w wr : World} {g : Nat} {S : List Nat} {T : List Value} (h : OwnN w wr g S T) : OwnN w wr.drew g S T := ⟨h.at_, h.new, grownBy_drew h.grown⟩
theorem ret_slice2 {a : Option Addr} {l l' c c' : Nat} (h : l = l') (h' : c = c') : Ending.returned (.slice a l c) = .returned (.slice a l' c') := by rw [h, h']
theorem addr_add' (g off i : Nat) : (⟨g, off, none⟩ : Addr).add i = ⟨g, off + i, none⟩ := by unfold Addr.add; split <;> simp_all
set_option maxHeartbeats 3200000 in
set_option maxRecDepth 4000 in
theorem srest_ok {w : World} (m bytes t : Int) (ao al : Option Addr) (cg cl : Nat) (G l : List Nat) (hG : RdN w ao G) (hl : RdN w al l) (hBl : Bits l) (hBG : Bits G) (hg1 : 2 ≤ G.length) (hgl : G.length ≤ l.length) (hn : l.length ≤ 100000) :
    Calls Tryd.prog 34 #[codeV m bytes t (.slice ao G.length cg), .slice al l.length cl] w fun e w' => ∃ g T, e = .returned (.slice (some ⟨g, l.length - (G.length - 1), none⟩) (G.length - 1) ((G.length - 1) + T.length)) ∧ OwnN w w' g (dv G l (l.length - (G.length - 1))) T := by
  obtain ⟨i0, hi, hz0, hz1, hz2⟩ := info_parts Tryd.info3
  obtain ⟨gl, ol, rfl, hcl⟩ := hl.resolve_left (fun e => by rw [e, List.length_nil] at hgl; omega)
  obtain ⟨gg, og, rfl, hcg⟩ := hG.resolve_left (fun e => by rw [e, List.length_nil] at hg1; omega)
  have hgl1 := lt_of_cell (hcl 0 (by omega))
  have hgg1 := lt_of_cell (hcg 0 (by omega))
  have hw1 := World.grownBy_alloc w (.cells #[num m, num bytes, num t, .slice (some ⟨gg, og, none⟩) G.length cg] 29) none
  go_enter Tryd.func34, Tryd.ntmps34
  go_wp2_with (first | (at_builtin; refine wpList_append_own _ rfl _ _ 27 rfl (w.heap.size + 1) 3 i0 (.int .i64 0) 1 8 Tryd.underlying27 hi hz0 hz1 hz2 rfl (by decide) _ _ _ rfl (World.ownsRow_nil _ _ _ _) ⟨gl, ol, none⟩ l.length cl (vals l) rfl (by rw [vals_len]; omega) ?c1 ?c2 ?c3 ?c4 ?c5 ?_))
  case c1 =>
    intro j u hj
    have hjl : j < l.length := by
      have := (List.getElem?_eq_some_iff.1 hj).1
      rwa [vals_len] at this
    rw [vals_at hjl] at hj
    rw [addr_add', World.cell?_of_block (w := w) (a := ⟨gl, ol + j, none⟩) (hw1.block gl hgl1 (by simp)), hcl j hjl, hj]
  case c2 => intro u hu; simp [vals] at hu; obtain ⟨x, _, rfl⟩ := hu; rfl
  case c3 => unfold maxLen; omega
  case c4 => omega
  case c5 => simp
  intro v1 w2 hown hgrow _
  rcases hown.2 with ⟨rfl, hn0⟩ | ⟨g, cap, cur, rfl, hg, hh, hle, hq, hcs, ht⟩
  · exfalso; simp at hn0; rw [hn0, List.length_nil] at hgl; omega
  have hcur : cur = (vals l ++ cur.toList.drop l.length).toArray := by
    rw [Nat.mul_one] at ht
    rw [← ht, List.take_append_drop]
  have hcap : cap = l.length + (cur.toList.drop l.length).length := by simp; omega
  obtain ⟨T, hT⟩ : ∃ T, T = cur.toList.drop l.length := ⟨_, rfl⟩
  rw [← hT] at hcur hcap
  subst hcap
  rw [hcur] at hh
  have hg2 : (w.alloc (.cells #[num m, num bytes, num t, .slice (some ⟨gg, og, none⟩) G.length cg] 29)).grownBy w2 none := hgrow
  have hO : OwnN w w2 g l T := ⟨hh, by omega, grownBy_trans hw1 hg2⟩
  have hbox : w2.heap[w.heap.size]? = some (.cells #[num m, num bytes, num t, .slice (some ⟨gg, og, none⟩) G.length cg] 29) := by
    rw [hg2.block w.heap.size (by simp) (by simp)]
    exact heap_alloc_new w _
  clear hown hgrow hh hcur hT ht hcs hq hle cur hl hG
  have k0 : w2.cell? ⟨w.heap.size, 0, none⟩ = some (num m) := by simp [World.cell?, hbox]
  have k1 : w2.cell? ⟨w.heap.size, 1, none⟩ = some (num bytes) := by simp [World.cell?, hbox]
  have k2 : w2.cell? ⟨w.heap.size, 2, none⟩ = some (num t) := by simp [World.cell?, hbox]
  have k3 : w2.cell? ⟨w.heap.size, 3, none⟩ = some (.slice (some ⟨gg, og, none⟩) G.length cg) := by simp [World.cell?, hbox]
  have hbl := lt_of_heap hbox
  clear hbox
  go_wp2_with fail
  refine (sR_ok m bytes t (some ⟨gg, og, none⟩) G.length cg (by omega) w2).mono ?_
  rintro e w3 ⟨rfl, hg3⟩
  have hO3 : OwnN w w3 g l T := ⟨by rw [hg3.block g (lt_of_heap hO.at_) (by simp)]; exact hO.at_, hO.new, grownBy_trans hO.grown hg3⟩
  have hb3 : w3.cell? ⟨w.heap.size, 3, none⟩ = some (.slice (some ⟨gg, og, none⟩) G.length cg) := by
    rw [World.cell?_of_block (w := w2) (a := ⟨w.heap.size, 3, none⟩) (hg3.block w.heap.size hbl (by simp))]
    exact k3
  clear k0 k1 k2 k3 hO hg3 hg2 hw1
  have hrd : ∀ {wr : World}, w.grownBy wr none → ∀ k, k < G.length → wr.cell? ⟨gg, og + k, none⟩ = some (num (nth G k : Nat)) := fun hgr k hk => by
    rw [World.cell?_of_block (w := w) (a := ⟨gg, og + k, none⟩) (hgr.block gg hgg1 (by simp))]
    exact hcg k hk
  have HRd : Hid _ := @hrd
  clear hrd hcg hcl
  go_wp2_with fail
  go_loopw [7] (fun c wr => ∃ i : Nat, i + (G.length - 1) ≤ l.length ∧ c = num i ∧ OwnN w wr g (dv G l i) T ∧ wr.cell? ⟨w.heap.size, 3, none⟩ = some (.slice (some ⟨gg, og, none⟩) G.length cg)) (fun c _ => l.length - (intOf c).toNat)
  case atStart => exact ⟨0, by omega, rfl, hO3, hb3⟩
  case round =>
    obtain ⟨i, hil, rfl, hO, hbx⟩ := hrel
    clear hO3 hb3
    have hdl := dv_len G l i
    by_cases hlt : i + (G.length - 1) < l.length
    · have b1 : (i : Int) + ((G.length : Int) - 1) < (l.length : Int) := by omega
      have b2 : (i : Int) < (l.length : Int) := by omega
      have ci : wr.cell? ⟨g, i, none⟩ = some (num (nth (dv G l i) i : Nat)) := hO.cell (by omega)
      by_cases h1 : nth (dv G l i) i = 1
      · have HD : Hid (dv G l (i + 1) = xo (dv G l i) G i G.length) := by rw [dv, if_pos h1]; rfl
        rw [h1] at ci
        clear h1
        have hBd := bits_dv hBl hBG i (by omega)
        obtain ⟨S, hS⟩ : ∃ S, S = dv G l i := ⟨_, rfl⟩
        rw [← hS] at hO hdl HD hBd
        clear hS
        go_wp2_with fail
        go_loopw [8] (fun c ws => ∃ k : Nat, k ≤ G.length ∧ c = num k ∧ OwnN w ws g (xo S G i k) T ∧ ws.cell? ⟨w.heap.size, 3, none⟩ = some (.slice (some ⟨gg, og, none⟩) G.length cg)) (fun c _ => G.length - (intOf c).toNat)
        case atStart => exact ⟨0, Nat.zero_le _, rfl, hO, hbx⟩
        case round =>
          obtain ⟨k, hkl, rfl, hO2, hbx2⟩ := hrel
          clear hO hbx ci
          have hxl := xo_len S G i k
          by_cases hkl2 : k < G.length
          · have ck := HRd.out hO2.grown k hkl2
            have cr : wr.cell? ⟨g, i + k, none⟩ = some (num (nth (xo S G i k) (i + k) : Nat)) := hO2.cell (by omega)
            have zr : wr.frozen? ⟨g, i + k, none⟩ = false := frozen_row hO2.at_
            have hBx := bits_xo hBd hBG i k (by omega) (i + k)
            have hBk := hBG k
            have HX : Hid (xo S G i (k + 1) = put (xo S G i k) (i + k) (nth G k)) := rfl
            have hN := hO2.drew.store (i + k) (nth G k) (by omega)
            have hgb : w.heap.size ≠ g := by omega
            have hbN : (wr.drew.setCell ⟨g, i + k, none⟩ (num (nth (xo S G i k) (i + k) ^^^ nth G k : Nat))).cell? ⟨w.heap.size, 3, none⟩ = some (.slice (some ⟨gg, og, none⟩) G.length cg) := by
              rw [World.cell?_of_block (w := wr.drew) (a := ⟨w.heap.size, 3, none⟩) (setCell_else hgb _)]
              exact hbx2
            have hxo : bits .xor .i64 (nth (xo S G i k) (i + k) : Int) (nth G k : Int) = ((nth (xo S G i k) (i + k) ^^^ nth G k : Nat) : Int) := xor_i64 _ _ (by have := hBx; omega) (by have := hBk; omega)
            have hwr : IntKind.i64.wrap ((i : Int) + (k : Int)) = (i : Int) + (k : Int) := by rw [IntKind.wrap_i64]; omega
            have b6 : (0 : Int) ≤ (i : Int) + (k : Int) := by omega
            have b3 : ((i : Int) + (k : Int)).toNat = i + k := by omega
            have b4 : (i : Int) + (k : Int) < (l.length : Int) := by omega
            have b5 : (k : Int) < (G.length : Int) := by omega
            obtain ⟨A, hA⟩ : ∃ A, A = nth (xo S G i k) (i + k) := ⟨_, rfl⟩
            rw [← hA] at cr hBx hN hbN hxo
            clear hA
            go_wp2_with fail
            go_region_with fail
            all_goals
              go_wp2
              go_roundw
              case rel => exact ⟨k + 1, by omega, by go_num, by rw [HX.out]; exact hN, hbN⟩
              case measure => simp [intOf]; omega
          · obtain rfl : k = G.length := by omega
            rw [← HD.out] at hO2
            go_wp2_with fail
            go_roundw
            case rel => exact ⟨i + 1, by omega, by go_num, hO2, hbx2⟩
            case measure => simp [intOf]; omega
      · have h1' : (((nth (dv G l i) i : Nat) : Int) == 1) = false := by simp; omega
        have HD : Hid (dv G l (i + 1) = dv G l i) := by rw [dv, if_neg h1]; rfl
        clear h1
        go_wp2_with fail
        go_roundw
        case rel => exact ⟨i + 1, by omega, by go_num, by rw [HD.out]; exact hO, hbx⟩
        case measure => simp [intOf]; omega
    · obtain rfl : i = l.length - (G.length - 1) := by omega
      have b1 : ¬ ((l.length - (G.length - 1) : Nat) : Int) + ((G.length : Int) - 1) < (l.length : Int) := by omega
      have b2 : ((l.length : Int) - ((G.length : Int) - 1)).toNat = l.length - (G.length - 1) := by omega
      have HL : Hid (l.length - (l.length - (G.length - 1)) = G.length - 1) := by unfold Hid; omega
      have HC : Hid (l.length + T.length - (l.length - (G.length - 1)) = G.length - 1 + T.length) := by unfold Hid; omega
      go_wp2_with fail
      go_ret
      exact ⟨g, T, ret_slice2 HL.out HC.out, hO⟩
end Gf
end Go.Proofs.YtiojdoehlooibaaDoor

/- The document's own answers of layer 2 (bch): are bits a word? -/
namespace Go.Proofs.YtiojdoehlooibaaDoor
open Go.RowKit
namespace Gf
/-- Nothing is left. -/
def NoLeft (G l : List Nat) : Prop := ∀ k, k < G.length - 1 → nth (dv G l (l.length - (G.length - 1))) (l.length - (G.length - 1) + k) = 0
def noLeftB (G l : List Nat) : Bool := (List.range (G.length - 1)).all fun k => nth (dv G l (l.length - (G.length - 1))) (l.length - (G.length - 1) + k) == 0
theorem noLeftB_iff (G l : List Nat) : noLeftB G l = true ↔ NoLeft G l := by
  unfold noLeftB NoLeft
  rw [List.all_eq_true]
  constructor
  · intro h k hk
    simpa using h k (List.mem_range.2 hk)
  · intro h k hk
    simpa using h k (List.mem_range.1 hk)
set_option maxHeartbeats 1600000 in
set_option maxRecDepth 4000 in
theorem sWhole_ok {w : World} (m bytes t : Int) (ao al : Option Addr) (cg cl : Nat) (G l : List Nat) (hG : RdN w ao G) (hl : RdN w al l) (hBl : Bits l) (hBG : Bits G) (hg1 : 2 ≤ G.length) (hgl : G.length ≤ l.length) (hn : l.length ≤ 100000) :
    Calls Tryd.prog 43 #[codeV m bytes t (.slice ao G.length cg), .slice al l.length cl] w fun e w' => e = .returned (.bool (noLeftB G l)) ∧ w.grownBy w' none := by
  have hw1 := World.grownBy_alloc w (.cells #[num m, num bytes, num t, .slice ao G.length cg] 29) none
  go_enter Tryd.func43, Tryd.ntmps43
  go_wp2_with fail
  refine (srest_ok m bytes t ao al cg cl G l (hG.more hw1) (hl.more hw1) hBl hBG hg1 hgl hn).mono ?_
  rintro e w2 ⟨g, T, rfl, hO⟩
  have hfin : w.grownBy w2 none := grownBy_trans hw1 hO.grown
  have hdl := dv_len G l (l.length - (G.length - 1))
  have hcell : ∀ k, k < G.length - 1 → w2.cell? ⟨g, l.length - (G.length - 1) + k, none⟩ = some (num (nth (dv G l (l.length - (G.length - 1))) (l.length - (G.length - 1) + k) : Nat)) := fun k hk => hO.cell (by omega)
  have HC : Hid _ := hcell
  clear hcell hO hw1 hG hl hdl
  go_wp2_with fail
  go_loopw [6] (fun c wr => ∃ k : Nat, k ≤ G.length - 1 ∧ c = num k ∧ (∀ j, j < k → nth (dv G l (l.length - (G.length - 1))) (l.length - (G.length - 1) + j) = 0) ∧ wr = w2) (fun c _ => G.length - 1 - (intOf c).toNat)
  case atStart => exact ⟨0, Nat.zero_le _, rfl, fun j hj => by omega, rfl⟩
  case round =>
    obtain ⟨k, hk, rfl, hz, rfl⟩ := hrel
    have HZ : Hid _ := hz
    clear hz
    by_cases hlt : k < G.length - 1
    · have b1 : (k : Int) < ((G.length - 1 : Nat) : Int) := by omega
      have ck := HC.out k hlt
      by_cases h0 : nth (dv G l (l.length - (G.length - 1))) (l.length - (G.length - 1) + k) = 0
      · have HN : Hid (∀ j, j < k + 1 → nth (dv G l (l.length - (G.length - 1))) (l.length - (G.length - 1) + j) = 0) := fun j hj => by
          by_cases e : j = k
          · subst e; exact h0
          · exact HZ.out j (by omega)
        rw [h0] at ck
        clear h0
        go_wp2_with fail
        go_roundw
        case rel => exact ⟨k + 1, by omega, by go_num, HN.out, trivial⟩
        case measure => simp [intOf]; omega
      · have h0' : (((nth (dv G l (l.length - (G.length - 1))) (l.length - (G.length - 1) + k) : Nat) : Int) != 0) = true := by simp; omega
        have HD : Hid (noLeftB G l = false) := by
          rw [Hid, ← Bool.not_eq_true, noLeftB_iff]
          exact fun h => h0 (h k hlt)
        clear h0
        go_wp2_with fail
        go_ret
        exact ⟨by rw [HD.out]; rfl, hfin⟩
    · obtain rfl : k = G.length - 1 := by omega
      have HD : Hid (noLeftB G l = true) := by
        rw [Hid, noLeftB_iff]
        exact HZ.out
      go_wp2_with fail
      go_ret
      exact ⟨by rw [HD.out]; rfl, hfin⟩
/-- Nothing is left of a word, and of a word alone. -/
theorem noLeft_iff {m : Nat} (h : Em m) {t : Nat} {l : List Nat} (hb : Bits l) (hl : (genS m t).length - 1 ≤ l.length) : NoLeft (gH m t) l ↔ IsW m t l.reverse := by
  rw [whole_iff h hb hl]
  have hg := gH_len m t
  have hll := left_len hl
  constructor
  · intro hn k
    by_cases hk : k < (genS m t).length - 1
    · have := hn k (by omega)
      rw [hg] at this
      rw [left, nth_drop]
      exact this
    · exact nth_over _ (by omega)
  · intro hz k hk
    have := hz k
    rw [left, nth_drop] at this
    rw [hg]
    exact this
end Gf
end Go.Proofs.YtiojdoehlooibaaDoor

/- The document's own answers of layer 2 (bch): the parity of data. -/
namespace Go.Proofs.YtiojdoehlooibaaDoor
open Go.RowKit
namespace Gf
set_option maxHeartbeats 400000 in
theorem sR_at (m bytes t : Int) (ao : Option Addr) (len cap : Nat) (hl : len ≤ 1000000) (w : World) :
    Calls Tryd.prog 14 #[codeV m bytes t (.slice ao len cap)] w fun e w' => e = .returned (num ((len : Int) - 1)) ∧ w' = w.alloc (.cells #[num m, num bytes, num t, .slice ao len cap] 29) := by
  go_enter Tryd.func14, Tryd.ntmps14
  go_wp2
  go_ret
  exact ⟨rfl, rfl⟩
theorem Row.alloc {w0 wr : World} {v : Value} {S : List Nat} (h : Row w0 wr v S) (o : Obj) : Row w0 (wr.alloc o) v S := ⟨h.own.alloc o, grownBy_trans h.more (World.grownBy_alloc _ _ none)⟩
theorem Row.rdN {w0 wr : World} {v : Value} {S : List Nat} (h : Row w0 wr v S) (hS : S ≠ []) : ∃ ao cap, v = .slice ao S.length cap ∧ RdN wr ao S := by
  rcases h.own.2 with ⟨rfl, hn⟩ | ⟨g, cap, cur, rfl, hg, hh, hle, _, hcs, ht⟩
  · exact absurd (List.eq_nil_of_length_eq_zero hn) hS
  · refine ⟨_, _, rfl, .inr ⟨g, 0, rfl, fun i hi => ?_⟩⟩
    rw [Nat.mul_one] at ht
    have hh' : wr.heap[g]? = some (.cells cur.toList.toArray 3) := by simpa using hh
    rw [Nat.zero_add, cell_row hh', take_cell ht i hi]
/-- Bits and noughts behind them. -/
def padS (D : List Nat) (n : Nat) : List Nat := D ++ List.replicate n 0
theorem padS_succ (D : List Nat) (n : Nat) : padS D (n + 1) = padS D n ++ [0] := by
  unfold padS
  rw [List.replicate_succ', List.append_assoc]
theorem padS_len (D : List Nat) (n : Nat) : (padS D n).length = D.length + n := by simp [padS]
set_option maxHeartbeats 3200000 in
set_option maxRecDepth 4000 in
theorem sEncode_ok {w : World} (m t : Int) (ao ad : Option Addr) (cg cd : Nat) (G bs : List Nat) (hG : RdN w ao G) (hd : RdB w ad bs) (hBG : Bits G) (hg1 : 2 ≤ G.length) (hgl : G.length ≤ 1000) (hb1 : 1 ≤ bs.length) (hn : bs.length ≤ 10000) :
    Calls Tryd.prog 19 #[codeV m bs.length t (.slice ao G.length cg), .slice ad bs.length cd] w fun e w' => ∃ g n, e = .returned (.tuple #[.slice (some ⟨g, 0, none⟩) n n, num 0]) ∧ n = (G.length - 1 + 7) / 8 ∧ w.heap.size ≤ g ∧ w.grownBy w' none ∧
      w'.heap[g]? = some (.cells (valsB (bytesS ((dv G (padS (bitsS bs) (G.length - 1)) (8 * bs.length)).drop (8 * bs.length)))).toArray 5) := by
  obtain ⟨i0, hi, hz0, hz1, hz2⟩ := info_parts Tryd.info3
  have hw1 := World.grownBy_alloc w (.cells #[num m, num bs.length, num t, .slice ao G.length cg] 29) none
  obtain ⟨W1, hW1⟩ : ∃ W1, W1 = w.alloc (.cells #[num m, num bs.length, num t, .slice ao G.length cg] 29) := ⟨_, rfl⟩
  have hbox : W1.heap[w.heap.size]? = some (.cells #[num m, num bs.length, num t, .slice ao G.length cg] 29) := by rw [hW1]; exact heap_alloc_new w _
  have hd1 := hd.more hw1
  have hbl := lt_of_heap hbox
  have hbsl := bitsS_len bs
  have hBt := sBits_ok (w := W1) ad cd bs (by rw [hW1]; exact hd1) (by omega)
  have hBD := bits_bitsS bs
  obtain ⟨D, hD⟩ : ∃ D, D = bitsS bs := ⟨_, rfl⟩
  rw [← hD] at hBt hBD hbsl ⊢
  have HBt : Hid (Calls Tryd.prog 32 #[.slice ad bs.length cd] W1 _) := hBt
  clear hD hBt
  go_enter Tryd.func19, Tryd.ntmps19
  go_wp2_with fail
  rw [← hW1]
  refine HBt.out.mono ?_
  rintro e w2 ⟨v2, rfl, hR2⟩
  rw [← hW1] at hw1
  have hBox : ∀ {wr : World}, W1.grownBy wr none → wr.cell? ⟨w.heap.size, 0, none⟩ = some (num m) ∧ wr.cell? ⟨w.heap.size, 1, none⟩ = some (num bs.length) ∧ wr.cell? ⟨w.heap.size, 2, none⟩ = some (num t) ∧ wr.cell? ⟨w.heap.size, 3, none⟩ = some (.slice ao G.length cg) := fun {wr} hgr => by
    have hb := hgr.block w.heap.size hbl (by simp)
    rw [hbox] at hb
    simp [World.cell?, hb]
  have HBox : Hid _ := @hBox
  have hG1 := hG.more hw1
  clear hBox HBt hd1 hd hW1 hG hbox
  go_wp2_with fail
  go_loopw [6, 7] (fun v c wr => ∃ k : Nat, k ≤ G.length - 1 ∧ c = num k ∧ Row W1 wr v (padS D k)) (fun _ c _ => G.length - 1 - (intOf c).toNat)
  case atStart => exact ⟨0, Nat.zero_le _, rfl, by rw [padS, List.replicate_zero, List.append_nil]; exact hR2⟩
  case round =>
    obtain ⟨k, hk, rfl, hR⟩ := hrel
    clear hR2
    obtain ⟨k0, k1, k2, k3⟩ := HBox.out hR.more
    have hpl := padS_len D k
    rw [hbsl] at hpl
    by_cases hlt : k < G.length - 1
    · have b1 : (k : Int) < (G.length : Int) - 1 := by omega
      go_wp2_with fail
      refine (sR_at m bs.length t ao G.length cg (by omega) wr).mono ?_
      rintro e w3 ⟨rfl, rfl⟩
      have hR3 := hR.alloc (.cells #[num m, num bs.length, num t, .slice ao G.length cg] 29)
      obtain ⟨w3, hw3⟩ : ∃ w3, w3 = wr.alloc (.cells #[num m, num bs.length, num t, .slice ao G.length cg] 29) := ⟨_, rfl⟩
      rw [← hw3] at hR3
      rw [← hw3]
      have HP : Hid (padS D (k + 1) = padS D k ++ [0]) := padS_succ D k
      clear hw3 hR k0 k1 k2 k3
      go_wp2_with (first | (at_builtin; refine wpList_append_own _ rfl _ _ 27 rfl W1.heap.size 3 i0 (.int .i64 0) 1 8 Tryd.underlying27 hi hz0 hz1 hz2 rfl (by decide) _ _ _ rfl (hR3.own.alloc _) ⟨w3.heap.size, 0, none⟩ 1 1 [.int .i64 0] rfl rfl ?c1 ?c2 ?c3 ?c4 ?c5 ?_))
      case c1 => exact cell_one_new _ _ _
      case c2 => intro u hu; simp at hu; subst hu; rfl
      case c3 => unfold maxLen; omega
      case c4 => omega
      case c5 => have := hR3.more.size; simp; omega
      intro v' w6 hown hgrow _
      rw [← hpl] at hown
      have hA := hR3.append (c := 0) hown hgrow
      rw [← HP.out] at hA
      clear hown hgrow hR3
      go_wp2_with fail
      go_roundw
      case rel => exact ⟨k + 1, by omega, by go_num, hA⟩
      case measure => simp [intOf]; omega
    · obtain rfl : k = G.length - 1 := by omega
      have b1 : ¬ ((G.length - 1 : Nat) : Int) < (G.length : Int) - 1 := by omega
      have hBA : Bits (padS D (G.length - 1)) := bits_append hBD (bits_zeros _)
      go_wp2_with fail
      refine (sR_at m bs.length t ao G.length cg (by omega) wr).mono ?_
      rintro e w3 ⟨rfl, rfl⟩
      have hR3 := hR.alloc (.cells #[num m, num bs.length, num t, .slice ao G.length cg] 29)
      obtain ⟨w3, hw3⟩ : ∃ w3, w3 = wr.alloc (.cells #[num m, num bs.length, num t, .slice ao G.length cg] 29) := ⟨_, rfl⟩
      rw [← hw3] at hR3
      rw [← hw3]
      clear hw3 hR k0 k1 k2 k3
      obtain ⟨k0, k1, k2, k3⟩ := HBox.out hR3.more
      obtain ⟨aA, cA, rfl, hRdA⟩ := hR3.rdN (fun e => by rw [e] at hpl; simp at hpl; omega)
      have hrs := srest_ok m bs.length t ao aA cg cA G (padS D (G.length - 1)) (hG1.more hR3.more) hRdA hBA hBG hg1 (by omega) (by omega)
      rw [hpl, show 8 * bs.length + (G.length - 1) - (G.length - 1) = 8 * bs.length by omega] at hrs
      have HRs : Hid (Calls Tryd.prog 34 #[codeV m bs.length t (.slice ao G.length cg), .slice aA (8 * bs.length + (G.length - 1)) cA] w3 _) := hrs
      have hdl := dv_len G (padS D (G.length - 1)) (8 * bs.length)
      have hWg : w.grownBy w3 none := grownBy_trans hw1 hR3.more
      clear hrs hRdA hR3
      go_wp2_with fail
      refine HRs.out.mono ?_
      rintro e w4 ⟨g, T, rfl, hO⟩
      obtain ⟨L, hL⟩ : ∃ L, L = (dv G (padS D (G.length - 1)) (8 * bs.length)).drop (8 * bs.length) := ⟨_, rfl⟩
      have hLl : L.length = G.length - 1 := by rw [hL, List.length_drop, hdl, hpl]; omega
      have hRd : Rd (g + 1) w4 (some ⟨g, 8 * bs.length, none⟩) (ints L) := .inr ⟨g, 8 * bs.length, rfl, by omega, fun i hi' => by
        rw [ints_len] at hi'
        rw [ints_getD, hO.cell (by rw [hdl, hpl]; omega), hL, nth_drop]⟩
      have hby := sbytes_ok (some ⟨g, 8 * bs.length, none⟩) (G.length - 1 + T.length) L hRd (by omega)
      rw [hLl] at hby
      have HBy : Hid (Calls Tryd.prog 33 #[.slice (some ⟨g, 8 * bs.length, none⟩) (G.length - 1) (G.length - 1 + T.length)] w4 _) := hby
      have HL : Hid (L = (dv G (padS D (G.length - 1)) (8 * bs.length)).drop (8 * bs.length)) := hL
      have hWg4 : w.grownBy w4 none := grownBy_trans hWg hO.grown
      clear hby hRd hO hL HRs hdl
      go_wp2_with fail
      refine HBy.out.mono ?_
      rintro e w5 ⟨rfl, hP⟩
      have hWg5 : w.grownBy w5 none := grownBy_trans hWg4 hP.grown
      have hsz4 := hWg4.size
      go_wp2_with fail
      go_ret2
      exact ⟨w4.heap.size, _, rfl, rfl, hsz4, hWg5, by rw [← HL.out]; exact hP.at_⟩
end Gf
end Go.Proofs.YtiojdoehlooibaaDoor

/- The document's own answers of layer 2 (bch): the value at a power. -/
namespace Go.Proofs.YtiojdoehlooibaaDoor
open Go.RowKit
namespace Gf
theorem ev_rev_take {m x : Nat} {l : List Nat} (hl : Els m l) {i : Nat} (hi : i < l.length) : ev m x (l.take (i + 1)).reverse = mul m (ev m x (l.take i).reverse) x ^^^ nth l i := by
  rw [take_snoc' hi, List.reverse_append, List.reverse_singleton, List.singleton_append, ev_cons x (hl i)]
set_option maxHeartbeats 1600000 in
set_option maxRecDepth 4000 in
theorem ssyndrome_ok {w : World} {m : Nat} (hm : Em m) (bytes t : Int) (ao al : Option Addr) (len cg cl : Nat) (l : List Nat) (hl : RdN w al l) (hB : Bits l) (k : Int) (hn : l.length ≤ 100000) :
    Calls Tryd.prog 44 #[codeV m bytes t (.slice ao len cg), .slice al l.length cl, num k] w fun e w' => e = .returned (num (ev m (xp m k) l.reverse)) ∧ w.grownBy w' none := by
  have hw1 := World.grownBy_alloc w (.cells #[num m, num bytes, num t, .slice ao len cg] 29) none
  have hX := xp_bd hm k
  obtain ⟨X, hXe⟩ : ∃ X, X = xp m k := ⟨_, rfl⟩
  have HX : Hid (xp m k = X) := hXe.symm
  rw [← hXe] at hX ⊢
  clear hXe
  have hz := sz_bd hm
  have HEx : Hid (el m (X : Int) = X) := el_of hX.2
  obtain ⟨W1, hW1⟩ : ∃ W1, W1 = w.alloc (.cells #[num m, num bytes, num t, .slice ao len cg] 29) := ⟨_, rfl⟩
  have k0 : W1.cell? ⟨w.heap.size, 0, none⟩ = some (num m) := by
    have : W1.heap[w.heap.size]? = some (.cells #[num m, num bytes, num t, .slice ao len cg] 29) := by rw [hW1]; exact heap_alloc_new w _
    simp [World.cell?, this]
  have hl1 := hl.more hw1
  go_enter Tryd.func44, Tryd.ntmps44
  go_wp2_with fail
  rw [← hW1] at hl1 hw1 ⊢
  refine (rExp_ok hm k W1).mono ?_
  rintro e w2 ⟨rfl, rfl⟩
  rw [HX.out]
  clear hW1 hl
  go_wp2_with fail
  go_loopw [8, 9] (fun y c wr => ∃ i : Nat, i ≤ l.length ∧ c = num i ∧ y = num (ev m X (l.take i).reverse) ∧ w.grownBy wr none ∧ RdN wr al l ∧ wr.cell? ⟨w.heap.size, 0, none⟩ = some (num m)) (fun _ c _ => l.length - (intOf c).toNat)
  case atStart => exact ⟨0, Nat.zero_le _, rfl, rfl, hw1, hl1, k0⟩
  case round =>
    obtain ⟨i, hil, rfl, rfl, hg, hr, hb⟩ := hrel
    clear hw1 hl1 k0
    by_cases hlt : i < l.length
    · have b1 : (i : Int) < (l.length : Int) := by omega
      have hr' := hr
      obtain ⟨gl, ol, rfl, hc⟩ := hr'.resolve_left (fun e => by rw [e] at hlt; simp at hlt)
      have ck := hc i hlt
      have hE := ev_le hm X (l.take i).reverse
      have HT : Hid _ := ev_rev_take (x := X) (hB.els hm) hlt
      obtain ⟨Y, hY⟩ : ∃ Y, Y = ev m X (l.take i).reverse := ⟨_, rfl⟩
      rw [← hY] at hE HT
      rw [← hY]
      clear hY hc
      have HY : Hid (el m (Y : Int) = Y) := el_of hE
      have hM := mul_le hm Y X
      have hbi := hB i
      have hxo : bits .xor .i64 (mul m Y X : Int) (nth l i : Int) = ((mul m Y X ^^^ nth l i : Nat) : Int) := xor_i64 _ _ (by omega) (by omega)
      go_wp2_with fail
      go_region_with (go_at_call 64; refine (rMul_ok hm _ _ _).mono ?_; rintro e w4 ⟨rfl, rfl⟩; rw [HY.out, HEx.out])
      all_goals
        go_wp2
        go_roundw
        case rel => exact ⟨i + 1, by omega, by go_num, by rw [HT.out], grownBy_drew hg, hr, hb⟩
        case measure => simp [intOf]; omega
    · obtain rfl : i = l.length := by omega
      have HL : Hid (l.take l.length = l) := List.take_length
      go_wp2_with fail
      go_ret
      exact ⟨ret_int (by rw [HL.out]), hg⟩
end Gf
end Go.Proofs.YtiojdoehlooibaaDoor

/- The document's own answers of layer 2 (bch): the bits of data and parity. -/
namespace Go.Proofs.YtiojdoehlooibaaDoor
open Go.RowKit
namespace Gf
theorem Row.kept {w0 wr w' : World} {v : Value} {S : List Nat} (h : Row w0 wr v S) (hg : wr.grownBy w' none) : Row w0 w' v S :=
  ⟨h.own.kept hg (by
    cases e : v.ownBlock with
    | none => exact .inl rfl
    | some k => exact .inr (by simp)), grownBy_trans h.more hg⟩
theorem Row.appends {w0 wx w6 : World} {v v' : Value} {S X : List Nat} (h : Row w0 wx v S) (hown : w6.ownsRow w0.heap.size 3 1 v' (S.length + X.length) (vals S ++ vals X)) (hgrow : wx.grownBy w6 v.ownBlock) : Row w0 w6 v' (S ++ X) := by
  have hsz := h.more.size
  have hsz6 := hgrow.size
  have hob : ∀ k, v.ownBlock = some k → w0.heap.size ≤ k := fun k hk => (h.own.lt k hk).1
  refine ⟨?_, ⟨hgrow.os.trans h.more.os, hgrow.tape.trans h.more.tape, hgrow.output.trans h.more.output, by omega, fun k hk _ => ?_⟩⟩
  · have e1 : vals (S ++ X) = vals S ++ vals X := by simp [vals]
    rw [e1, List.length_append]
    exact hown
  · rw [hgrow.block k (by omega) (fun e => by have := hob k e.symm; omega)]
    exact h.more.block k hk (by simp)
set_option maxHeartbeats 1600000 in
set_option maxRecDepth 4000 in
theorem sword_ok {w : World} (m bytes t : Int) (ao ad ap : Option Addr) (len cg cd cp : Nat) (ds ps : List Nat) (hd : RdB w ad ds) (hp : RdB w ap ps) (hg1 : 2 ≤ len) (hgl : len ≤ 1000) (hr : len - 1 ≤ 8 * ps.length) (hd1 : 1 ≤ ds.length) (hn : ds.length ≤ 10000) (hpn : ps.length ≤ 10000) :
    Calls Tryd.prog 42 #[codeV m bytes t (.slice ao len cg), .slice ad ds.length cd, .slice ap ps.length cp] w fun e w' => ∃ v, e = .returned v ∧ ∃ W1, w.grownBy W1 none ∧ Row W1 w' v (bitsS ds ++ (bitsS ps).take (len - 1)) := by
  obtain ⟨i0, hi, hz0, hz1, hz2⟩ := info_parts Tryd.info3
  have hw1 := World.grownBy_alloc w (.cells #[num m, num bytes, num t, .slice ao len cg] 29) none
  obtain ⟨W1, hW1⟩ : ∃ W1, W1 = w.alloc (.cells #[num m, num bytes, num t, .slice ao len cg] 29) := ⟨_, rfl⟩
  have hbox : W1.heap[w.heap.size]? = some (.cells #[num m, num bytes, num t, .slice ao len cg] 29) := by rw [hW1]; exact heap_alloc_new w _
  have hbl := lt_of_heap hbox
  have hdW := hd.more hw1
  have hpW := hp.more hw1
  rw [← hW1] at hw1 hdW hpW
  have hBd := sBits_ok (w := W1) ad cd ds hdW (by omega)
  have hld := bitsS_len ds
  have hlp := bitsS_len ps
  have hBp : ∀ {w2 : World}, W1.grownBy w2 none → Calls Tryd.prog 32 #[.slice ap ps.length cp] w2 fun e w' => ∃ v, e = .returned v ∧ Row w2 w' v (bitsS ps) := fun hg => sBits_ok ap cp ps (hpW.more hg) (by omega)
  obtain ⟨D, hD⟩ : ∃ D, D = bitsS ds := ⟨_, rfl⟩
  obtain ⟨P, hP⟩ : ∃ P, P = bitsS ps := ⟨_, rfl⟩
  rw [← hD] at hBd hld ⊢
  rw [← hP] at hlp ⊢
  rw [← hP] at hBp
  have HBd : Hid (Calls Tryd.prog 32 #[.slice ad ds.length cd] W1 _) := hBd
  have HBp : Hid _ := @hBp
  clear hBd hBp hD hP hd hp hdW hpW
  go_enter Tryd.func42, Tryd.ntmps42
  go_wp2_with fail
  rw [← hW1]
  refine HBd.out.mono ?_
  rintro e w2 ⟨v2, rfl, hR2⟩
  go_wp2_with fail
  refine (HBp.out hR2.more).mono ?_
  rintro e w3 ⟨v3, rfl, hR3⟩
  have hR23 := hR2.kept hR3.more
  have hb3 : w3.heap[w.heap.size]? = some (.cells #[num m, num bytes, num t, .slice ao len cg] 29) := by
    rw [hR23.more.block w.heap.size hbl (by simp)]; exact hbox
  have k0 : w3.cell? ⟨w.heap.size, 0, none⟩ = some (num m) := by simp [World.cell?, hb3]
  have k1 : w3.cell? ⟨w.heap.size, 1, none⟩ = some (num bytes) := by simp [World.cell?, hb3]
  have k2 : w3.cell? ⟨w.heap.size, 2, none⟩ = some (num t) := by simp [World.cell?, hb3]
  have k3 : w3.cell? ⟨w.heap.size, 3, none⟩ = some (.slice ao len cg) := by simp [World.cell?, hb3]
  clear hW1 hbox hb3 HBd HBp hR2
  rcases hR3.own.2 with ⟨rfl, hn0⟩ | ⟨g, cap, cur, rfl, hg, hh, hle, hq, hcs, ht⟩
  · exfalso; rw [hlp] at hn0; omega
  go_wp2_with fail
  refine (sR_at m bytes t ao len cg (by omega) w3).mono ?_
  rintro e w4 ⟨rfl, rfl⟩
  have hR4 := hR23.alloc (.cells #[num m, num bytes, num t, .slice ao len cg] 29)
  have hh4 : (w3.alloc (.cells #[num m, num bytes, num t, .slice ao len cg] 29)).heap[g]? = some (.cells cur 3) := by
    rw [Below.heap_alloc _ _ _ (lt_of_heap hh)]; exact hh
  obtain ⟨w4, hw4⟩ : ∃ w4, w4 = w3.alloc (.cells #[num m, num bytes, num t, .slice ao len cg] 29) := ⟨_, rfl⟩
  rw [← hw4] at hR4 hh4
  rw [← hw4]
  have hTl : (P.take (len - 1)).length = len - 1 := by rw [List.length_take, hlp, Nat.min_eq_left hr]
  have hcl : ∀ j u, (vals (P.take (len - 1)))[j]? = some u → w4.cell? ((⟨g, 0, none⟩ : Addr).add j) = some u := fun j u hj => by
    have hjl : j < len - 1 := by
      have := (List.getElem?_eq_some_iff.1 hj).1
      rwa [vals_len, hTl] at this
    have hjP : j < P.length := by omega
    rw [Nat.mul_one] at ht
    have hh5 : w4.heap[g]? = some (.cells cur.toList.toArray 3) := by simpa using hh4
    rw [addr_add, cell_row hh5, take_cell ht j hjP, ← hj, vals_at (by rw [hTl]; exact hjl), nth_take P hjl]
  have HCl : Hid _ := hcl
  have hsz4 := hR4.more.size
  have b1 : (len : Int) - 1 = ((len - 1 : Nat) : Int) := by omega
  have b2 : ((len : Int) - 1).toNat = len - 1 := by omega
  clear hw4 hcl k0 k1 k2 k3 hh hh4 ht hR3 hR23
  go_wp2_with (first | (at_builtin; refine wpList_append_own _ rfl _ _ 27 rfl W1.heap.size 3 i0 (.int .i64 0) 1 8 Tryd.underlying27 hi hz0 hz1 hz2 rfl (by decide) _ _ _ rfl hR4.own ⟨g, 0, none⟩ (len - 1) cap (vals (P.take (len - 1))) rfl (by rw [vals_len, hTl]; omega) ?c1 ?c2 ?c3 ?c4 ?c5 ?_))
  case c1 => exact HCl.out
  case c2 => intro u hu; unfold vals at hu; obtain ⟨x, _, rfl⟩ := List.mem_map.1 hu; rfl
  case c3 => unfold maxLen; omega
  case c4 => omega
  case c5 => omega
  intro v' w6 hown hgrow _
  have hA : Row W1 w6 v' (D ++ P.take (len - 1)) := hR4.appends (by rw [hTl, hld]; exact hown) hgrow
  go_wp2_with fail
  go_ret
  exact ⟨_, rfl, W1, hw1, hA⟩
end Gf
end Go.Proofs.YtiojdoehlooibaaDoor
