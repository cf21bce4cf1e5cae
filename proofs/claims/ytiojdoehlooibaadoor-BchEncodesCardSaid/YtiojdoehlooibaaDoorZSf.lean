/- The document's own answers of layer 2 (bch): the parity of data. -/
import Derived.Test.YtiojdoehlooibaaDoorZSe
namespace Go.Proofs.YtiojdoehlooibaaDoor
open Go.RowKit
namespace Gf
set_option maxHeartbeats 400000 in
theorem sR_at (m bytes t : Int) (ao : Option Addr) (len cap : Nat) (hl : len ≤ 1000000) (w : World) :
    Calls Tryd.prog 14 #[codeV m bytes t (.slice ao len cap)] w fun e w' => e = .returned (num ((len : Int) - 1)) ∧ w' = w.alloc (.cells #[num m, num bytes, num t, .slice ao len cap] 29) := by
  go_enter Tryd.func14, Tryd.ntmps14
  go_wp2
  go_ret
  exact ⟨rfl, rfl⟩
theorem Row.alloc {w0 wr : World} {v : Value} {S : List Nat} (h : Row w0 wr v S) (o : Obj) : Row w0 (wr.alloc o) v S := ⟨h.own.alloc o, grownBy_trans h.more (World.grownBy_alloc _ _ none)⟩
theorem Row.rdN {w0 wr : World} {v : Value} {S : List Nat} (h : Row w0 wr v S) (hS : S ≠ []) : ∃ ao cap, v = .slice ao S.length cap ∧ RdN wr ao S := by
  rcases h.own.2 with ⟨rfl, hn⟩ | ⟨g, cap, cur, rfl, hg, hh, hle, _, hcs, ht⟩
  · exact absurd (List.eq_nil_of_length_eq_zero hn) hS
  · refine ⟨_, _, rfl, .inr ⟨g, 0, rfl, fun i hi => ?_⟩⟩
    rw [Nat.mul_one] at ht
    have hh' : wr.heap[g]? = some (.cells cur.toList.toArray 3) := by simpa using hh
    rw [Nat.zero_add, cell_row hh', take_cell ht i hi]
/-- Bits and noughts behind them. -/
def padS (D : List Nat) (n : Nat) : List Nat := D ++ List.replicate n 0
theorem padS_succ (D : List Nat) (n : Nat) : padS D (n + 1) = padS D n ++ [0] := by
  unfold padS
  rw [List.replicate_succ', List.append_assoc]
theorem padS_len (D : List Nat) (n : Nat) : (padS D n).length = D.length + n := by simp [padS]
set_option maxHeartbeats 3200000 in
set_option maxRecDepth 4000 in
theorem sEncode_ok {w : World} (m t : Int) (ao ad : Option Addr) (cg cd : Nat) (G bs : List Nat) (hG : RdN w ao G) (hd : RdB w ad bs) (hBG : Bits G) (hg1 : 2 ≤ G.length) (hgl : G.length ≤ 1000) (hb1 : 1 ≤ bs.length) (hn : bs.length ≤ 10000) :
    Calls Tryd.prog 19 #[codeV m bs.length t (.slice ao G.length cg), .slice ad bs.length cd] w fun e w' => ∃ g n, e = .returned (.tuple #[.slice (some ⟨g, 0, none⟩) n n, num 0]) ∧ n = (G.length - 1 + 7) / 8 ∧ w.heap.size ≤ g ∧ w.grownBy w' none ∧
      w'.heap[g]? = some (.cells (valsB (bytesS ((dv G (padS (bitsS bs) (G.length - 1)) (8 * bs.length)).drop (8 * bs.length)))).toArray 5) := by
  obtain ⟨i0, hi, hz0, hz1, hz2⟩ := info_parts Tryd.info3
  have hw1 := World.grownBy_alloc w (.cells #[num m, num bs.length, num t, .slice ao G.length cg] 29) none
  obtain ⟨W1, hW1⟩ : ∃ W1, W1 = w.alloc (.cells #[num m, num bs.length, num t, .slice ao G.length cg] 29) := ⟨_, rfl⟩
  have hbox : W1.heap[w.heap.size]? = some (.cells #[num m, num bs.length, num t, .slice ao G.length cg] 29) := by rw [hW1]; exact heap_alloc_new w _
  have hd1 := hd.more hw1
  have hbl := lt_of_heap hbox
  have hbsl := bitsS_len bs
  have hBt := sBits_ok (w := W1) ad cd bs (by rw [hW1]; exact hd1) (by omega)
  have hBD := bits_bitsS bs
  obtain ⟨D, hD⟩ : ∃ D, D = bitsS bs := ⟨_, rfl⟩
  rw [← hD] at hBt hBD hbsl ⊢
  have HBt : Hid (Calls Tryd.prog 32 #[.slice ad bs.length cd] W1 _) := hBt
  clear hD hBt
  go_enter Tryd.func19, Tryd.ntmps19
  go_wp2_with fail
  rw [← hW1]
  refine HBt.out.mono ?_
  rintro e w2 ⟨v2, rfl, hR2⟩
  rw [← hW1] at hw1
  have hBox : ∀ {wr : World}, W1.grownBy wr none → wr.cell? ⟨w.heap.size, 0, none⟩ = some (num m) ∧ wr.cell? ⟨w.heap.size, 1, none⟩ = some (num bs.length) ∧ wr.cell? ⟨w.heap.size, 2, none⟩ = some (num t) ∧ wr.cell? ⟨w.heap.size, 3, none⟩ = some (.slice ao G.length cg) := fun {wr} hgr => by
    have hb := hgr.block w.heap.size hbl (by simp)
    rw [hbox] at hb
    simp [World.cell?, hb]
  have HBox : Hid _ := @hBox
  have hG1 := hG.more hw1
  clear hBox HBt hd1 hd hW1 hG hbox
  go_wp2_with fail
  go_loopw [6, 7] (fun v c wr => ∃ k : Nat, k ≤ G.length - 1 ∧ c = num k ∧ Row W1 wr v (padS D k)) (fun _ c _ => G.length - 1 - (intOf c).toNat)
  case atStart => exact ⟨0, Nat.zero_le _, rfl, by rw [padS, List.replicate_zero, List.append_nil]; exact hR2⟩
  case round =>
    obtain ⟨k, hk, rfl, hR⟩ := hrel
    clear hR2
    obtain ⟨k0, k1, k2, k3⟩ := HBox.out hR.more
    have hpl := padS_len D k
    rw [hbsl] at hpl
    by_cases hlt : k < G.length - 1
    · have b1 : (k : Int) < (G.length : Int) - 1 := by omega
      go_wp2_with fail
      refine (sR_at m bs.length t ao G.length cg (by omega) wr).mono ?_
      rintro e w3 ⟨rfl, rfl⟩
      have hR3 := hR.alloc (.cells #[num m, num bs.length, num t, .slice ao G.length cg] 29)
      obtain ⟨w3, hw3⟩ : ∃ w3, w3 = wr.alloc (.cells #[num m, num bs.length, num t, .slice ao G.length cg] 29) := ⟨_, rfl⟩
      rw [← hw3] at hR3
      rw [← hw3]
      have HP : Hid (padS D (k + 1) = padS D k ++ [0]) := padS_succ D k
      clear hw3 hR k0 k1 k2 k3
      go_wp2_with (first | (at_builtin; refine wpList_append_own _ rfl _ _ 27 rfl W1.heap.size 3 i0 (.int .i64 0) 1 8 Tryd.underlying27 hi hz0 hz1 hz2 rfl (by decide) _ _ _ rfl (hR3.own.alloc _) ⟨w3.heap.size, 0, none⟩ 1 1 [.int .i64 0] rfl rfl ?c1 ?c2 ?c3 ?c4 ?c5 ?_))
      case c1 => exact cell_one_new _ _ _
      case c2 => intro u hu; simp at hu; subst hu; rfl
      case c3 => unfold maxLen; omega
      case c4 => omega
      case c5 => have := hR3.more.size; simp; omega
      intro v' w6 hown hgrow _
      rw [← hpl] at hown
      have hA := hR3.append (c := 0) hown hgrow
      rw [← HP.out] at hA
      clear hown hgrow hR3
      go_wp2_with fail
      go_roundw
      case rel => exact ⟨k + 1, by omega, by go_num, hA⟩
      case measure => simp [intOf]; omega
    · obtain rfl : k = G.length - 1 := by omega
      have b1 : ¬ ((G.length - 1 : Nat) : Int) < (G.length : Int) - 1 := by omega
      have hBA : Bits (padS D (G.length - 1)) := bits_append hBD (bits_zeros _)
      go_wp2_with fail
      refine (sR_at m bs.length t ao G.length cg (by omega) wr).mono ?_
      rintro e w3 ⟨rfl, rfl⟩
      have hR3 := hR.alloc (.cells #[num m, num bs.length, num t, .slice ao G.length cg] 29)
      obtain ⟨w3, hw3⟩ : ∃ w3, w3 = wr.alloc (.cells #[num m, num bs.length, num t, .slice ao G.length cg] 29) := ⟨_, rfl⟩
      rw [← hw3] at hR3
      rw [← hw3]
      clear hw3 hR k0 k1 k2 k3
      obtain ⟨k0, k1, k2, k3⟩ := HBox.out hR3.more
      obtain ⟨aA, cA, rfl, hRdA⟩ := hR3.rdN (fun e => by rw [e] at hpl; simp at hpl; omega)
      have hrs := srest_ok m bs.length t ao aA cg cA G (padS D (G.length - 1)) (hG1.more hR3.more) hRdA hBA hBG hg1 (by omega) (by omega)
      rw [hpl, show 8 * bs.length + (G.length - 1) - (G.length - 1) = 8 * bs.length by omega] at hrs
      have HRs : Hid (Calls Tryd.prog 34 #[codeV m bs.length t (.slice ao G.length cg), .slice aA (8 * bs.length + (G.length - 1)) cA] w3 _) := hrs
      have hdl := dv_len G (padS D (G.length - 1)) (8 * bs.length)
      have hWg : w.grownBy w3 none := grownBy_trans hw1 hR3.more
      clear hrs hRdA hR3
      go_wp2_with fail
      refine HRs.out.mono ?_
      rintro e w4 ⟨g, T, rfl, hO⟩
      obtain ⟨L, hL⟩ : ∃ L, L = (dv G (padS D (G.length - 1)) (8 * bs.length)).drop (8 * bs.length) := ⟨_, rfl⟩
      have hLl : L.length = G.length - 1 := by rw [hL, List.length_drop, hdl, hpl]; omega
      have hRd : Rd (g + 1) w4 (some ⟨g, 8 * bs.length, none⟩) (ints L) := .inr ⟨g, 8 * bs.length, rfl, by omega, fun i hi' => by
        rw [ints_len] at hi'
        rw [ints_getD, hO.cell (by rw [hdl, hpl]; omega), hL, nth_drop]⟩
      have hby := sbytes_ok (some ⟨g, 8 * bs.length, none⟩) (G.length - 1 + T.length) L hRd (by omega)
      rw [hLl] at hby
      have HBy : Hid (Calls Tryd.prog 33 #[.slice (some ⟨g, 8 * bs.length, none⟩) (G.length - 1) (G.length - 1 + T.length)] w4 _) := hby
      have HL : Hid (L = (dv G (padS D (G.length - 1)) (8 * bs.length)).drop (8 * bs.length)) := hL
      have hWg4 : w.grownBy w4 none := grownBy_trans hWg hO.grown
      clear hby hRd hO hL HRs hdl
      go_wp2_with fail
      refine HBy.out.mono ?_
      rintro e w5 ⟨rfl, hP⟩
      have hWg5 : w.grownBy w5 none := grownBy_trans hWg4 hP.grown
      have hsz4 := hWg4.size
      go_wp2_with fail
      go_ret2
      exact ⟨w4.heap.size, _, rfl, rfl, hsz4, hWg5, by rw [← HL.out]; exact hP.at_⟩
end Gf
end Go.Proofs.YtiojdoehlooibaaDoor
