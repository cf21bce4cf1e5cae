/- gap: by how much a recurrence misses. -/
import Derived.Test.YtiojdoehlooibaaDoorZDc
import Derived.Test.YtiojdoehlooibaaDoorZCo
import Derived.BigRegion
import Derived.Deep.RegionHeld3
namespace Go.Proofs.YtiojdoehlooibaaDoor
open Go.RowKit
namespace Gf
/-- The first k of the products. -/
def gp (m : Nat) (C s : List Nat) (n k : Nat) : Nat := sm (List.range k) fun i => if i ≤ n then mul m (nth C i) (nth s (n - i)) else 0
theorem gp_le {m : Nat} (h : Em m) (C s : List Nat) (n k : Nat) : gp m C s n k ≤ sz m := sm_le fun i _ => by
  show (if i ≤ n then _ else _) ≤ _
  split
  · exact mul_le h _ _
  · exact Nat.zero_le _
theorem gp_succ (m : Nat) (C s : List Nat) (n k : Nat) : gp m C s n (k + 1) = gp m C s n k ^^^ (if k ≤ n then mul m (nth C k) (nth s (n - k)) else 0) := by
  unfold gp
  rw [List.range_succ, sm_append, sm_cons, sm_nil, Nat.xor_zero]
theorem gp_all (m : Nat) (C s : List Nat) (n : Nat) : gp m C s n C.length = cf m (nth C) (nth s) n := by
  have hA : gp m C s n (C.length + (n + 1)) = gp m C s n C.length := by
    unfold gp
    rw [List.range_add, sm_append, sm_map, sm_zero (X := List.range (n + 1)) fun i _ => ?_, Nat.xor_zero]
    show (if C.length + i ≤ n then mul m (nth C (C.length + i)) (nth s (n - (C.length + i))) else 0) = 0
    rw [nth_over C (by omega), zero_mul, ite_self]
  have hB : gp m C s n (n + 1 + C.length) = cf m (nth C) (nth s) n := by
    unfold gp cf
    rw [List.range_add, sm_append, sm_map, sm_zero (X := List.range C.length) fun i _ => ?_, Nat.xor_zero]
    · exact sm_congr fun i hi => by rw [List.mem_range] at hi; rw [if_pos (by omega)]
    · show (if n + 1 + i ≤ n then mul m (nth C (n + 1 + i)) (nth s (n - (n + 1 + i))) else 0) = 0
      rw [if_neg (by omega)]
  rw [← hA, Nat.add_comm, hB]
/-- Rows that can be read, and are none of the field's. -/
def RdF (b : Nat) (w : World) (ao : Option Addr) (l : List Nat) : Prop := l = [] ∨ ∃ g off, ao = some ⟨g, off, none⟩ ∧ g ≠ b ∧ ∀ i, i < l.length → w.cell? ⟨g, off + i, none⟩ = some (num (nth l i : Nat))
theorem RdF.step {b : Nat} {w w' : World} {ao : Option Addr} {l : List Nat} (h : RdF b w ao l) (hs : Step b w w') : RdF b w' ao l := by
  rcases h with h | ⟨g, off, h1, h2, h3⟩
  · exact .inl h
  · by_cases hx : l = []
    · exact .inl hx
    · refine .inr ⟨g, off, h1, h2, fun i hi => ?_⟩
      rw [hs.cell (lt_of_cell (h3 i hi)) h2]; exact h3 i hi
theorem RdF.rd {b : Nat} {w : World} {ao : Option Addr} {l : List Nat} (h : RdF b w ao l) : Rd b w ao (ints l) := by
  rcases h with rfl | ⟨g, off, h1, h2, h3⟩
  · exact .inl rfl
  · refine .inr ⟨g, off, h1, h2, fun i hi => ?_⟩
    rw [ints_len] at hi
    rw [ints_getD]; exact h3 i hi
theorem RdF.rdN {b : Nat} {w : World} {ao : Option Addr} {l : List Nat} (h : RdF b w ao l) : RdN w ao l := by
  rcases h with rfl | ⟨g, off, h1, h2, h3⟩
  · exact .inl rfl
  · exact .inr ⟨g, off, h1, h3⟩
theorem RdF.at {b : Nat} {w : World} {ao : Option Addr} {l : List Nat} (h : RdF b w ao l) {k : Nat} (hk : k < l.length) : ∃ g off, ao = some ⟨g, off, none⟩ ∧ w.cell? ⟨g, off + k, none⟩ = some (num (nth l k : Nat)) := by
  obtain ⟨g, off, h1, _, h3⟩ := h.resolve_left (fun e => by rw [e] at hk; simp at hk)
  exact ⟨g, off, h1, h3 k hk⟩
theorem Res.rdF {b : Nat} {w : World} {B : Nat} {v : Value} {xs : List Nat} (h : Res b w B v xs) : ∃ ao cap, v = .slice ao xs.length cap ∧ RdF b w ao xs ∧ xs.length ≤ cap := by
  rcases h with ⟨rfl, rfl⟩ | ⟨g, L, h1, h2, h3, h4, _⟩
  · exact ⟨none, 0, rfl, .inl rfl, Nat.le_refl _⟩
  · refine ⟨_, _, h1, .inr ⟨g, 0, rfl, h2.free.1, fun i hi => ?_⟩, h4⟩
    rw [Nat.zero_add, h2.cell, take_cell h3 i hi]
theorem gap_keep {b c m bytes t : Nat} {wr w' w1 : World} {g o : Nat} {v : Value} (hb : g ≠ b) (hg : g < wr.heap.size) (h : Cod w' c b m bytes t ∧ Step b wr w' ∧ w'.cell? ⟨c, 0, none⟩ = some (ptr b) ∧ w'.cell? ⟨g, o, none⟩ = some v) (h1 : Fld w1 b m) (h2 : Step b w' w1) :
    Cod w1 c b m bytes t ∧ Step b wr w1 ∧ w1.cell? ⟨c, 0, none⟩ = some (ptr b) ∧ w1.cell? ⟨g, o, none⟩ = some v := by
  have hc := h.1.step h2 h1
  exact ⟨hc, h.2.1.trans h2, hc.c0, by rw [h2.cell (Nat.lt_of_lt_of_le hg h.2.1.size) hb]; exact h.2.2.2⟩
set_option maxHeartbeats 3200000 in
set_option maxRecDepth 4000 in
theorem gap_ok {w : World} {c b m bytes t : Nat} (h : Cod w c b m bytes t) (ac sa : Option Addr) (cc cs n : Nat) (C s : List Nat) (hC : RdF b w ac C) (hs : RdF b w sa s) (eC : Els m C) (es : Els m s) (lC : C.length ≤ 100000) (ln : n < s.length) (ls : s.length ≤ 100000) :
    Calls Tryd.prog 61 #[ptr c, .slice ac C.length cc, .slice sa (n + 1) cs] w fun e w' => e = .returned (num (cf m (nth C) (nth s) n : Nat)) ∧ Cod w' c b m bytes t ∧ Step b w w' := by
  have hem := h.em
  have hz := sz_bd hem
  obtain ⟨N1, hN1⟩ : ∃ N1, N1 = n + 1 := ⟨_, rfl⟩
  rw [← hN1]
  have HN1 : Hid (N1 = n + 1) := hN1
  clear hN1
  go_enter Tryd.func61, Tryd.ntmps61
  go_wp2_with fail
  go_loopw [7, 12] (fun v i wr => ∃ k : Nat, k ≤ C.length ∧ i = num k ∧ v = num (gp m C s n k : Nat) ∧ Cod wr c b m bytes t ∧ Step b w wr) (fun _ i _ => C.length - (intOf i).toNat)
  case atStart => exact ⟨0, Nat.zero_le _, rfl, rfl, h, Step.refl _ _⟩
  case round =>
    obtain ⟨k, hk, rfl, rfl, hcod, hst⟩ := hrel
    by_cases hlt : k < C.length
    · have b1 : (k : Int) < (C.length : Int) := by omega
      obtain ⟨gc, oc, hac, ck⟩ := (hC.step hst).at hlt
      subst hac
      have HS : Hid _ := gp_succ m C s n k
      have hG := gp_le hem C s n k
      obtain ⟨G, hGe⟩ : ∃ G, G = gp m C s n k := ⟨_, rfl⟩
      rw [← hGe] at hG HS ⊢
      clear hGe
      by_cases hkn : k ≤ n
      · have hq := HN1.out
        have b2 : (k : Int) < (N1 : Int) := by omega
        obtain ⟨gs, os, has, hsb, hcs⟩ := (hs.step hst).resolve_left (fun e => by rw [e] at ln; simp at ln)
        subst has
        have cs' := hcs (n - k) (by omega)
        have hgs := lt_of_cell cs'
        clear hcs
        have b6 : (N1 : Int) ≤ 100000 := by omega
        have b7 : (1 : Int) ≤ (N1 : Int) := by omega
        obtain ⟨D, hD⟩ : ∃ D, D = n - k := ⟨_, rfl⟩
        have b5 : (D : Int) < (N1 : Int) := by omega
        have w1 : IntKind.i64.wrap ((N1 : Int) - 1) = (N1 : Int) - 1 := by rw [IntKind.wrap_i64]; omega
        have w2 : IntKind.i64.wrap ((N1 : Int) - 1 - (k : Int)) = (D : Int) := by rw [IntKind.wrap_i64]; omega
        rw [← hD] at cs' HS
        clear hq
        rw [if_pos hkn] at HS
        have c0 := hcod.c0
        have hcd := hcod.more (grownBy_drew (World.grownBy.refl _ _))
        have HS0 : Hid (Cod wr.drew c b m bytes t ∧ Step b wr wr.drew ∧ wr.drew.cell? ⟨c, 0, none⟩ = some (ptr b) ∧ wr.drew.cell? ⟨gs, os + (D), none⟩ = some (num (nth s (D) : Nat))) := ⟨hcd, (Step.refl _ _).drew, c0, cs'⟩
        have HMu : Hid (∀ {w5 : World}, Cod w5 c b m bytes t → Calls Tryd.prog 67 #[ptr b, num (nth C k : Int), num (nth s (D) : Int)] w5 fun e w' => e = .returned (num (mul m (nth C k) (nth s (D)))) ∧ Fld w' b m ∧ Step b w5 w') := fun {w5} h5 => by
          have hm := mul_ok h5.fld (nth C k : Int) (nth s (D) : Int)
          rwa [el_of (eC k), el_of (es (D))] at hm
        have hml := mul_le hem (nth C k) (nth s (D))
        obtain ⟨P, hPe⟩ : ∃ P, P = mul m (nth C k) (nth s (D)) := ⟨_, rfl⟩
        rw [← hPe] at HMu HS hml
        have HG : Hid (el m (G : Int) = G) := el_of hG
        have HP : Hid (el m (P : Int) = P) := el_of hml
        clear hPe hcd hD
        go_wp2_with fail
        go_region_held3 (fun w' => Cod w' c b m bytes t ∧ Step b wr w' ∧ w'.cell? ⟨c, 0, none⟩ = some (ptr b) ∧ w'.cell? ⟨gs, os + (D), none⟩ = some (num (nth s (D) : Nat))) (first | assumption | exact HS0.out | exact gap_keep hsb hgs ‹_› ‹_› ‹_›)
          (first | (go_at_call 67; refine (HMu.out (‹Cod _ c b m bytes t ∧ _›).1).mono ?_; rintro e w5 ⟨rfl, hF5, hs5⟩) | (go_at_call 66; refine (add_ok (‹Cod _ c b m bytes t ∧ _›).1.fld _ _).mono ?_; rintro e w6 ⟨rfl, rfl⟩))
        all_goals
          have hc6 : Cod w6 c b m bytes t ∧ Step b wr w6 ∧ _ := ‹Cod w6 c b m bytes t ∧ Step b wr w6 ∧ _›
          have hc5 := hc6.1
          have hst5 : Step b w w6 := hst.trans hc6.2.1
          clear hc6 c0 cs'
          rw [HG.out, HP.out]
          go_wp2
          go_roundw
          case rel => exact ⟨k + 1, by omega, by go_num, by rw [HS.out], hc5, hst5⟩
          case measure => simp [intOf]; omega
      · have b2 : ¬ (k : Int) < (N1 : Int) := by have := HN1.out; omega
        rw [if_neg hkn, Nat.xor_zero] at HS
        go_wp2_with fail
        go_roundw
        case rel => exact ⟨k + 1, by omega, by go_num, by rw [HS.out], hcod, hst⟩
        case measure => simp [intOf]; omega
    · obtain rfl : k = C.length := by omega
      have b1 : ¬ ((C.length : Int) < (C.length : Int)) := by omega
      have HA : Hid _ := gp_all m C s n
      rw [HA.out]
      go_wp2_with fail
      go_ret
      exact ⟨rfl, hcod, hst⟩
end Gf
end Go.Proofs.YtiojdoehlooibaaDoor
