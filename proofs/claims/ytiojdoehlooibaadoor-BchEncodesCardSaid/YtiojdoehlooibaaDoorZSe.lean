/- The document's own answers of layer 2 (bch): are bits a word? -/
import Derived.Test.YtiojdoehlooibaaDoorZSd
namespace Go.Proofs.YtiojdoehlooibaaDoor
open Go.RowKit
namespace Gf
/-- Nothing is left. -/
def NoLeft (G l : List Nat) : Prop := ∀ k, k < G.length - 1 → nth (dv G l (l.length - (G.length - 1))) (l.length - (G.length - 1) + k) = 0
def noLeftB (G l : List Nat) : Bool := (List.range (G.length - 1)).all fun k => nth (dv G l (l.length - (G.length - 1))) (l.length - (G.length - 1) + k) == 0
theorem noLeftB_iff (G l : List Nat) : noLeftB G l = true ↔ NoLeft G l := by
  unfold noLeftB NoLeft
  rw [List.all_eq_true]
  constructor
  · intro h k hk
    simpa using h k (List.mem_range.2 hk)
  · intro h k hk
    simpa using h k (List.mem_range.1 hk)
set_option maxHeartbeats 1600000 in
set_option maxRecDepth 4000 in
theorem sWhole_ok {w : World} (m bytes t : Int) (ao al : Option Addr) (cg cl : Nat) (G l : List Nat) (hG : RdN w ao G) (hl : RdN w al l) (hBl : Bits l) (hBG : Bits G) (hg1 : 2 ≤ G.length) (hgl : G.length ≤ l.length) (hn : l.length ≤ 100000) :
    Calls Tryd.prog 43 #[codeV m bytes t (.slice ao G.length cg), .slice al l.length cl] w fun e w' => e = .returned (.bool (noLeftB G l)) ∧ w.grownBy w' none := by
  have hw1 := World.grownBy_alloc w (.cells #[num m, num bytes, num t, .slice ao G.length cg] 29) none
  go_enter Tryd.func43, Tryd.ntmps43
  go_wp2_with fail
  refine (srest_ok m bytes t ao al cg cl G l (hG.more hw1) (hl.more hw1) hBl hBG hg1 hgl hn).mono ?_
  rintro e w2 ⟨g, T, rfl, hO⟩
  have hfin : w.grownBy w2 none := grownBy_trans hw1 hO.grown
  have hdl := dv_len G l (l.length - (G.length - 1))
  have hcell : ∀ k, k < G.length - 1 → w2.cell? ⟨g, l.length - (G.length - 1) + k, none⟩ = some (num (nth (dv G l (l.length - (G.length - 1))) (l.length - (G.length - 1) + k) : Nat)) := fun k hk => hO.cell (by omega)
  have HC : Hid _ := hcell
  clear hcell hO hw1 hG hl hdl
  go_wp2_with fail
  go_loopw [6] (fun c wr => ∃ k : Nat, k ≤ G.length - 1 ∧ c = num k ∧ (∀ j, j < k → nth (dv G l (l.length - (G.length - 1))) (l.length - (G.length - 1) + j) = 0) ∧ wr = w2) (fun c _ => G.length - 1 - (intOf c).toNat)
  case atStart => exact ⟨0, Nat.zero_le _, rfl, fun j hj => by omega, rfl⟩
  case round =>
    obtain ⟨k, hk, rfl, hz, rfl⟩ := hrel
    have HZ : Hid _ := hz
    clear hz
    by_cases hlt : k < G.length - 1
    · have b1 : (k : Int) < ((G.length - 1 : Nat) : Int) := by omega
      have ck := HC.out k hlt
      by_cases h0 : nth (dv G l (l.length - (G.length - 1))) (l.length - (G.length - 1) + k) = 0
      · have HN : Hid (∀ j, j < k + 1 → nth (dv G l (l.length - (G.length - 1))) (l.length - (G.length - 1) + j) = 0) := fun j hj => by
          by_cases e : j = k
          · subst e; exact h0
          · exact HZ.out j (by omega)
        rw [h0] at ck
        clear h0
        go_wp2_with fail
        go_roundw
        case rel => exact ⟨k + 1, by omega, by go_num, HN.out, trivial⟩
        case measure => simp [intOf]; omega
      · have h0' : (((nth (dv G l (l.length - (G.length - 1))) (l.length - (G.length - 1) + k) : Nat) : Int) != 0) = true := by simp; omega
        have HD : Hid (noLeftB G l = false) := by
          rw [Hid, ← Bool.not_eq_true, noLeftB_iff]
          exact fun h => h0 (h k hlt)
        clear h0
        go_wp2_with fail
        go_ret
        exact ⟨by rw [HD.out]; rfl, hfin⟩
    · obtain rfl : k = G.length - 1 := by omega
      have HD : Hid (noLeftB G l = true) := by
        rw [Hid, noLeftB_iff]
        exact HZ.out
      go_wp2_with fail
      go_ret
      exact ⟨by rw [HD.out]; rfl, hfin⟩
/-- Nothing is left of a word, and of a word alone. -/
theorem noLeft_iff {m : Nat} (h : Em m) {t : Nat} {l : List Nat} (hb : Bits l) (hl : (genS m t).length - 1 ≤ l.length) : NoLeft (gH m t) l ↔ IsW m t l.reverse := by
  rw [whole_iff h hb hl]
  have hg := gH_len m t
  have hll := left_len hl
  constructor
  · intro hn k
    by_cases hk : k < (genS m t).length - 1
    · have := hn k (by omega)
      rw [hg] at this
      rw [left, nth_drop]
      exact this
    · exact nth_over _ (by omega)
  · intro hz k hk
    have := hz k
    rw [left, nth_drop] at this
    rw [hg]
    exact this
end Gf
end Go.Proofs.YtiojdoehlooibaaDoor
