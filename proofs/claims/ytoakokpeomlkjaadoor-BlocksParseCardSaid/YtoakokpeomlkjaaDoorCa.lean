/- Layer 7 (blocks): the document's pool: Spread. -/
import Derived.Test.YtoakokpeomlkjaaDoorBz
namespace Go.Proofs.YtoakokpeomlkjaaDoor
open Go.RowKit Go.Maps
namespace Bk
def spN (r : Nat → Blk) (k : Nat) : Nat × Nat := spL r (List.finRange k)
theorem spN_succ (r : Nat → Blk) (k : Nat) : spN r (k + 1) = if (r k).st ≠ 4 then (min (spN r k).1 (r k).er, max (spN r k).2 (r k).er) else spN r k := by
  unfold spN spL
  rw [List.finRange_succ_last, List.foldl_append, List.foldl_map]
  rfl
theorem spread_eq (r : Nat → Blk) (m : Nat) : spread r m = if (spN r m).2 < (spN r m).1 then 0 else (spN r m).2 - (spN r m).1 := rfl
def SpR (r : Nat → Blk) (k : Nat) (l h : Int) : Prop := (l = -1 ∧ h = -1 ∧ spN r k = (4294967295, 0)) ∨ (0 ≤ l ∧ l ≤ h ∧ h ≤ 4294967295 ∧ spN r k = (l.toNat, h.toNat))
theorem SpR.start (r : Nat → Blk) : SpR r 0 (-1) (-1) := .inl ⟨rfl, rfl, rfl⟩
theorem SpR.bad {r : Nat → Blk} {k : Nat} {l h : Int} (s : SpR r k l h) (hs : (r k).st = 4) : SpR r (k + 1) l h := by
  unfold SpR
  rw [spN_succ, if_neg (by simp [hs])]
  exact s
theorem SpR.next {r : Nat → Blk} {k : Nat} {l h : Int} (s : SpR r k l h) (hs : (r k).st ≠ 4) {x : Int} (hx : ((r k).er : Int) = x) (he : x ≤ 4294967295) : SpR r (k + 1) (if l < 0 ∨ x < l then x else l) (if h < x then x else h) := by
  unfold SpR
  rw [spN_succ, if_pos hs]
  rcases s with ⟨rfl, rfl, e⟩ | ⟨h0, h1, h2, e⟩
  · rw [if_pos (.inl (by decide)), if_pos (by omega), e]
    refine .inr ⟨by omega, by omega, by omega, Prod.ext ?_ ?_⟩
    · show min 4294967295 (r k).er = x.toNat; omega
    · show max 0 (r k).er = x.toNat; omega
  · rw [e]
    refine .inr ?_
    split <;> split <;> refine ⟨by omega, by omega, by omega, Prod.ext ?_ ?_⟩ <;> simp only <;> omega
theorem SpR.spread {r : Nat → Blk} {m : Nat} {l h : Int} (s : SpR r m l h) : h - l = (spread r m : Nat) := by
  rw [spread_eq]
  rcases s with ⟨rfl, rfl, e⟩ | ⟨h0, h1, h2, e⟩
  · rw [e]; rfl
  · rw [e, if_neg (by simp only; omega)]; simp only; omega
set_option maxHeartbeats 3200000 in
set_option maxRecDepth 8000 in
theorem kSpread_in {w : World} {R : Ref} {f : Pool} (h : RefM w R f) {i : Nat} (hi : i < R.n) (hm : 1 ≤ R.m) (he : ∀ k, k < R.m → (f i k).er < 4294967296) : Calls Tryd.prog 34 #[ptr R.r 0, num i] w fun e w' => e = .returned (num (spread (f i) R.m : Nat)) ∧ w.grownBy w' none := by
  have HI := hide (kIn_zero h hi hm)
  have c1 : w.cell? ⟨R.r, 1, none⟩ = some (num R.m) := cell_at h.box rfl
  have HM := hide h
  have HE := hide he
  have m64 := h.m64
  have mm : (R.m : Int) ≤ 64 := by omega
  clear h he
  go_enter Tryd.func34, Tryd.ntmps34
  go_wp2_with fail
  refine HI.out.mono ?_
  rintro e w' ⟨rfl, rfl⟩
  go_wp2_with fail
  go_loopw [5, 6, 8] (fun a c b wr => ∃ (k : Nat) (l h : Int), k ≤ R.m ∧ b = num k ∧ a = num l ∧ c = num h ∧ SpR (f i) k l h ∧ RefM wr R f ∧ w'.grownBy wr none) (fun _ _ b _ => R.m - (intOf b).toNat)
  case atStart => exact ⟨0, -1, -1, Nat.zero_le _, rfl, rfl, rfl, SpR.start _, HM.out, grownBy_refl _ none⟩
  case round =>
    clear c1 HM HI
    obtain ⟨k, l, h, hk, rfl, rfl, rfl, hS, hR, hg⟩ := hrel
    have c1 : wr.cell? ⟨R.r, 1, none⟩ = some (num R.m) := cell_at hR.box rfl
    have c2 : wr.cell? ⟨R.r, 2, none⟩ = some (.slice (some ⟨R.sb, 0, none⟩) R.l R.sc) := cell_at hR.box rfl
    have e2 : wr.cell? ⟨R.r, 3, none⟩ = some (.slice (some ⟨R.eb, 0, none⟩) R.l R.ec) := cell_at hR.box rfl
    by_cases hkm : k < R.m
    · have p1 : (k : Int) < (R.m : Int) := by omega
      obtain ⟨z, j, hz, hj, ej, q1, q2, q3⟩ := hR.flat hi hkm
      have c3 : wr.cell? ⟨R.sb, j, none⟩ = some (num (f i k).st) := by rw [ej]; exact hR.st i k hi hkm
      have e3 : wr.cell? ⟨R.eb, j, none⟩ = some (num (f i k).er) := by rw [ej]; exact hR.er i k hi hkm
      obtain ⟨x, hx⟩ : ∃ x : Int, ((f i k).er : Int) = x := ⟨_, rfl⟩
      have hxe : x ≤ 4294967295 := by have := HE.out k hkm; omega
      have hx0 : 0 ≤ x := by omega
      rw [hx] at e3
      have HN : Hid (RefM wr R f ∧ w'.grownBy wr none) := ⟨hR, hg⟩
      clear hR hg ej HE
      by_cases ht : (f i k).st = 4
      · have HS := hide (hS.bad ht)
        rw [ht] at c3
        clear hS hx hxe hx0 ht
        go_wp2
        go_roundw
        case rel => exact ⟨k + 1, l, h, by omega, by go_num, rfl, rfl, HS.out, HN.out.1, HN.out.2⟩
        case measure => simp [intOf]; omega
      · have hq := hS.next ht hx hxe
        have ht' : ((f i k).st == 4) = false := by simpa using ht
        generalize (f i k).st = t at c3 ht'
        clear ht hx
        rcases hS with ⟨rfl, rfl, _⟩ | ⟨h0, h1, h2, _⟩
        · rw [if_pos (.inl (by decide)), if_pos (by omega)] at hq
          have HS := hide hq
          have hd : decide ((-1 : Int) < x) = true := by simp; omega
          clear hq hxe
          go_wp2
          go_roundw
          case rel => exact ⟨k + 1, x, x, by omega, by go_num, rfl, rfl, HS.out, HN.out.1, HN.out.2⟩
          case measure => simp [intOf]; omega
        · have l0 : ¬ l < 0 := by omega
          have hl0 : decide (l < 0) = false := by simpa using l0
          by_cases a1 : x < l
          · have a2 : ¬ h < x := by omega
            rw [if_pos (.inr a1), if_neg a2] at hq
            have HS := hide hq
            have d1 : decide (x < l) = true := by simpa using a1
            have d2 : decide (h < x) = false := by simpa using a2
            clear hq hxe h2
            go_wp2
            go_roundw
            case rel => exact ⟨k + 1, x, h, by omega, by go_num, rfl, rfl, HS.out, HN.out.1, HN.out.2⟩
            case measure => simp [intOf]; omega
          · have a3 : ¬ (l < 0 ∨ x < l) := by omega
            have d1 : decide (x < l) = false := by simpa using a1
            rw [if_neg a3] at hq
            clear a3
            by_cases a2 : h < x
            · rw [if_pos a2] at hq
              have HS := hide hq
              have d2 : decide (h < x) = true := by simpa using a2
              clear hq hxe h2
              go_wp2
              go_roundw
              case rel => exact ⟨k + 1, l, x, by omega, by go_num, rfl, rfl, HS.out, HN.out.1, HN.out.2⟩
              case measure => simp [intOf]; omega
            · rw [if_neg a2] at hq
              have HS := hide hq
              have d2 : decide (h < x) = false := by simpa using a2
              clear hq hxe h2
              go_wp2
              go_roundw
              case rel => exact ⟨k + 1, l, h, by omega, by go_num, rfl, rfl, HS.out, HN.out.1, HN.out.2⟩
              case measure => simp [intOf]; omega
    · obtain rfl : k = R.m := by omega
      have p1 : ¬ (R.m : Int) < (R.m : Int) := by omega
      have HG := hide hg
      have HS := hide hS.spread
      have hb : -1 ≤ l ∧ -1 ≤ h ∧ l ≤ 4294967295 ∧ h ≤ 4294967295 := by unfold SpR at hS; omega
      obtain ⟨b1, b2, b3, b4⟩ := hb
      clear hg hR hS HE
      go_wp2
      go_ret
      exact ⟨by rw [← HS.out]; rfl, HG.out⟩
end Bk
end Go.Proofs.YtoakokpeomlkjaaDoor
