/- A matrix of numbers in memory, and how it is written: for the reference's solve. -/
import Derived.Test.YtiojdoehlooibaaDoorZPa
import Derived.Test.YtiojdoehlooibaaDoorZPd
import Derived.Test.YtiojdoehlooibaaDoorZRef
import Derived.StillTailTactics
import Derived.BigRegion
import Derived.Maps.AppendAt
namespace Go.Proofs.YtiojdoehlooibaaDoor
open Go.RowKit
namespace Gf
/-- A matrix of n rows of n + 1 numbers: the rows' blocks are G, of room C; all lies in blocks from B on. -/
structure MatG (B : Nat) (w : World) (g n : Nat) (M : Nat → Nat → Nat) (G C : Nat → Nat) : Prop where
  base : B ≤ g
  row : ∀ r, r < n → w.cell? ⟨g, r, none⟩ = some (.slice (some ⟨G r, 0, none⟩) (n + 1) (C r))
  rowF : ∀ r, r < n → w.frozen? ⟨g, r, none⟩ = false
  far : ∀ r, r < n → G r ≠ g ∧ B ≤ G r
  apart : ∀ r s, r < n → s < n → G r = G s → r = s
  cell : ∀ r c, r < n → c < n + 1 → w.cell? ⟨G r, c, none⟩ = some (num (M r c : Nat))
  cellF : ∀ r c, r < n → c < n + 1 → w.frozen? ⟨G r, c, none⟩ = false
theorem MatG.congr {B : Nat} {w : World} {g n : Nat} {M M' : Nat → Nat → Nat} {G C : Nat → Nat} (h : MatG B w g n M G C) (e : ∀ r c, r < n → c < n + 1 → M r c = M' r c) : MatG B w g n M' G C :=
  { h with cell := fun r c hr hc => by rw [← e r c hr hc]; exact h.cell r c hr hc }
def updM (M : Nat → Nat → Nat) (r c v : Nat) : Nat → Nat → Nat := fun r' c' => if r' = r ∧ c' = c then v else M r' c'
theorem MatG.set {B : Nat} {w : World} {g n : Nat} {M : Nat → Nat → Nat} {G C : Nat → Nat} (h : MatG B w g n M G C) {r c : Nat} (hr : r < n) (hc : c < n + 1) (v : Nat) : MatG B (w.setCell ⟨G r, c, none⟩ (num (v : Nat))) g n (updM M r c v) G C where
  base := h.base
  row := fun s hs => by
    rw [World.cell?_setCell_other _ _ _ _ (fun e => (h.far r hr).1 (congrArg Addr.block e))]; exact h.row s hs
  rowF := fun s hs => by rw [World.frozen?_setCell]; exact h.rowF s hs
  far := h.far
  apart := h.apart
  cell := fun s d hs hd => by
    unfold updM
    by_cases e : s = r ∧ d = c
    · obtain ⟨rfl, rfl⟩ := e
      rw [if_pos ⟨rfl, rfl⟩]
      exact World.cell?_setCell_same _ _ _ (h.cell s d hs hd)
    · rw [if_neg e, World.cell?_setCell_other _ _ _ _ (fun e' => e ⟨(h.apart r s hr hs (congrArg Addr.block e')).symm, (congrArg Addr.off e').symm⟩)]
      exact h.cell s d hs hd
  cellF := fun s d hs hd => by rw [World.frozen?_setCell]; exact h.cellF s d hs hd
def swG (G : Nat → Nat) (i k : Nat) : Nat → Nat := fun r => if r = i then G k else if r = k then G i else G r
theorem swG_lt {i k r n : Nat} (hi : i < n) (hk : k < n) (hr : r < n) : (if r = i then k else if r = k then i else r) < n := by
  split
  · exact hk
  · split
    · exact hi
    · exact hr
theorem swG_eq (G : Nat → Nat) (i k r : Nat) : swG G i k r = G (if r = i then k else if r = k then i else r) := by
  unfold swG
  split
  · rfl
  · split <;> rfl
theorem sw_inj {i k r s : Nat} (h : (if r = i then k else if r = k then i else r) = (if s = i then k else if s = k then i else s)) : r = s := by
  split at h <;> split at h <;> (try split at h) <;> (try split at h) <;> omega
theorem swp_eq (M : Nat → Nat → Nat) (i k r : Nat) : swp M i k r = M (if r = i then k else if r = k then i else r) := by
  unfold swp
  split
  · rfl
  · split <;> rfl
/-- Two rows exchanged. -/
theorem MatG.swap {B : Nat} {w : World} {g n : Nat} {M : Nat → Nat → Nat} {G C : Nat → Nat} (h : MatG B w g n M G C) {i k : Nat} (hi : i < n) (hk : k < n) :
    MatG B ((w.setCell ⟨g, i, none⟩ (.slice (some ⟨G k, 0, none⟩) (n + 1) (C k))).setCell ⟨g, k, none⟩ (.slice (some ⟨G i, 0, none⟩) (n + 1) (C i))) g n (swp M i k) (swG G i k) (swG C i k) where
  base := h.base
  row := fun s hs => by
    rw [swG_eq, swG_eq]
    by_cases e1 : s = k
    · subst e1
      have h1 : ((w.setCell ⟨g, i, none⟩ (.slice (some ⟨G s, 0, none⟩) (n + 1) (C s))).cell? ⟨g, s, none⟩).isSome = true := by
        by_cases e : i = s
        · subst e; rw [World.cell?_setCell_same _ _ _ (h.row i hi)]; rfl
        · rw [World.cell?_setCell_other _ _ _ _ (fun e' => e (congrArg Addr.off e')), h.row s hs]; rfl
      rw [World.cell?_setCell_same' _ _ _ h1]
      by_cases e : s = i
      · subst e; simp
      · simp [e]
    · rw [World.cell?_setCell_other _ _ _ _ (fun e' => e1 (congrArg Addr.off e').symm)]
      by_cases e2 : s = i
      · subst e2
        rw [World.cell?_setCell_same _ _ _ (h.row s hs)]; simp
      · rw [World.cell?_setCell_other _ _ _ _ (fun e' => e2 (congrArg Addr.off e').symm), h.row s hs]; simp [e1, e2]
  rowF := fun s hs => by rw [World.frozen?_setCell, World.frozen?_setCell]; exact h.rowF s hs
  far := fun s hs => by rw [swG_eq]; exact h.far _ (swG_lt hi hk hs)
  apart := fun r s hr hs e => by
    rw [swG_eq, swG_eq] at e
    exact sw_inj (h.apart _ _ (swG_lt hi hk hr) (swG_lt hi hk hs) e)
  cell := fun s d hs hd => by
    rw [swG_eq, swp_eq]
    have hf := (h.far _ (swG_lt hi hk hs)).1
    rw [World.cell?_setCell_other _ _ _ _ (fun e' => hf (congrArg Addr.block e').symm), World.cell?_setCell_other _ _ _ _ (fun e' => hf (congrArg Addr.block e').symm)]
    exact h.cell _ d (swG_lt hi hk hs) hd
  cellF := fun s d hs hd => by
    rw [swG_eq, World.frozen?_setCell, World.frozen?_setCell]
    exact h.cellF _ d (swG_lt hi hk hs) hd
/-! ### The rounds of solve -/
/-- Row i scaled in its first j columns. -/
def scj (m : Nat) (M : Nat → Nat → Nat) (i b j : Nat) : Nat → Nat → Nat := fun r c => if r = i ∧ c < j then mul m (M r c) b else M r c
theorem scj_zero (m : Nat) (M : Nat → Nat → Nat) (i b : Nat) : scj m M i b 0 = M := by funext r c; simp [scj]
theorem scj_at (m : Nat) (M : Nat → Nat → Nat) (i b j : Nat) : scj m M i b j i j = M i j := by simp [scj]
theorem scj_next (m : Nat) (M : Nat → Nat → Nat) (i b j : Nat) : updM (scj m M i b j) i j (mul m (M i j) b) = scj m M i b (j + 1) := by
  funext r c
  unfold updM scj
  by_cases h1 : r = i
  · subst h1
    by_cases h2 : c = j
    · subst h2; simp
    · by_cases h3 : c < j
      · simp [h2, h3, show c < j + 1 by omega]
      · simp [h2, h3, show ¬ c < j + 1 by omega]
  · simp [h1]
theorem scj_end (m : Nat) (M : Nat → Nat → Nat) (i b n r c : Nat) (hc : c < n + 1) : scj m M i b (n + 1) r c = scl m M i b r c := by
  unfold scj scl
  by_cases h1 : r = i <;> simp [h1, hc]
/-- The unknown i left out of the rows above r. -/
def elr (m : Nat) (M : Nat → Nat → Nat) (i r : Nat) : Nat → Nat → Nat := fun s c => if s < r ∧ s ≠ i then M s c ^^^ mul m (M s i) (M i c) else M s c
/-- .. and of the first j columns of row r. -/
def elj (m : Nat) (M : Nat → Nat → Nat) (i r j : Nat) : Nat → Nat → Nat := fun s c => if (s < r ∧ s ≠ i) ∨ (s = r ∧ c < j) then M s c ^^^ mul m (M s i) (M i c) else M s c
theorem elr_zero (m : Nat) (M : Nat → Nat → Nat) (i : Nat) : elr m M i 0 = M := by funext r c; simp [elr]
theorem elr_at (m : Nat) (M : Nat → Nat → Nat) (i r c : Nat) : elr m M i r r c = M r c := by simp [elr]
theorem elr_piv (m : Nat) (M : Nat → Nat → Nat) (i r c : Nat) : elr m M i r i c = M i c := by simp [elr]
theorem elj_zero (m : Nat) (M : Nat → Nat → Nat) (i r : Nat) : elj m M i r 0 = elr m M i r := by funext s c; simp [elj, elr]
theorem elj_at (m : Nat) (M : Nat → Nat → Nat) (i r j : Nat) : elj m M i r j r j = M r j := by simp [elj]
theorem elj_piv {m : Nat} {M : Nat → Nat → Nat} {i r j : Nat} (h : r ≠ i) (c : Nat) : elj m M i r j i c = M i c := by simp [elj, Ne.symm h]
theorem elj_next {m : Nat} {M : Nat → Nat → Nat} {i r j : Nat} : updM (elj m M i r j) r j (M r j ^^^ mul m (M r i) (M i j)) = elj m M i r (j + 1) := by
  funext s c
  unfold updM elj
  by_cases h1 : s = r
  · subst h1
    by_cases h2 : c = j
    · subst h2; simp
    · by_cases h3 : c < j
      · simp [h2, h3, show c < j + 1 by omega]
      · simp [h2, h3, show ¬ c < j + 1 by omega]
  · simp [h1]
theorem elj_end {m : Nat} {M : Nat → Nat → Nat} {i r n : Nat} (h : r ≠ i) {s c : Nat} (hc : c < n + 1) : elj m M i r (n + 1) s c = elr m M i (r + 1) s c := by
  unfold elj elr
  by_cases h1 : s = r
  · subst h1; simp [h, hc]
  · by_cases h2 : s < r
    · simp [h1, h2, show s < r + 1 by omega]
    · simp [h1, h2, show ¬ s < r + 1 by omega]
theorem elr_skip {m : Nat} {M : Nat → Nat → Nat} {i r : Nat} (h : r = i ∨ M r i = 0) : elr m M i (r + 1) = elr m M i r := by
  funext s c
  unfold elr
  by_cases h1 : s = r
  · subst h1
    rcases h with rfl | h
    · simp
    · by_cases h2 : s = i
      · simp [h2]
      · simp [h2, h, zero_mul]
  · by_cases h2 : s < r
    · simp [h2, show s < r + 1 by omega]
    · simp [h2, show ¬ s < r + 1 by omega]
theorem elr_end (m : Nat) (M : Nat → Nat → Nat) (i n s c : Nat) (hs : s < n) : elr m M i n s c = elm m M i s c := by
  unfold elr elm
  by_cases h1 : s = i
  · simp [h1]
  · simp [h1, hs]
theorem MatG.drew {B : Nat} {w : World} {g n : Nat} {M : Nat → Nat → Nat} {G C : Nat → Nat} (h : MatG B w g n M G C) : MatG B w.drew g n M G C :=
  ⟨h.base, h.row, h.rowF, h.far, h.apart, h.cell, h.cellF⟩
theorem MatG.drewN {B : Nat} {w : World} {g n : Nat} {M : Nat → Nat → Nat} {G C : Nat → Nat} (h : MatG B w g n M G C) (k : Nat) : MatG B (w.drewN k) g n M G C :=
  ⟨h.base, h.row, h.rowF, h.far, h.apart, h.cell, h.cellF⟩
theorem below_drew {B : Nat} {w w' : World} (h : Below B w w') : Below B w w'.drew := ⟨h.os, h.tape, h.output, h.size, h.block⟩
theorem below_drewN {B : Nat} {w w' : World} (h : Below B w w') (k : Nat) : Below B w (w'.drewN k) := ⟨h.os, h.tape, h.output, h.size, h.block⟩
theorem below_set {B : Nat} {w w' : World} (h : Below B w w') {g i : Nat} (hg : B ≤ g) (v : Value) : Below B w (w'.setCell ⟨g, i, none⟩ v) :=
  ⟨h.os, h.tape, h.output, by have := h.size; simp [World.setCell]; omega, fun k hk => by rw [setCell_else (by omega)]; exact h.block k hk⟩
def SolPost (B : Nat) (w : World) (n : Nat) (R : Option (Nat → Nat → Nat)) (e : Ending) (w' : World) : Prop :=
  Below B w w' ∧ match R with
    | none => e = .returned (.tuple #[.slice none 0 0, .bool false])
    | some M' => ∃ ao cap, e = .returned (.tuple #[.slice ao n cap, .bool true]) ∧ RdN w' ao ((List.range n).map fun r => M' r n)
end Gf
end Go.Proofs.YtiojdoehlooibaaDoor

/- The reference's solve. -/
namespace Go.Proofs.YtiojdoehlooibaaDoor
open Go.RowKit
namespace Gf
theorem rMul_el {m : Nat} (hm : Em m) {a b : Nat} (ha : a ≤ sz m) (hb : b ≤ sz m) (w : World) : Calls Tryd.prog 64 #[num m, num (a : Nat), num (b : Nat)] w fun e w' => e = .returned (num (mul m a b : Nat)) ∧ w' = w := by
  have h := rMul_ok hm ((a : Nat) : Int) ((b : Nat) : Int) w
  rw [el_of ha, el_of hb] at h
  exact h
theorem Row.rdA {w0 wr : World} {v : Value} {S : List Nat} (h : Row w0 wr v S) : ∃ ao cap, v = .slice ao S.length cap ∧ RdN wr ao S := by
  by_cases hS : S = []
  · subst hS
    rcases h.own.2 with ⟨rfl, _⟩ | ⟨g, cap, cur, rfl, _⟩
    · exact ⟨none, 0, rfl, .inl rfl⟩
    · exact ⟨_, _, rfl, .inl rfl⟩
  · exact h.rdN hS
theorem fnd_step {M : Nat → Nat → Nat} {i n k : Nat} (hk : k < n) (h : M k i = 0) : fnd M i n (n - k) k = fnd M i n (n - (k + 1)) (k + 1) := by
  rw [show n - k = (n - (k + 1)) + 1 by omega, fnd, if_pos h]
theorem fnd_hit {M : Nat → Nat → Nat} {i n k : Nat} (hk : k < n) (h : M k i ≠ 0) : fnd M i n (n - k) k = k := by
  rw [show n - k = (n - (k + 1)) + 1 by omega, fnd, if_neg h]
theorem fnd_over (M : Nat → Nat → Nat) (i n : Nat) : fnd M i n (n - n) n = n := by rw [Nat.sub_self, fnd]
set_option maxHeartbeats 6400000 in
set_option maxRecDepth 4000 in
theorem solve_ok {B m n : Nat} (hm : Em m) (hn : n ≤ 100) {w : World} (g cg : Nat) {M : Nat → Nat → Nat} {G C : Nat → Nat} (hM : MatG B w g n M G C) (hE : Ent m M) (hB : B ≤ w.heap.size) :
    Calls Tryd.prog 65 #[num m, .slice (some ⟨g, 0, none⟩) n cg] w fun e w' => SolPost B w n (gss m n n 0 M) e w' := by
  have HF : Tryd.prog.follows .mixedOrders = true := by kernel_rfl
  have HFo : Hid _ := HF
  clear HF
  go_enter Tryd.func65, Tryd.ntmps65
  go_wp2_with fail
  go_loopw [7] (fun v wr => ∃ (i : Nat) (Mi : Nat → Nat → Nat) (G C : Nat → Nat), i ≤ n ∧ v = num i ∧ MatG B wr g n Mi G C ∧ Ent m Mi ∧ Hid (gss m n (n - i) i Mi = gss m n n 0 M) ∧ Below B w wr) (fun v _ => n - (intOf v).toNat)
  case atStart => exact ⟨0, M, G, C, Nat.zero_le _, rfl, hM, hE, rfl, Below.refl _ _⟩
  case round =>
    clear hM hE
    obtain ⟨i, Mi, G, C, hi, rfl, hM, hE, hgs, hbw⟩ := hrel
    by_cases hlt : i < n
    · have b1 : (i : Int) < (n : Int) := by omega
      go_wp2_with fail
      go_loopw [8] (fun v wq => wq = wr ∧ ∃ k : Nat, i ≤ k ∧ k ≤ n ∧ v = num k ∧ Hid (fnd Mi i n (n - k) k = fnd Mi i n (n - i) i)) (fun v _ => n - (intOf v).toNat)
      case atStart => exact ⟨rfl, i, Nat.le_refl _, by omega, rfl, rfl⟩
      case round =>
        obtain ⟨rfl, k, hik, hk, rfl, hfk⟩ := hrel
        by_cases hkl : k < n
        · have c1 := hM.row k hkl
          have c2 := hM.cell k i hkl (by omega)
          have b2 : decide ((k : Int) < (n : Int)) = true := by simp; omega
          have b2' : (k : Int) < (n : Int) := by omega
          have b3 : (i : Int) < (n : Int) + 1 := by omega
          by_cases h0 : Mi k i = 0
          · have HN : Hid (fnd Mi i n (n - (k + 1)) (k + 1) = fnd Mi i n (n - i) i) := by rw [Hid, ← fnd_step hkl h0]; exact hfk
            rw [h0] at c2
            clear hgs hfk h0
            go_wp2
            go_roundw
            case rel => exact ⟨trivial, k + 1, by omega, by omega, by go_num, HN⟩
            case measure => simp [intOf]; omega
          · have hfe : fnd Mi i n (n - i) i = k := by rw [← hfk.out, fnd_hit hkl h0]
            have HG : Hid (gss m n (n - (i + 1)) (i + 1) (stp m Mi i k) = gss m n n 0 M) := by
              rw [Hid, ← hgs.out, show n - i = (n - (i + 1)) + 1 by omega, gss, hfe, if_neg (by omega)]
            have b4 : ((Mi k i : Int) == 0) = false := by simp; omega
            have b5 : ((k : Int) == (n : Int)) = false := by simp; omega
            have hEs := stp_ent hm hE i k
            have f1 := hM.rowF k hkl
            have f2 := hM.rowF i hlt
            have c3 := hM.row i hlt
            obtain ⟨u, cu⟩ : ∃ u, (wr.setCell ⟨g, i, none⟩ (.slice (some ⟨G k, 0, none⟩) (n + 1) (C k))).cell? ⟨g, k, none⟩ = some u := by
              by_cases e : i = k
              · subst e; exact ⟨_, World.cell?_setCell_same _ _ _ c3⟩
              · exact ⟨_, (World.cell?_setCell_other _ _ _ _ (fun e' => e (congrArg Addr.off e'))).trans c1⟩
            have HM : Hid _ := hM
            have HE : Hid _ := hE
            have h0' : Hid _ := h0
            clear hgs hfk hfe hM hE h0
            go_wp2_with fail
            go_region
            have hM1 := (HM.out.swap hlt hkl).drew
            have hb1 : Below B w ((wr.setCell ⟨g, i, none⟩ (.slice (some ⟨G k, 0, none⟩) (n + 1) (C k))).setCell ⟨g, k, none⟩ (.slice (some ⟨G i, 0, none⟩) (n + 1) (C i))).drew := below_drew (below_set (below_set hbw HM.out.base _) HM.out.base _)
            generalize ((wr.setCell ⟨g, i, none⟩ (.slice (some ⟨G k, 0, none⟩) (n + 1) (C k))).setCell ⟨g, k, none⟩ (.slice (some ⟨G i, 0, none⟩) (n + 1) (C i))).drew = w1 at hM1 hb1 ⊢
            have hE1 := ent_swp HE.out i k
            generalize swG G i k = G1 at hM1
            generalize swG C i k = C1 at hM1
            have hp0 : swp Mi i k i i = Mi k i := by simp [swp]
            have HST : Hid (stp m Mi i k = elm m (scl m (swp Mi i k) i (invS m (swp Mi i k i i))) i) := by rw [Hid, hp0]; rfl
            generalize swp Mi i k = M1 at hM1 hE1 HST
            clear c1 c2 c3 cu f1 f2 HM HE hbw h0' b2 b4 b5 hp0
            have c1 := hM1.row i hlt
            have c2 := hM1.cell i i hlt (by omega)
            have hel := el_of (hE1 i i)
            have hinv := rInv_ok hm ((M1 i i : Nat) : Int)
            rw [hel] at hinv
            have HI : Hid _ := hinv
            clear hinv hel
            go_wp2_with fail
            refine (HI.out w1).mono ?_
            rintro e w1 ⟨rfl, rfl⟩
            have hbI : invS m (M1 i i) ≤ sz m := inv_le hm _
            generalize invS m (M1 i i) = bI at HST hbI ⊢
            clear HI c1 c2
            go_wp2_with fail
            go_loopw [10] (fun v wq => ∃ j : Nat, j ≤ n + 1 ∧ v = num j ∧ MatG B wq g n (scj m M1 i bI j) G1 C1 ∧ Below B w wq) (fun v _ => n + 1 - (intOf v).toNat)
            case atStart => exact ⟨0, by omega, rfl, by rw [scj_zero]; exact hM1, hb1⟩
            case round =>
              clear hM1 hb1
              obtain ⟨j, hj, rfl, hM2, hb2⟩ := hrel
              by_cases hjl : j < n + 1
              · have d1 : (j : Int) ≤ (n : Int) := by omega
                have d2 : (j : Int) < (n : Int) + 1 := by omega
                have c1 := hM2.row i hlt
                have c2 := hM2.cell i j hlt hjl
                have f2 := hM2.cellF i j hlt hjl
                rw [scj_at] at c2
                have HMu : Hid (∀ w, Calls Tryd.prog 64 #[num m, num (M1 i j : Nat), num (bI : Nat)] w fun e w' => e = .returned (num (mul m (M1 i j) bI : Nat)) ∧ w' = w) := fun w => rMul_el hm (hE1 i j) hbI w
                have hN := hM2.set hlt hjl (mul m (M1 i j) bI)
                rw [scj_next] at hN
                have hN' := hN.drew
                have hbN := below_drew (below_set (i := j) hb2 (hM2.far i hlt).2 (num (mul m (M1 i j) bI : Nat)))
                generalize M1 i j = x at c2 HMu hN hN' hbN
                generalize mul m x bI = y at HMu hN hN' hbN
                clear hM2 hb2 hN
                go_wp2_with fail
                go_still_tail 16, HFo.out
                still_call (HMu.out _)
                repeat still_step
                refine wpStill_nil ?_
                go_wp2
                go_roundw
                case rel => exact ⟨j + 1, by omega, by go_num, hN', hbN⟩
                case measure => simp [intOf]; omega
              · obtain rfl : j = n + 1 := by omega
                have d1 : ¬ ((n + 1 : Nat) : Int) ≤ (n : Int) := by omega
                have hM3 := hM2.congr (M' := scl m M1 i bI) (fun r c _ hc => scj_end m M1 i bI n r c hc)
                have hE3 : Ent m (scl m M1 i bI) := ent_scl hm hE1 i bI
                generalize scl m M1 i bI = M2 at HST hM3 hE3
                clear hM2 hE1 hbI
                go_wp2_with fail
                go_loopw [11] (fun v wq => ∃ r : Nat, r ≤ n ∧ v = num r ∧ MatG B wq g n (elr m M2 i r) G1 C1 ∧ Below B w wq) (fun v _ => n - (intOf v).toNat)
                case atStart => exact ⟨0, Nat.zero_le _, rfl, by rw [elr_zero]; exact hM3, hb2⟩
                case round =>
                  clear hM3 hb2
                  obtain ⟨r, hr, rfl, hM4, hb4⟩ := hrel
                  by_cases hrl : r < n
                  · have d2 : (r : Int) < (n : Int) := by omega
                    have c1 := hM4.row r hrl
                    have c2 := hM4.cell r i hrl (by omega)
                    rw [elr_at] at c2
                    by_cases hri : r = i
                    · have q1 : ((r : Int) == (i : Int)) = true := by simp [hri]
                      have hN := elr_skip (m := m) (M := M2) (.inl hri)
                      rw [← hN] at hM4
                      clear hN hri c2
                      go_wp2
                      go_roundw
                      case rel => exact ⟨r + 1, by omega, by go_num, hM4, hb4⟩
                      case measure => simp [intOf]; omega
                    have q1 : ((r : Int) == (i : Int)) = false := by simp; omega
                    by_cases h0 : M2 r i = 0
                    · have hN := elr_skip (m := m) (M := M2) (.inr h0)
                      rw [← hN] at hM4
                      rw [h0] at c2
                      clear hN h0 hri
                      go_wp2
                      go_roundw
                      case rel => exact ⟨r + 1, by omega, by go_num, hM4, hb4⟩
                      case measure => simp [intOf]; omega
                    have q2 : ((M2 r i : Int) == 0) = false := by simp; omega
                    have hf := hE3 r i
                    rw [← elj_zero] at hM4
                    generalize hfe : M2 r i = f at c2 q2 hf
                    have HFe : Hid _ := hfe
                    have Hri : Hid _ := hri
                    clear h0 hfe hri
                    go_wp2_with fail
                    go_loopw [13] (fun v wq => ∃ j : Nat, j ≤ n + 1 ∧ v = num j ∧ MatG B wq g n (elj m M2 i r j) G1 C1 ∧ Below B w wq) (fun v _ => n + 1 - (intOf v).toNat)
                    case atStart => exact ⟨0, by omega, rfl, hM4, hb4⟩
                    case round =>
                      clear hM4 hb4 c1 c2
                      obtain ⟨j, hj, rfl, hM5, hb5⟩ := hrel
                      by_cases hjl : j < n + 1
                      · have d3 : (j : Int) ≤ (n : Int) := by omega
                        have d4 : (j : Int) < (n : Int) + 1 := by omega
                        have c1 := hM5.row r hrl
                        have c2 := hM5.cell r j hrl hjl
                        have c3 := hM5.row i hlt
                        have c4 := hM5.cell i j hlt hjl
                        have f2 := hM5.cellF r j hrl hjl
                        rw [elj_at] at c2
                        rw [elj_piv Hri.out] at c4
                        have HMu : Hid (∀ w, Calls Tryd.prog 64 #[num m, num (f : Nat), num (M2 i j : Nat)] w fun e w' => e = .returned (num (mul m f (M2 i j) : Nat)) ∧ w' = w) := fun w => rMul_el hm hf (hE3 i j) w
                        have hN := hM5.set hrl hjl (M2 r j ^^^ mul m (M2 r i) (M2 i j))
                        rw [elj_next, HFe.out] at hN
                        have hN' := hN.drew
                        have hbN := below_drew (below_set (i := j) hb5 (hM5.far r hrl).2 (num (M2 r j ^^^ mul m f (M2 i j) : Nat)))
                        have hsz := sz_bd hm
                        have x1 := hE3 r j
                        have x2 := mul_le hm f (M2 i j)
                        have ex := xor_i64 (M2 r j) (mul m f (M2 i j)) (by omega) (by omega)
                        generalize M2 r j = a at c2 hN hN' hbN ex x1
                        generalize M2 i j = x at c4 HMu hN hN' hbN ex x2
                        generalize mul m f x = y at HMu hN hN' hbN ex x2
                        generalize a ^^^ y = z at hN hN' hbN ex
                        clear hM5 hb5 hN x1 x2 hsz
                        go_wp2_with fail
                        go_still_tail 24, HFo.out
                        still_call (HMu.out _)
                        repeat still_step
                        refine wpStill_nil ?_
                        go_wp2
                        go_roundw
                        case rel => exact ⟨j + 1, by omega, by go_num, hN', hbN⟩
                        case measure => simp [intOf]; omega
                      · obtain rfl : j = n + 1 := by omega
                        have d3 : ¬ ((n + 1 : Nat) : Int) ≤ (n : Int) := by omega
                        have hM6 := hM5.congr (M' := elr m M2 i (r + 1)) (fun s c _ hc => elj_end Hri.out hc)
                        clear hM5
                        go_wp2
                        go_roundw
                        case rel => exact ⟨r + 1, by omega, by go_num, hM6, hb5⟩
                        case measure => simp [intOf]; omega
                  · obtain rfl : r = n := by omega
                    have hM6 := hM4.congr (M' := elm m M2 i) (fun s c hs _ => elr_end m M2 i r s c hs)
                    rw [← HST.out] at hM6
                    clear hM4
                    go_wp2
                    go_roundw
                    case rel => exact ⟨i + 1, _, _, _, by omega, by go_num, hM6, hEs, HG, hb4⟩
                    case measure => simp [intOf]; omega
        · obtain rfl : k = n := by omega
          have hfe : fnd Mi i k (k - i) i = k := by rw [← hfk.out, fnd_over]
          have HG : Hid (gss m k k 0 M = none) := by
            rw [Hid, ← hgs.out, show k - i = (k - (i + 1)) + 1 by omega, gss, hfe, if_pos rfl]
          have HP : Hid (∀ e w', e = .returned (.tuple #[.slice none 0 0, .bool false]) → Below B w w' → SolPost B w k (gss m k k 0 M) e w') := fun e w' h1 h2 => by rw [HG.out]; exact ⟨h2, h1⟩
          have b2 : decide ((k : Int) < (k : Int)) = false := by simp
          clear hgs hfk hfe HG hM hE
          go_wp2
          exact bodyPost_ret (v := .tuple #[.slice none 0 0, .bool false]) (by simp [results, Tryd.f65, go_sem]) rfl (HP.out _ _ rfl hbw)
    · obtain rfl : i = n := by omega
      have b1 : ¬ (i : Int) < (i : Int) := by omega
      have hge : gss m i i 0 M = some Mi := by rw [← hgs.out, Nat.sub_self, gss]
      have HP : Hid (∀ e w', (∃ ao cap, e = .returned (.tuple #[.slice ao i cap, .bool true]) ∧ RdN w' ao ((List.range i).map fun r => Mi r i)) → Below B w w' → SolPost B w i (gss m i i 0 M) e w') := fun e w' h1 h2 => by rw [hge]; exact ⟨h2, h1⟩
      obtain ⟨i0, hi0, hz0, hz1, hz2⟩ := info_parts Tryd.info3
      have HC1 : Hid (∀ wq, wr.grownBy wq none → ∀ r, r < i → wq.cell? ⟨g, r, none⟩ = some (.slice (some ⟨G r, 0, none⟩) (i + 1) (C r)) ∧ wq.cell? ⟨G r, i, none⟩ = some (num (Mi r i : Nat))) := fun wq hg r hr => ⟨by
        rw [World.cell?_of_block (w := wr) (a := ⟨g, r, none⟩) (hg.block g (lt_of_cell (hM.row r hr)) (by simp))]; exact hM.row r hr, by
        rw [World.cell?_of_block (w := wr) (a := ⟨G r, i, none⟩) (hg.block (G r) (lt_of_cell (hM.cell r i hr (by omega))) (by simp))]; exact hM.cell r i hr (by omega)⟩
      have HBW : Hid (∀ wq, wr.grownBy wq none → Below B w wq) := fun wq hg => ⟨hg.os.trans hbw.os, hg.tape.trans hbw.tape, hg.output.trans hbw.output, Nat.le_trans hbw.size hg.size, fun k hk => (hg.block k (by have := hbw.size; omega) (by simp)).trans (hbw.block k hk)⟩
      clear hgs hge hE hM hbw
      go_wp2_with fail
      go_loopw [15, 14] (fun c v wq => ∃ r : Nat, r ≤ i ∧ c = num r ∧ Row wr wq v ((List.range r).map fun r => Mi r i)) (fun c _ _ => i - (intOf c).toNat)
      case atStart => exact ⟨0, Nat.zero_le _, rfl, Row.start wr⟩
      case round =>
        obtain ⟨r, hr, rfl, hQ⟩ := hrel
        by_cases hrl : r < i
        · have d2 : (r : Int) < (i : Int) := by omega
          have d3 : (i : Int) < (i : Int) + 1 := by omega
          obtain ⟨c1, c2⟩ := HC1.out _ hQ.more r hrl
          have HT : Hid ((List.range (r + 1)).map (fun r => Mi r i) = (List.range r).map (fun r => Mi r i) ++ [Mi r i]) := by rw [Hid, List.range_succ, List.map_append]; rfl
          have hSl : ((List.range r).map fun r => Mi r i).length = r := by simp
          generalize (List.range r).map (fun r => Mi r i) = S at hQ HT hSl
          generalize Mi r i = x at c2 HT
          have hsz := hQ.more.size
          have hSle : S.length ≤ 100 := by omega
          have HSl : Hid _ := hSl
          clear hSl
          go_wp2_with (first | (at_builtin; refine wpList_append_own _ rfl _ _ 27 rfl _ 3 i0 (.int .i64 0) 1 8 Tryd.underlying27 hi0 hz0 hz1 hz2 rfl (by decide) _ _ _ rfl (hQ.own.alloc _) ⟨wr.heap.size, 0, none⟩ 1 1 [.int .i64 (x : Nat)] rfl rfl ?c1 ?c2 ?c3 ?c4 ?c5 ?_))
          case c1 => exact cell_one_new _ _ _
          case c2 => intro u hu; simp at hu; subst hu; rfl
          case c3 => unfold maxLen; omega
          case c4 => omega
          case c5 => simp; omega
          intro v' w6 hown hgrow _
          have hA := hQ.append hown hgrow
          rw [← HT.out] at hA
          clear hown hgrow hQ
          go_wp2_with fail
          go_roundw
          case rel => exact ⟨r + 1, by omega, by go_num, hA⟩
          case measure => simp [intOf]; omega
        · obtain rfl : r = i := by omega
          have hL : ((List.range r).map fun s => Mi s r).length = r := by simp
          have hrw : ∃ ao cap, u14 = .slice ao r cap ∧ RdN wr ao ((List.range r).map fun s => Mi s r) := by
            have := hQ.rdA
            rw [hL] at this
            exact this
          have hbf := HBW.out _ hQ.more
          obtain ⟨ao, cap, rfl, hrd⟩ := hrw
          clear HC1 HBW hQ
          go_wp2
          exact bodyPost_ret (v := .tuple #[.slice ao r cap, .bool true]) (by simp [results, Tryd.f65, go_sem]) rfl (HP.out _ _ ⟨ao, cap, rfl, hrd⟩ hbf)
end Gf
end Go.Proofs.YtiojdoehlooibaaDoor

/- A matrix that is made row by row. -/
namespace Go.Proofs.YtiojdoehlooibaaDoor
open Go.RowKit
theorem Tryd.infoRow : (Tryd.prog.info? 27).map (fun i => (i.zero, i.size, i.bytes)) = some (some (.slice none 0 0), 1, 24) := by kernel_rfl
namespace Gf
/-- The first i rows of a matrix: the rows' blocks are G, of room C; all lies in blocks from B on. -/
structure MatA (B : Nat) (w : World) (v : Value) (i n : Nat) (M : Nat → Nat → Nat) (G C : Nat → Nat) : Prop where
  own : w.ownsRow B 27 1 v i ((List.range i).map fun r => .slice (some ⟨G r, 0, none⟩) (n + 1) (C r))
  far : ∀ r, r < i → B ≤ G r ∧ v.ownBlock ≠ some (G r)
  apart : ∀ r s, r < i → s < i → G r = G s → r = s
  at_ : ∀ r, r < i → ∃ L : List Value, w.heap[G r]? = some (.cells L.toArray 3) ∧ ∀ c, c < n + 1 → L[c]? = some (num (M r c : Nat))
theorem MatA.start (B : Nat) (w : World) (n : Nat) (M : Nat → Nat → Nat) (G C : Nat → Nat) : MatA B w (.slice none 0 0) 0 n M G C :=
  ⟨World.ownsRow_nil _ _ _ _, fun r hr => by omega, fun r s hr => by omega, fun r hr => by omega⟩
theorem MatA.matG {B : Nat} {w : World} {v : Value} {n : Nat} {M : Nat → Nat → Nat} {G C : Nat → Nat} (h : MatA B w v n n M G C) (hn : 1 ≤ n) : ∃ g cap, v = .slice (some ⟨g, 0, none⟩) n cap ∧ MatG B w g n M G C := by
  have hown := h.own
  have hfar := h.far
  rcases hown.2 with ⟨_, h0⟩ | ⟨g, cap, cur, rfl, hb, hh, hle, hq, hcs, ht⟩
  · omega
  · have hc := hown.cells (g := g) rfl
    refine ⟨g, cap, rfl, ?_⟩
    exact { base := hb
            row := fun r hr => by
              have := hc r (.slice (some ⟨G r, 0, none⟩) (n + 1) (C r)) (by simp [hr])
              rwa [addr_add', Nat.zero_add] at this
            rowF := fun r hr => by simp [World.frozen?, hh]
            far := fun r hr => ⟨fun e => (hfar r hr).2 (by rw [e]; rfl), (hfar r hr).1⟩
            apart := h.apart
            cell := fun r c hr hc => by obtain ⟨L, h1, h2⟩ := h.at_ r hr; rw [cell_row h1]; exact h2 c hc
            cellF := fun r c hr hc => by obtain ⟨L, h1, _⟩ := h.at_ r hr; exact frozen_row h1 }
theorem MatA.append {B : Nat} {w0 wq w6 : World} {v v' vr : Value} {i n : Nat} {M : Nat → Nat → Nat} {G C : Nat → Nat} {S : List Nat} {t : TypeId} (h : MatA B w0 v i n M G C) (hB : B ≤ w0.heap.size) (hR : Row w0 wq vr S) (hS : S.length = n + 1) (hM : ∀ c, c < n + 1 → nth S c = M i c)
    (hown : w6.ownsRow B 27 1 v' (i + 1) (((List.range i).map fun r => .slice (some ⟨G r, 0, none⟩) (n + 1) (C r)) ++ [vr])) (hgrow : (wq.alloc (.cells #[vr] t)).grownBy w6 v.ownBlock)
    (hat : v'.ownBlock = v.ownBlock ∨ v'.ownBlock = some (wq.heap.size + 1)) : ∃ G' C', MatA B w6 v' (i + 1) n M G' C' := by
  have hvl : ∀ k, v.ownBlock = some k → k < w0.heap.size := fun k hk => (h.own.lt k hk).2
  have hGl : ∀ r, r < i → G r < w0.heap.size := fun r hr => by obtain ⟨L, h1, _⟩ := h.at_ r hr; exact lt_of_heap h1
  have hsz := hR.more.size
  rcases hR.own.2 with ⟨_, h0⟩ | ⟨g, cap, cur, rfl, hg, hh, hle, hq, hcs, ht⟩
  · omega
  rw [hS] at hown hgrow ht
  have hgl := lt_of_heap hh
  have hnew : (wq.alloc (.cells #[.slice (some ⟨g, 0, none⟩) (n + 1) cap] t)).heap.size = wq.heap.size + 1 := by simp
  have hblk : ∀ k, k < wq.heap.size → v.ownBlock ≠ some k → w6.heap[k]? = wq.heap[k]? := fun k hk hne => by
    rw [hgrow.block k (by omega) (fun e => hne e.symm)]
    exact Below.heap_alloc _ _ _ hk
  refine ⟨fun r => if r = i then g else G r, fun r => if r = i then cap else C r, ⟨?_, ?_, ?_, ?_⟩⟩
  · have e : ((List.range (i + 1)).map fun r => (.slice (some ⟨if r = i then g else G r, 0, none⟩) (n + 1) (if r = i then cap else C r) : Value)) = ((List.range i).map fun r => (.slice (some ⟨G r, 0, none⟩) (n + 1) (C r) : Value)) ++ [.slice (some ⟨g, 0, none⟩) (n + 1) cap] := by
      rw [List.range_succ, List.map_append]
      congr 1
      · apply List.map_congr_left
        intro r hr
        rw [List.mem_range] at hr
        rw [if_neg (by omega), if_neg (by omega)]
      · simp
    rw [e]
    exact hown
  · intro r hr
    by_cases e : r = i
    · simp only [if_pos e]
      refine ⟨by omega, fun hk => ?_⟩
      rcases hat with h1 | h1
      · rw [h1] at hk; have := hvl g hk; omega
      · rw [h1] at hk; simp at hk; omega
    · simp only [if_neg e]
      refine ⟨(h.far r (by omega)).1, fun hk => ?_⟩
      have hl := hGl r (by omega)
      rcases hat with h1 | h1
      · rw [h1] at hk; exact (h.far r (by omega)).2 hk
      · rw [h1] at hk; simp at hk; omega
  · intro r s hr hs e
    by_cases e1 : r = i <;> by_cases e2 : s = i
    · omega
    · simp only [if_pos e1, if_neg e2] at e
      have := hGl s (by omega)
      omega
    · simp only [if_neg e1, if_pos e2] at e
      have := hGl r (by omega)
      omega
    · simp only [if_neg e1, if_neg e2] at e
      exact h.apart r s (by omega) (by omega) e
  · intro r hr
    by_cases e : r = i
    · subst e
      simp only [if_pos]
      refine ⟨cur.toList, ?_, fun c hc => ?_⟩
      · rw [hblk g hgl (fun hk => by have := hvl g hk; omega)]
        simpa using hh
      · rw [Nat.mul_one] at ht
        rw [← hM c hc]
        exact take_cell (xs := S) (by rw [hS]; exact ht) c (by omega)
    · simp only [if_neg e]
      obtain ⟨L, h1, h2⟩ := h.at_ r (by omega)
      refine ⟨L, ?_, h2⟩
      have hl := hGl r (by omega)
      rw [hblk (G r) (by omega) (h.far r (by omega)).2, hR.more.block (G r) hl (by simp)]
      exact h1
end Gf
end Go.Proofs.YtiojdoehlooibaaDoor
