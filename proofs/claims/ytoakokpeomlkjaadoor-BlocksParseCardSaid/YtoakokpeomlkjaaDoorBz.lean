/- Layer 7 (blocks): the document's pool: Count of no die, Take. -/
import Derived.Test.YtoakokpeomlkjaaDoorBy
namespace Go.Proofs.YtoakokpeomlkjaaDoor
open Go.RowKit Go.Maps
namespace Bk
theorem kIn_none {w : World} {R : Ref} {f : Pool} (h : RefM w R f) {d : Int} (hd : ¬ (0 ≤ d ∧ d < R.n)) : Calls Tryd.prog 29 #[ptr R.r 0, num d, num 0] w fun e w' => e = .returned (.bool false) ∧ w' = w := kIn_out (b := 0) h fun x => hd ⟨x.1, x.2.1⟩
set_option maxHeartbeats 1600000 in
set_option maxRecDepth 8000 in
theorem kCount_out {w : World} {R : Ref} {f : Pool} (h : RefM w R f) {d : Int} (hd : ¬ (0 ≤ d ∧ d < R.n)) (s : Int) : Calls Tryd.prog 33 #[ptr R.r 0, num d, num s] w fun e w' => e = .returned (num 0) ∧ w' = w := by
  have HI := hide (kIn_none h hd)
  have c1 : w.cell? ⟨R.r, 1, none⟩ = some (num R.m) := cell_at h.box rfl
  clear h hd
  go_enter Tryd.func33, Tryd.ntmps33
  go_wp2_with fail
  refine HI.out.mono ?_
  rintro e w' ⟨rfl, rfl⟩
  go_wp2_with fail
  go_loopw [7, 9] (fun a b wr => wr = w' ∧ b = num 0 ∧ a = num 0) (fun _ _ _ => 0)
  case atStart => exact ⟨rfl, rfl, rfl⟩
  case round =>
    obtain ⟨rfl, rfl, rfl⟩ := hrel
    by_cases p : (0 : Int) < (R.m : Int)
    · go_wp2
      go_ret
      exact ⟨rfl, rfl⟩
    · go_wp2
      go_ret
      exact ⟨rfl, rfl⟩
def pickN (r : Nat → Blk) (k : Nat) : Option Nat := (pick r k).map fun x => x.1
theorem takeStep_cast {k : Nat} (r : Nat → Blk) (a : Option (Fin k)) (x : Fin k) : takeStep r (a.map Fin.castSucc) (Fin.castSucc x) = (takeStep r a x).map Fin.castSucc := by
  unfold takeStep
  show (if (r x.1).st = 1 then _ else _) = _
  split
  · cases a with
    | none => rfl
    | some y =>
      show (if (r x.1).er < (r y.1).er then _ else _) = _
      split
      · rename_i hh; simp only [hh, if_true]; rfl
      · rename_i hh; simp only [hh, if_false]; rfl
  · rfl
theorem fold_cast {k : Nat} (r : Nat → Blk) : ∀ (l : List (Fin k)) (a : Option (Fin k)), (l.map Fin.castSucc).foldl (takeStep r) (a.map Fin.castSucc) = (l.foldl (takeStep r) a).map Fin.castSucc
  | [], _ => rfl
  | x :: l, a => by
    rw [List.map_cons, List.foldl_cons, List.foldl_cons, takeStep_cast]
    exact fold_cast r l _
/-- One block more to look at. -/
def stepN (r : Nat → Blk) (a : Option Nat) (k : Nat) : Option Nat :=
  if (r k).st = 1 then (match a with
    | none => some k
    | some y => if (r k).er < (r y).er then some k else some y) else a
theorem pickN_succ (r : Nat → Blk) (k : Nat) : pickN r (k + 1) = stepN r (pickN r k) k := by
  unfold pickN pick
  rw [List.finRange_succ_last, List.foldl_append]
  have h := fold_cast r (List.finRange k) none
  rw [show (none : Option (Fin k)).map Fin.castSucc = none from rfl] at h
  rw [h]
  generalize (List.finRange k).foldl (takeStep r) none = a
  rw [List.foldl_cons, List.foldl_nil]
  unfold takeStep stepN
  show Option.map _ (if (r k).st = 1 then _ else _) = _
  split
  · cases a with
    | none => rfl
    | some y =>
      show Option.map _ (if (r k).er < (r y.1).er then _ else _) = (if (r k).er < (r y.1).er then _ else _)
      split <;> rfl
  · cases a with
    | none => rfl
    | some y => rfl
theorem pickN_zero (r : Nat → Blk) : pickN r 0 = none := rfl
theorem pickN_lt {r : Nat → Blk} {k y : Nat} (h : pickN r k = some y) : y < k := by
  unfold pickN at h
  cases hp : pick r k with
  | none => rw [hp] at h; cases h
  | some x => rw [hp] at h; simp only [Option.map_some, Option.some.injEq] at h; omega
def bestN : Option Nat → Value
  | none => num (-1)
  | some y => num y
def KTake (w : World) (R : Ref) (f : Pool) (i : Nat) (e : Ending) (w' : World) : Prop :=
  (pickN (f i) R.m = none ∧ e = .returned (.tuple #[num 0, num 70]) ∧ RefM w' R f ∨ ∃ y : Nat, pickN (f i) R.m = some y ∧ e = .returned (.tuple #[num y, num 0]) ∧ RefM w' R (upd f i y ⟨2, (f i y).er⟩)) ∧ Stp R.K w w'
set_option maxHeartbeats 1600000 in
theorem kTake_out {w : World} {R : Ref} {f : Pool} (h : RefM w R f) {d : Int} (hd : ¬ (0 ≤ d ∧ d < R.n)) : Calls Tryd.prog 11 #[ptr R.r 0, num d] w fun e w' => e = .returned (.tuple #[num 0, num 1]) ∧ w' = w := by
  have HI := hide (kIn_none h hd)
  clear h hd
  go_enter Tryd.func11, Tryd.ntmps11
  go_wp2_with fail
  refine HI.out.mono ?_
  rintro e w' ⟨rfl, rfl⟩
  go_wp2
  go_ret2
  exact ⟨rfl, rfl⟩
set_option maxHeartbeats 3200000 in
set_option maxRecDepth 8000 in
theorem kTake_in {w : World} {R : Ref} {f : Pool} (h : RefM w R f) {i : Nat} (hi : i < R.n) (hm : 1 ≤ R.m) : Calls Tryd.prog 11 #[ptr R.r 0, num i] w (KTake w R f i) := by
  have HI := hide (kIn_zero h hi hm)
  have c1 : w.cell? ⟨R.r, 1, none⟩ = some (num R.m) := cell_at h.box rfl
  have HM := hide h
  have m64 := h.m64
  have mm : (R.m : Int) ≤ 64 := by omega
  clear h
  go_enter Tryd.func11, Tryd.ntmps11
  go_wp2_with fail
  refine HI.out.mono ?_
  rintro e w' ⟨rfl, rfl⟩
  go_wp2_with fail
  go_loopw [7, 8] (fun a b wr => ∃ k : Nat, k ≤ R.m ∧ b = num k ∧ a = bestN (pickN (f i) k) ∧ RefM wr R f ∧ Stp R.K w' wr) (fun _ b _ => R.m - (intOf b).toNat)
  case atStart => exact ⟨0, Nat.zero_le _, rfl, by rw [pickN_zero]; rfl, HM.out, Stp.refl _ _⟩
  case round =>
    clear c1 HM HI
    obtain ⟨k, hk, rfl, rfl, hR, hg⟩ := hrel
    have c1 : wr.cell? ⟨R.r, 1, none⟩ = some (num R.m) := cell_at hR.box rfl
    have c2 : wr.cell? ⟨R.r, 2, none⟩ = some (.slice (some ⟨R.sb, 0, none⟩) R.l R.sc) := cell_at hR.box rfl
    have e2 : wr.cell? ⟨R.r, 3, none⟩ = some (.slice (some ⟨R.eb, 0, none⟩) R.l R.ec) := cell_at hR.box rfl
    by_cases hkm : k < R.m
    · have p1 : (k : Int) < (R.m : Int) := by omega
      obtain ⟨z, j, hz, hj, ej, q1, q2, q3⟩ := hR.flat hi hkm
      have c3 : wr.cell? ⟨R.sb, j, none⟩ = some (num (f i k).st) := by rw [ej]; exact hR.st i k hi hkm
      have e3 : wr.cell? ⟨R.eb, j, none⟩ = some (num (f i k).er) := by rw [ej]; exact hR.er i k hi hkm
      have HC := hide (pickN_succ (f i) k)
      have HR := hide hR
      have HN : Hid (∀ n, RefM (wr.drewN n) R f ∧ Stp R.K w' (wr.drewN n)) := fun n => ⟨hR.stp (K := No) ((Stp.refl _ _).drewN n) (fun x => x) (fun x => x) fun x => x, hg.drewN n⟩
      clear hR hg ej
      by_cases ht : (f i k).st = 1
      · rw [ht] at c3
        cases hp : pickN (f i) k with
        | none =>
          have HC' : Hid (pickN (f i) (k + 1) = some k) := by have h := HC.out; rw [hp] at h; unfold stepN at h; rw [if_pos ht] at h; exact h
          clear HC hp ht
          unfold bestN
          go_wp2_with fail
          go_quiet (fail)
          go_wp2
          go_roundw
          case rel => exact ⟨k + 1, by omega, by go_num, by rw [HC'.out] <;> rfl, (HN.out _).1, (HN.out _).2⟩
          case measure => simp [intOf]; omega
        | some y =>
          have hy := pickN_lt hp
          have hym : y < R.m := by omega
          obtain ⟨z', j', hz', hj', ej', s1, s2, s3⟩ := HR.out.flat hi hym
          obtain rfl : z = z' := by omega
          have e4 : wr.cell? ⟨R.eb, j', none⟩ = some (num (f i y).er) := by rw [ej']; exact HR.out.er i y hi hym
          obtain ⟨xa, hxa⟩ : ∃ x : Int, ((f i k).er : Int) = x := ⟨_, rfl⟩
          obtain ⟨xb, hxb⟩ : ∃ x : Int, ((f i y).er : Int) = x := ⟨_, rfl⟩
          rw [hxa] at e3
          rw [hxb] at e4
          have y0 : ¬ (y : Int) < 0 := by omega
          have hw1 : IntKind.i64.wrap (z : Int) = (z : Int) := by rw [IntKind.wrap_i64]; omega
          have hw2 : IntKind.i64.wrap (j' : Int) = (j' : Int) := by rw [IntKind.wrap_i64]; omega
          by_cases hl : xa < xb
          · have HC' : Hid (pickN (f i) (k + 1) = some k) := by
              have h := HC.out; rw [hp] at h; unfold stepN at h; rw [if_pos ht] at h
              simp only at h
              rw [if_pos (by omega)] at h; exact h
            have hd : decide (xa < xb) = true := by simpa using hl
            clear HC hp ht ej' hxa hxb HR hz' hl
            unfold bestN
            go_wp2_with fail
            go_quiet (fail)
            go_wp2
            go_roundw
            case rel => exact ⟨k + 1, by omega, by go_num, by rw [HC'.out] <;> rfl, (HN.out _).1, (HN.out _).2⟩
            case measure => simp [intOf]; omega
          · have HC' : Hid (pickN (f i) (k + 1) = some y) := by
              have h := HC.out; rw [hp] at h; unfold stepN at h; rw [if_pos ht] at h
              simp only at h
              rw [if_neg (by omega)] at h; exact h
            have hd : decide (xa < xb) = false := by simpa using hl
            clear HC hp ht ej' hxa hxb HR hz' hl
            unfold bestN
            go_wp2_with fail
            go_quiet (fail)
            go_wp2
            go_roundw
            case rel => exact ⟨k + 1, by omega, by go_num, by rw [HC'.out] <;> rfl, (HN.out _).1, (HN.out _).2⟩
            case measure => simp [intOf]; omega
      · have HC' : Hid (pickN (f i) (k + 1) = pickN (f i) k) := by have h := HC.out; unfold stepN at h; rw [if_neg ht] at h; exact h
        have ht' : ((f i k).st == 1) = false := by simpa using ht
        generalize (f i k).st = t at c3 ht'
        clear HC ht
        generalize pickN (f i) k = pv at HC'
        go_wp2_with fail
        go_quiet (fail)
        go_wp2
        go_roundw
        case rel => exact ⟨k + 1, by omega, by go_num, by rw [HC'.out] <;> rfl, (HN.out _).1, (HN.out _).2⟩
        case measure => simp [intOf]; omega
    · obtain rfl : k = R.m := by omega
      have p1 : ¬ (R.m : Int) < (R.m : Int) := by omega
      cases hp : pickN (f i) R.m with
      | none =>
        have HP := hide hp
        have HR := hide hR
        have HG := hide hg
        clear hR hg hp
        unfold bestN
        go_wp2
        go_ret2
        exact ⟨.inl ⟨HP.out, rfl, HR.out⟩, HG.out⟩
      | some y =>
        have hy := pickN_lt hp
        obtain ⟨z, j, hz, hj, ej, q1, q2, q3⟩ := hR.flat hi hy
        have y0 : ¬ (y : Int) < 0 := by omega
        have hf : wr.frozen? ⟨R.sb, j, none⟩ = false := hR.os.free _
        have c3 : wr.cell? ⟨R.sb, j, none⟩ = some (num (f i y).st) := by rw [ej]; exact hR.st i y hi hy
        have HY := hide (hR.setSt hi hy 2)
        rw [← ej] at HY
        have HZ : Hid (Stp R.K w' (wr.setCell ⟨R.sb, j, none⟩ (num 2))) := hg.set (.inl (.inl rfl)) _
        have HD : Hid (∀ V : World, RefM V R (upd f i y ⟨2, (f i y).er⟩) → Stp R.K w' V → ∀ n, RefM (V.drewN n) R (upd f i y ⟨2, (f i y).er⟩) ∧ Stp R.K w' (V.drewN n)) := fun V hV hs n => ⟨hV.stp (K := No) ((Stp.refl _ _).drewN n) (fun x => x) (fun x => x) fun x => x, hs.drewN n⟩
        have HP := hide hp
        clear hR hg hp ej
        unfold bestN
        go_wp2_with fail
        go_region
        all_goals
          go_wp2
          go_ret2
          exact ⟨.inr ⟨y, HP.out, rfl, (HD.out _ HY.out HZ.out 1).1⟩, (HD.out _ HY.out HZ.out 1).2⟩
end Bk
end Go.Proofs.YtoakokpeomlkjaaDoor
