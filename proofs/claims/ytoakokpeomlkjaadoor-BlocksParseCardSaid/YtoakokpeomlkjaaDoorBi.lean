/- Layer 7 (blocks): awake; abs. -/
import Derived.Test.YtoakokpeomlkjaaDoorBh
import Derived.ProofKit
import Derived.OpenShut
import Derived.ChangeOld
import Derived.Stop.Joined
import Derived.SizedLaws
import Derived.Deep.Slices
namespace Go.Proofs.YtoakokpeomlkjaaDoor
open Go.ChangeShapes Go.WideShapes Go.ChangeAt Go.RowKit Go.Maps
namespace Bk
theorem Take_some {w : World} {P : Lay} {f : Pool} (h : PoolM w P f) {i : Nat} (hi : i < P.n) {x : Fin P.m} (hk : pick (f i) P.m = some x) :
    Calls Tryd.prog 10 #[ptr P.p 0, num i] w fun e w' => e = .returned (.tuple #[num (x.1 : Int), num 0]) ∧ PoolM w' P (upd f i x.1 ⟨2, (f i x.1).er⟩) ∧ Stp P.K w w' :=
  (Take_in h hi).mono fun e w' hp => by
    rcases hp.1 with ⟨h1, _, _⟩ | ⟨y, h1, h2, h3⟩
    · rw [hk] at h1; cases h1
    · rw [hk] at h1; cases h1; exact ⟨h2, h3, hp.2⟩
theorem Take_none {w : World} {P : Lay} {f : Pool} (h : PoolM w P f) {i : Nat} (hi : i < P.n) (hk : pick (f i) P.m = none) :
    Calls Tryd.prog 10 #[ptr P.p 0, num i] w fun e w' => e = .returned (.tuple #[num 0, num 70]) ∧ PoolM w' P f ∧ Stp P.K w w' :=
  (Take_in h hi).mono fun e w' hp => by
    rcases hp.1 with ⟨_, h2, h3⟩ | ⟨y, h1, _, _⟩
    · exact ⟨h2, h3, hp.2⟩
    · rw [hk] at h1; cases h1
theorem MovePost.yes {w : World} {P : Lay} {f : Pool} {i k : Nat} {L : List Int} {to : Int} {e : Ending} {w' : World} (h : MovePost w P f i k L to e w') (hm : (f i k).st ∈ L) : e = .returned (num 0) ∧ PoolM w' P (upd f i k ⟨to, (f i k).er⟩) ∧ Stp P.K w w' := by
  rcases h.1 with ⟨_, h1, h2⟩ | ⟨h0, _, _⟩
  · exact ⟨h1, h2, h.2⟩
  · exact absurd hm h0
theorem MovePost.no {w : World} {P : Lay} {f : Pool} {i k : Nat} {L : List Int} {to : Int} {e : Ending} {w' : World} (h : MovePost w P f i k L to e w') (hm : (f i k).st ∉ L) : e = .returned (num 71) ∧ PoolM w' P f ∧ Stp P.K w w' := by
  rcases h.1 with ⟨h0, _, _⟩ | ⟨_, h1, h2⟩
  · exact absurd h0 hm
  · exact ⟨h1, h2, h.2⟩
theorem ErasedPost.yes {w : World} {P : Lay} {f : Pool} {i k : Nat} {e : Ending} {w' : World} (h : ErasedPost w P f i k e w') (hm : (f i k).st ≠ 4) : e = .returned (num 0) ∧ PoolM w' P (upd f i k ⟨(f i k).st, oneMore (f i k).er⟩) ∧ Stp P.K w w' := by
  rcases h.1 with ⟨h0, _, _⟩ | ⟨_, h1, h2⟩
  · exact absurd h0 hm
  · exact ⟨h1, h2, h.2⟩
theorem Hi.K {B : Nat} {P : Lay} (h : Hi B P) : ∀ g, P.K g → B ≤ g := fun _ ⟨i, hi, e⟩ => e ▸ h.2.2 i hi
abbrev aw0 : Pool := fresh
abbrev aw1 : Pool := upd fresh 0 0 ⟨2, 0⟩
abbrev aw2 : Pool := upd aw1 0 0 ⟨2, 1⟩
abbrev aw3 : Pool := upd aw2 0 0 ⟨1, 1⟩
abbrev aw4 : Pool := upd aw3 0 1 ⟨2, 0⟩
set_option maxHeartbeats 3200000 in
set_option maxRecDepth 4000 in
theorem awake_ok (w : World) : Calls Tryd.prog 6 #[] w fun e w' => e = .returned (.bool true) ∧ w.grownBy w' none := by
  have HN := hide (New_ok 1 3 (by decide) (by decide) (by decide) (by decide) w)
  go_enter Tryd.func6, Tryd.ntmps6
  go_wp2_with fail
  refine HN.out.mono ?_
  rintro e w1 ⟨⟨pp, pd, pb, n, m⟩, hn, hm, hHi, rfl, hg1, hP⟩
  simp only at hn hm
  subst hn hm
  have H1 := hide (Take_some hP (i := 0) (show (0 : Nat) < 1 by decide) (x := (0 : Fin 3)) (show pick (fresh 0) 3 = some (0 : Fin 3) by decide))
  have HHi := hide hHi
  have HG1 := hide hg1
  clear hP HN hHi hg1
  go_wp2_with fail
  refine H1.out.mono ?_
  rintro e w2 ⟨rfl, hP, hs2⟩
  replace hP : PoolM w2 _ aw1 := hP
  have S2 := hide ((Stp.of_grown (K := fun g => w.heap.size ≤ g) HG1.out).trans (hs2.more HHi.out.K))
  have H2 := hide (Erased_in (i := 0) (k := 0) hP (show (0 : Nat) < 1 by decide) (show (0 : Nat) < 3 by decide))
  clear hP H1 hs2
  go_wp2_with fail
  refine H2.out.mono ?_
  intro e w3 hp
  obtain ⟨rfl, hP, hs3⟩ := hp.yes (by decide)
  replace hP : PoolM w3 _ aw2 := hP
  have S3 := hide (S2.out.trans (hs3.more HHi.out.K))
  have H3 := hide (Free_in (i := 0) (k := 0) hP (show (0 : Nat) < 1 by decide) (show (0 : Nat) < 3 by decide))
  clear hP H2 hs3 hp
  go_wp2_with fail
  refine H3.out.mono ?_
  intro e w4 hp
  obtain ⟨rfl, hP, hs4⟩ := hp.yes (by decide)
  replace hP : PoolM w4 _ aw3 := hP
  have S4 := hide (S3.out.trans (hs4.more HHi.out.K))
  have H4 := hide (Take_some hP (i := 0) (show (0 : Nat) < 1 by decide) (x := (1 : Fin 3)) (show pick (aw3 0) 3 = some (1 : Fin 3) by decide))
  clear hP H3 hs4 hp
  go_wp2_with fail
  refine H4.out.mono ?_
  rintro e w5 ⟨rfl, hP, hs5⟩
  replace hP : PoolM w5 _ aw4 := hP
  have S5 := hide (S4.out.trans (hs5.more HHi.out.K))
  have H5 := hide (Close_in (i := 0) (k := 2) hP (show (0 : Nat) < 1 by decide) (show (2 : Nat) < 3 by decide))
  clear hP H4 hs5
  go_wp2_with fail
  refine H5.out.mono ?_
  intro e w6 hp
  obtain ⟨rfl, hP, hs6⟩ := hp.no (by decide)
  have S6 := hide (S5.out.trans (hs6.more HHi.out.K))
  have H6 := hide (State_in (i := 0) (k := 1) hP (show (0 : Nat) < 1 by decide) (show (1 : Nat) < 3 by decide))
  have H7 := hide (Spread_ok hP (dieRow_in hP (i := 0) (show (0 : Nat) < 1 by decide)))
  clear hP H5 hs6 hp
  go_wp2_with fail
  refine H6.out.mono ?_
  rintro e w6 ⟨rfl, rfl⟩
  go_wp2_with fail
  refine H7.out.mono ?_
  rintro e w7 ⟨rfl, hg7⟩
  have S7 := hide (S6.out.trans (.of_grown hg7))
  go_wp2
  go_ret
  exact ⟨rfl, grown_of_below (S7.out.below (Nat.le_refl _) fun _ h => h)⟩
def absS (n : Int) : Nat := if n < 0 then (-(n + 1)).toNat else n.toNat
theorem absS_neg {n : Int} (h : n < 0) : (absS n : Int) = -(n + 1) := by unfold absS; rw [if_pos h]; omega
theorem absS_pos {n : Int} (h : ¬ n < 0) : (absS n : Int) = n := by unfold absS; rw [if_neg h]; omega
theorem absS_le {n : Int} (h : I64 n) : absS n ≤ 9223372036854775807 := by
  unfold I64 at h
  by_cases hn : n < 0
  · have := absS_neg hn; omega
  · have := absS_pos hn; omega
set_option maxHeartbeats 400000 in
theorem abs_ok (n : Int) (h : I64 n) (w : World) : Calls Tryd.prog 9 #[num n] w fun e w' => e = .returned (num (absS n)) ∧ w' = w := by
  obtain ⟨h1, h2⟩ := h
  by_cases hn : n < 0
  · have HE : Hid _ := absS_neg hn
    have q1 : n + 1 ≤ 0 := by omega
    go_enter Tryd.func9, Tryd.ntmps9
    go_wp2
    go_ret
    exact ⟨ret_int (by rw [HE.out]), rfl⟩
  · have HE : Hid _ := absS_pos hn
    go_enter Tryd.func9, Tryd.ntmps9
    go_wp2
    go_ret
    exact ⟨ret_int HE.out.symm, rfl⟩
theorem own : ownKnob Tryd.prog.godebug = none := by kernel_rfl
theorem laidOut : laidOutB Tryd.prog = true := by kernel_rfl
theorem i64_of_wf {x : Int} (h : (Lit.int .i64 x).wf = true) : I64 x := by
  simp [Lit.wf, IntKind.min, IntKind.max, IntKind.signed, IntKind.bits] at h
  unfold I64
  omega
theorem wf_i64 {x : Int} (h : I64 x) : (Lit.int .i64 x).wf = true := by
  unfold I64 at h
  simp [Lit.wf, IntKind.min, IntKind.max, IntKind.signed, IntKind.bits]
  omega
end Bk
end Go.Proofs.YtoakokpeomlkjaaDoor
