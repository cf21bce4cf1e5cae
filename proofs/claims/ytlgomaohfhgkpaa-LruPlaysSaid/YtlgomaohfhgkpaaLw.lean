/- Layer 10 (lru): entries sorted by rising keys. -/
import Derived.Test.YtlgomaohfhgkpaaLv
import Derived.Shelf.SlSortCmp.WholeK
import Derived.Shelf.SlSortCmp.NoneTotal
namespace Go.Proofs.Ytlgomaohfhgkpaa
open Go.RowKit Go.Maps Go.Shelf
namespace Lr
def sortE_ren : Go.Shelf.Ren := ⟨fun | 6 => 33 | 15 => 40 | 14 => 39 | 28 => 50 | 29 => 51 | 20 => 42 | 21 => 43 | 22 => 44 | 23 => 45 | 24 => 46 | 25 => 47 | 26 => 48 | 27 => 49 | 46 => 52 | 47 => 53 | 48 => 54 | 49 => 55 | 50 => 56 | 57 => 57 | n => n, fun | 22 => 47 | 24 => 37 | 25 => 79 | 3 => 3 | 39 => 83 | 0 => 0 | 53 => 94 | 55 => 32 | 4 => 4 | 46 => 87 | 45 => 86 | 50 => 91 | 5 => 5 | 9 => 9 | 66 => 96 | 70 => 100 | 76 => 102 | 77 => 103 | n => n, fun | n => n⟩
theorem sortE : Go.Proofs.SlLaysF0.n6 Try.prog sortE_ren := {
  mixed := by kernel_rfl
  f6 := ⟨Try.f33.name, by decide, Try.func33.trans (congrArg some (by kernel_rfl))⟩
  f14 := ⟨Try.f39.name, by decide, Try.func39.trans (congrArg some (by kernel_rfl))⟩
  f15 := Try.func40.trans (congrArg some (by kernel_rfl))
  f20 := ⟨Try.f42.name, by decide, Try.func42.trans (congrArg some (by kernel_rfl))⟩
  f21 := ⟨Try.f43.name, by decide, Try.func43.trans (congrArg some (by kernel_rfl))⟩
  f22 := ⟨Try.f44.name, by decide, Try.func44.trans (congrArg some (by kernel_rfl))⟩
  f23 := ⟨Try.f45.name, by decide, Try.func45.trans (congrArg some (by kernel_rfl))⟩
  f24 := ⟨Try.f46.name, by decide, Try.func46.trans (congrArg some (by kernel_rfl))⟩
  f25 := ⟨Try.f47.name, by decide, Try.func47.trans (congrArg some (by kernel_rfl))⟩
  f26 := ⟨Try.f48.name, by decide, Try.func48.trans (congrArg some (by kernel_rfl))⟩
  f27 := ⟨Try.f49.name, by decide, Try.func49.trans (congrArg some (by kernel_rfl))⟩
  f28 := Try.func50.trans (congrArg some (by kernel_rfl))
  f29 := Try.func51.trans (congrArg some (by kernel_rfl))
  f46 := ⟨Try.f52.name, by decide, Try.func52.trans (congrArg some (by kernel_rfl))⟩
  f47 := Try.func53.trans (congrArg some (by kernel_rfl))
  f48 := Try.func54.trans (congrArg some (by kernel_rfl))
  f49 := ⟨Try.f55.name, by decide, Try.func55.trans (congrArg some (by kernel_rfl))⟩
  f50 := ⟨Try.f56.name, by decide, Try.func56.trans (congrArg some (by kernel_rfl))⟩
  f57 := ⟨Try.f57.name, by decide, Try.func57.trans (congrArg some (by kernel_rfl))⟩
  t0 := Try.underlying0
  a0 := Try.isAgg0
  z0 := Try.sizeOf0
  v0 := Try.zeroValue0
  t3 := Try.underlying3
  a3 := Try.isAgg3
  z3 := Try.sizeOf3
  v3 := Try.zeroValue3
  t4 := Try.underlying4
  a4 := Try.isAgg4
  z4 := Try.sizeOf4
  v4 := Try.zeroValue4
  t5 := Try.underlying5
  a5 := Try.isAgg5
  z5 := Try.sizeOf5
  v5 := Try.zeroValue5
  t9 := Try.underlying9
  a9 := Try.isAgg9
  z9 := Try.sizeOf9
  v9 := Try.zeroValue9
  t22 := Try.underlying47
  a22 := Try.isAgg47
  z22 := Try.sizeOf47
  v22 := Try.zeroValue47
  t25 := Try.underlying79
  a25 := Try.isAgg79
  z25 := Try.sizeOf79
  v25 := Try.zeroValue79
  t39 := Try.underlying83
  a39 := Try.isAgg83
  z39 := Try.sizeOf83
  v39 := Try.zeroValue83
  t45 := Try.underlying86
  a45 := Try.isAgg86
  z45 := Try.sizeOf86
  v45 := Try.zeroValue86
  t46 := Try.underlying87
  a46 := Try.isAgg87
  z46 := Try.sizeOf87
  v46 := Try.zeroValue87
  t50 := Try.underlying91
  a50 := Try.isAgg91
  z50 := Try.sizeOf91
  v50 := Try.zeroValue91
  t53 := Try.underlying94
  a53 := Try.isAgg94
  z53 := Try.sizeOf94
  v53 := Try.zeroValue94
  t55 := Try.underlying32
  a55 := Try.isAgg32
  z55 := Try.sizeOf32
  v55 := Try.zeroValue32
  t66 := Try.underlying96
  a66 := Try.isAgg96
  z66 := Try.sizeOf96
  v66 := Try.zeroValue96
  t70 := Try.underlying100
  a70 := Try.isAgg100
  z70 := Try.sizeOf100
  v70 := Try.zeroValue100
  t76 := Try.underlying102
  a76 := Try.isAgg102
  z76 := Try.sizeOf102
  v76 := Try.zeroValue102
  t77 := Try.underlying103
  a77 := Try.isAgg103
  z77 := Try.sizeOf103
  v77 := Try.zeroValue103 }
/-- Sorted by rising keys. -/
def Rise (S : List Ent) : Prop := S.Pairwise fun a b => a.key ≤ b.key
def SortPost (W : World) (base : Nat) (v : Value) (S : List Ent) (e : Ending) (W' : World) : Prop :=
  e = .returned (.tuple #[]) ∧ ∃ S', S'.Perm S ∧ Rise S' ∧ W'.ownsRow base 37 3 v S'.length (entC S') ∧ W.grownBy W' v.ownBlock
theorem Sort_ok {W : World} {base : Nat} {v : Value} {S : List Ent} (hown : W.ownsRow base 37 3 v S.length (entC S)) (hS : S.length ≤ 1000000) :
    Calls Try.prog 33 #[v, .func (.func 34) #[] #[]] W (SortPost W base v S) := by
  by_cases h0 : S.length = 0
  · have hS0 : S = [] := List.eq_nil_of_length_eq_zero h0
    subst hS0
    have hp : ∃ p cap, v = .slice p 0 cap := by
      rcases hown.2 with ⟨rfl, _⟩ | ⟨g, cap, cur, rfl, _⟩
      · exact ⟨_, _, rfl⟩
      · exact ⟨_, _, rfl⟩
    obtain ⟨p, cap, rfl⟩ := hp
    refine (Go.Proofs.AnyF.slices_SortFunc_none { sortE with } p cap _ W).mono ?_
    rintro e w' ⟨rfl, rfl⟩
    exact ⟨rfl, [], .refl _, .nil, hown, ⟨rfl, rfl, rfl, Nat.le_refl _, fun _ _ _ => rfl⟩⟩
  · rcases hown.2 with ⟨_, h⟩ | ⟨g, cap, cur, rfl, hb, hg, hn, hcap, hcs, ht⟩
    · exact absurd h h0
    · have eg : ∀ args w, (callFunc 34 args).run Try.prog w = .ok (.enter 34 args) w := enters_of Try.func34 (by kernel_rfl) rfl
      have hH : Go.Sort.HoldsK encE 3 W g 0 S.toArray := holds_of hg (by simpa using ht)
      have hcon := Go.Proofs.AnyQ.slices_SortFunc sortE 3 Try.isAgg37 Try.sizeOf37 encE (fun _ => rfl) (fun x v hv => by simp [encE] at hv; rcases hv with rfl | rfl | rfl <;> rfl) cfE swoE 34 #[] g 0 cap S.toArray W eg (cmpLaysE g 0 _ W) hH (lt_of_heap hg) (by simp; omega)
      change Calls Try.prog 33 _ _ _ at hcon
      refine Calls.mono (R := fun e w' => e = .returned (.tuple #[]) ∧ ∃ d' n os, Go.Sort.PermIn 0 S.toArray.size S.toArray d' ∧ Go.Sort.SortedIn (Go.Proofs.ltOf cfE) 0 S.toArray.size d' ∧ w' = Go.Proofs.sortWorldK encE 3 W g 0 n d' os) (by simpa using hcon) ?_
      rintro e w' ⟨rfl, d', n, os, hp, hs, rfl⟩
      have hsz : d'.size = S.toArray.size := hp.1
      have hperm : d'.toList.Perm S := by
        have h := hp.2.2
        have e1 : d'.extract 0 S.toArray.size = d' := Array.extract_eq_self_of_le (Nat.le_of_eq hsz)
        have e2 : S.toArray.extract 0 S.toArray.size = S.toArray := Array.extract_eq_self_of_le (Nat.le_refl _)
        rw [e1, e2] at h
        exact h
      obtain ⟨ho, hgr⟩ := sorted_own (n := n) (os := os) hsz hb hg (by simpa using hn) hcap hcs
      refine ⟨rfl, d'.toList, hperm, ?_, ?_, hgr⟩
      · rw [Rise, List.pairwise_iff_getElem]
        intro i j hi hj hij
        have hi' : i < d'.size := by simpa using hi
        have hj' : j < d'.size := by simpa using hj
        have h := hs i j (Nat.zero_le _) hij (by omega)
        rw [ltE, getElem!_pos d' i hi', getElem!_pos d' j hj'] at h
        simpa using h
      · have e1 : d'.toList.length = S.toArray.size := by simpa using hsz
        rw [e1]
        simpa using ho
end Lr
end Go.Proofs.Ytlgomaohfhgkpaa
