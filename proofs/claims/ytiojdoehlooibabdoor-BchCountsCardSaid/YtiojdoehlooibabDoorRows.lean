/-
  NARROWER THAN 'FOR EVERY INPUT', by the rows' own cells (each row's printed sentence says how): BchNothing: laid · BchCounts: laid · BchNoughts: laid.
  DERIVED. THE GIVEN ROWS OF THIS SEAT. 3 by the template 'for every input the law returns true; each argument reads behind the call as it read before'; 0 by the template 'total and deterministic' (their statements: YtiojdoehlooibabDoorTotals.lean).
  GIVEN WITH THE SEED: the statements are not yours to turn. If you find one false, say at which input.
  Laid BY PROGRAM, IN A SANDBOX (cutbox-rows.mjs): the forced cells as the released guide's own fill.sh prints them over the translation 3dd916563c2b8854… (all of the seat's roots in one cut). By AI agents, Wed Nov 11 2026. No macro, syntax, notation, axiom, sorry.
-/
import Derived.Test.YtiojdoehlooibabDoorChecked
import GoSem.Claim
import GoSem.ClaimJoined
import GoSem.ClaimMapViews
import Derived.JoinedTies
import Derived.KernelRfl
namespace Go.Proofs.YtiojdoehlooibabDoor
/- THE CELL 'sum', in the pinned program and in every row, IS THE sha256 OF THE DUMP (.gsa) THAT YtiojdoehlooibabDoorProg.lean LOADS. Nothing in Lean hashes anything: it is a label: what it is worth is what the hold of that sum in a sandbox is worth. -/
noncomputable def Tryd.pinned : Pinned := { name := "ytiojdoehlooibabdoor", sum := "3dd916563c2b885474488d54dd782dd6e1c609eb999aeff28ef5aa939b8dfbf1", checked := Tryd.checked }
namespace Rows
def none {H : Type} : Left H := { results := [], args := [] }

/- WHAT THE LISTED PACKAGE-LEVEL VARIABLES READ AS WHEN THE CALL BEGINS. Each datum BY PROGRAM (the guide's laid-datum.mjs) off the statement by which the dump's own 'gosem.cut.vars' lays the variable. In a bare row this is a premise. The card (YtiojdoehlooibabDoorCards.lean) ties it to the program's text. -/
def laid_firkin_gf_polynomials {H : Type} : DataW H := .agg [.lit (.int .i64 7), .lit (.int .i64 11), .lit (.int .i64 19), .lit (.int .i64 37), .lit (.int .i64 67), .lit (.int .i64 137), .lit (.int .i64 285), .lit (.int .i64 529), .lit (.int .i64 1033), .lit (.int .i64 2053), .lit (.int .i64 4179), .lit (.int .i64 8219)]

/-- 'firkinlaw02.BchNothing': WHATEVER THE INPUT: true; the input reads as it did. -/
def bchNothingSpec : ChangeSpec := { name := "bchNothing", fn := fun _ => fun
  | [d1, d2, d3] => { results := [.lit (.bool true)], args := [d1, d2, d3] }
  | _ => none }
def bchNothingRow : OpenClaim := { program := "ytiojdoehlooibabdoor", sum := "3dd916563c2b885474488d54dd782dd6e1c609eb999aeff28ef5aa939b8dfbf1", func := "firkin/firkinlaw02.BchNothing", spec := "bchNothing", inPlace := ["sync/atomic.LoadUint32", "(*internal/sync.Mutex).Lock", "internal/race.Disable", "sync/atomic.CompareAndSwapInt32", "internal/race.Enable", "internal/race.Acquire", "(*internal/sync.Mutex).lockSlow", "internal/sync.runtime_canSpin", "internal/sync.runtime_doSpin", "internal/sync.throw", "internal/sync.runtime_nanotime", "internal/sync.runtime_SemacquireMutex", "sync/atomic.AddInt32", "(*internal/sync.Mutex).Unlock", "internal/race.ReleaseMerge", "(*internal/sync.Mutex).unlockSlow", "internal/sync.fatal", "internal/sync.runtime_Semrelease", "sync/atomic.StoreUint32"], unfollowed := true, recurses := true, named := ["firkin/gf.polynomials"], apart := false, laid := [("firkin/gf.polynomials", laid_firkin_gf_polynomials)] }
def BchNothingSaid : Prop := bchNothingRow.holds Tryd.pinned (OpenSpec.ofChange bchNothingSpec)

/-- ITS FALSE NEIGHBOUR: 'it returns false'. Refute it at one input. -/
def bchNothingWrong : ChangeSpec := { name := "bchNothing", fn := fun _ => fun
  | [d1, d2, d3] => { results := [.lit (.bool false)], args := [d1, d2, d3] }
  | _ => none }
def BchNothingWrongFalsely : Prop := bchNothingRow.holds Tryd.pinned (OpenSpec.ofChange bchNothingWrong)

/-- 'firkinlaw02.BchCounts': WHATEVER THE INPUT: true; the input reads as it did. -/
def bchCountsSpec : ChangeSpec := { name := "bchCounts", fn := fun _ => fun
  | [d1, d2, d3, d4, d5] => { results := [.lit (.bool true)], args := [d1, d2, d3, d4, d5] }
  | _ => none }
def bchCountsRow : OpenClaim := { program := "ytiojdoehlooibabdoor", sum := "3dd916563c2b885474488d54dd782dd6e1c609eb999aeff28ef5aa939b8dfbf1", func := "firkin/firkinlaw02.BchCounts", spec := "bchCounts", inPlace := ["sync/atomic.LoadUint32", "(*internal/sync.Mutex).Lock", "internal/race.Disable", "sync/atomic.CompareAndSwapInt32", "internal/race.Enable", "internal/race.Acquire", "(*internal/sync.Mutex).lockSlow", "internal/sync.runtime_canSpin", "internal/sync.runtime_doSpin", "internal/sync.throw", "internal/sync.runtime_nanotime", "internal/sync.runtime_SemacquireMutex", "sync/atomic.AddInt32", "(*internal/sync.Mutex).Unlock", "internal/race.ReleaseMerge", "(*internal/sync.Mutex).unlockSlow", "internal/sync.fatal", "internal/sync.runtime_Semrelease", "sync/atomic.StoreUint32"], unfollowed := true, recurses := true, named := ["firkin/gf.polynomials"], apart := false, laid := [("firkin/gf.polynomials", laid_firkin_gf_polynomials)] }
def BchCountsSaid : Prop := bchCountsRow.holds Tryd.pinned (OpenSpec.ofChange bchCountsSpec)

/-- ITS FALSE NEIGHBOUR: 'it returns false'. Refute it at one input. -/
def bchCountsWrong : ChangeSpec := { name := "bchCounts", fn := fun _ => fun
  | [d1, d2, d3, d4, d5] => { results := [.lit (.bool false)], args := [d1, d2, d3, d4, d5] }
  | _ => none }
def BchCountsWrongFalsely : Prop := bchCountsRow.holds Tryd.pinned (OpenSpec.ofChange bchCountsWrong)

/-- 'firkinlaw02.BchNoughts': WHATEVER THE INPUT: true; the input reads as it did. -/
def bchNoughtsSpec : ChangeSpec := { name := "bchNoughts", fn := fun _ => fun
  | [d1, d2] => { results := [.lit (.bool true)], args := [d1, d2] }
  | _ => none }
def bchNoughtsRow : OpenClaim := { program := "ytiojdoehlooibabdoor", sum := "3dd916563c2b885474488d54dd782dd6e1c609eb999aeff28ef5aa939b8dfbf1", func := "firkin/firkinlaw02.BchNoughts", spec := "bchNoughts", inPlace := ["sync/atomic.LoadUint32", "(*internal/sync.Mutex).Lock", "internal/race.Disable", "sync/atomic.CompareAndSwapInt32", "internal/race.Enable", "internal/race.Acquire", "(*internal/sync.Mutex).lockSlow", "internal/sync.runtime_canSpin", "internal/sync.runtime_doSpin", "internal/sync.throw", "internal/sync.runtime_nanotime", "internal/sync.runtime_SemacquireMutex", "sync/atomic.AddInt32", "(*internal/sync.Mutex).Unlock", "internal/race.ReleaseMerge", "(*internal/sync.Mutex).unlockSlow", "internal/sync.fatal", "internal/sync.runtime_Semrelease", "sync/atomic.StoreUint32"], unfollowed := true, recurses := true, named := ["firkin/gf.polynomials"], apart := false, laid := [("firkin/gf.polynomials", laid_firkin_gf_polynomials)] }
def BchNoughtsSaid : Prop := bchNoughtsRow.holds Tryd.pinned (OpenSpec.ofChange bchNoughtsSpec)

/-- ITS FALSE NEIGHBOUR: 'it returns false'. Refute it at one input. -/
def bchNoughtsWrong : ChangeSpec := { name := "bchNoughts", fn := fun _ => fun
  | [d1, d2] => { results := [.lit (.bool false)], args := [d1, d2] }
  | _ => none }
def BchNoughtsWrongFalsely : Prop := bchNoughtsRow.holds Tryd.pinned (OpenSpec.ofChange bchNoughtsWrong)

/- THE SECOND FORM. 'bulk': how many values and letters a reading holds, each counted each time it is reached (what is shared counts as often as it is met; a slice's spare places count too). A statement '..UptoSaid' is the law's where the arguments, and the package variables that the reading takes, are together of bulk at most 1048576: NARROWER than '..Said'. Prove '..Said' where nothing that the law and all that it calls make is longer than what came in: it says more and counts as full. Else prove '..UptoSaid'. A law counts once. -/
mutual
def uptoBulk {H : Type} : DataW H → Nat
  | .lit (.string bytes) => bytes.length + 1
  | .lit _ => 1
  | .nil => 1
  | .ptr d => uptoBulk d + 1
  | .slice elems spare => uptoBulkAll elems + uptoBulkAll spare + 1
  | .agg parts => uptoBulkAll parts + 1
  | .iface _ d => uptoBulk d + 1
  | .map entries => uptoBulkEntries entries + 1
  | .held _ => 1
def uptoBulkAll {H : Type} : List (DataW H) → Nat
  | [] => 0
  | d :: r => uptoBulk d + uptoBulkAll r
def uptoBulkEntries {H : Type} : List (Lit × DataW H) → Nat
  | [] => 0
  | x :: r => uptoBulkEntry x + uptoBulkEntries r
def uptoBulkEntry {H : Type} : Lit × DataW H → Nat
  | (.string bytes, d) => bytes.length + uptoBulk d + 1
  | (_, d) => uptoBulk d + 1
 end
def uptoSmall : (H : Type) → List (DataW H) → Bool := fun _ ds => decide (uptoBulkAll ds ≤ 1048576)
def OpenSpec.upto (s : _root_.Go.ChangeSpec) : _root_.Go.OpenSpec := { _root_.Go.OpenSpec.ofChange s with cond := some uptoSmall }

/-- 'firkinlaw02.BchNothing', WHERE WHAT IT READS IS OF BULK AT MOST 1048576: true; the input reads as it did. -/
def bchNothingUptoRow : OpenClaim := { program := "ytiojdoehlooibabdoor", sum := "3dd916563c2b885474488d54dd782dd6e1c609eb999aeff28ef5aa939b8dfbf1", func := "firkin/firkinlaw02.BchNothing", spec := "bchNothing", inPlace := ["sync/atomic.LoadUint32", "(*internal/sync.Mutex).Lock", "internal/race.Disable", "sync/atomic.CompareAndSwapInt32", "internal/race.Enable", "internal/race.Acquire", "(*internal/sync.Mutex).lockSlow", "internal/sync.runtime_canSpin", "internal/sync.runtime_doSpin", "internal/sync.throw", "internal/sync.runtime_nanotime", "internal/sync.runtime_SemacquireMutex", "sync/atomic.AddInt32", "(*internal/sync.Mutex).Unlock", "internal/race.ReleaseMerge", "(*internal/sync.Mutex).unlockSlow", "internal/sync.fatal", "internal/sync.runtime_Semrelease", "sync/atomic.StoreUint32"], unfollowed := true, recurses := true, named := ["firkin/gf.polynomials"], apart := false, laid := [("firkin/gf.polynomials", laid_firkin_gf_polynomials)], narrowed := true }
def BchNothingUptoSaid : Prop := bchNothingUptoRow.holds Tryd.pinned (OpenSpec.upto bchNothingSpec)

/-- 'firkinlaw02.BchCounts', WHERE WHAT IT READS IS OF BULK AT MOST 1048576: true; the input reads as it did. -/
def bchCountsUptoRow : OpenClaim := { program := "ytiojdoehlooibabdoor", sum := "3dd916563c2b885474488d54dd782dd6e1c609eb999aeff28ef5aa939b8dfbf1", func := "firkin/firkinlaw02.BchCounts", spec := "bchCounts", inPlace := ["sync/atomic.LoadUint32", "(*internal/sync.Mutex).Lock", "internal/race.Disable", "sync/atomic.CompareAndSwapInt32", "internal/race.Enable", "internal/race.Acquire", "(*internal/sync.Mutex).lockSlow", "internal/sync.runtime_canSpin", "internal/sync.runtime_doSpin", "internal/sync.throw", "internal/sync.runtime_nanotime", "internal/sync.runtime_SemacquireMutex", "sync/atomic.AddInt32", "(*internal/sync.Mutex).Unlock", "internal/race.ReleaseMerge", "(*internal/sync.Mutex).unlockSlow", "internal/sync.fatal", "internal/sync.runtime_Semrelease", "sync/atomic.StoreUint32"], unfollowed := true, recurses := true, named := ["firkin/gf.polynomials"], apart := false, laid := [("firkin/gf.polynomials", laid_firkin_gf_polynomials)], narrowed := true }
def BchCountsUptoSaid : Prop := bchCountsUptoRow.holds Tryd.pinned (OpenSpec.upto bchCountsSpec)

/-- 'firkinlaw02.BchNoughts', WHERE WHAT IT READS IS OF BULK AT MOST 1048576: true; the input reads as it did. -/
def bchNoughtsUptoRow : OpenClaim := { program := "ytiojdoehlooibabdoor", sum := "3dd916563c2b885474488d54dd782dd6e1c609eb999aeff28ef5aa939b8dfbf1", func := "firkin/firkinlaw02.BchNoughts", spec := "bchNoughts", inPlace := ["sync/atomic.LoadUint32", "(*internal/sync.Mutex).Lock", "internal/race.Disable", "sync/atomic.CompareAndSwapInt32", "internal/race.Enable", "internal/race.Acquire", "(*internal/sync.Mutex).lockSlow", "internal/sync.runtime_canSpin", "internal/sync.runtime_doSpin", "internal/sync.throw", "internal/sync.runtime_nanotime", "internal/sync.runtime_SemacquireMutex", "sync/atomic.AddInt32", "(*internal/sync.Mutex).Unlock", "internal/race.ReleaseMerge", "(*internal/sync.Mutex).unlockSlow", "internal/sync.fatal", "internal/sync.runtime_Semrelease", "sync/atomic.StoreUint32"], unfollowed := true, recurses := true, named := ["firkin/gf.polynomials"], apart := false, laid := [("firkin/gf.polynomials", laid_firkin_gf_polynomials)], narrowed := true }
def BchNoughtsUptoSaid : Prop := bchNoughtsUptoRow.holds Tryd.pinned (OpenSpec.upto bchNoughtsSpec)

end Rows
end Go.Proofs.YtiojdoehlooibabDoor
