/-
  NARROWER THAN 'FOR EVERY INPUT', by the rows' own cells (each row's printed sentence says how): GfReckons: laid · GfDivides: laid · GfZeros: laid · GfRound: laid · GfSquares: laid · GfNothing: laid.
  DERIVED. THE GIVEN ROWS OF THIS SEAT. 6 by the template 'for every input the law returns true; each argument reads behind the call as it read before'; 0 by the template 'total and deterministic' (their statements: YtkbafbhhoemkcaaDoorTotals.lean).
  GIVEN WITH THE SEED: the statements are not yours to turn. If you find one false, say at which input.
  Laid BY PROGRAM, IN A SANDBOX (cutbox-rows.mjs): the forced cells as the released guide's own fill.sh prints them over the translation 30b51c26461b3c10… (all of the seat's roots in one cut). By AI agents, Wed Nov 11 2026. No macro, syntax, notation, axiom, sorry.
-/
import Derived.Test.YtkbafbhhoemkcaaDoorChecked
import GoSem.Claim
import GoSem.ClaimJoined
import GoSem.ClaimMapViews
import Derived.JoinedTies
import Derived.KernelRfl
namespace Go.Proofs.YtkbafbhhoemkcaaDoor
/- THE CELL 'sum', in the pinned program and in every row, IS THE sha256 OF THE DUMP (.gsa) THAT YtkbafbhhoemkcaaDoorProg.lean LOADS. Nothing in Lean hashes anything: it is a label: what it is worth is what the hold of that sum in a sandbox is worth. -/
noncomputable def Tryd.pinned : Pinned := { name := "ytkbafbhhoemkcaadoor", sum := "30b51c26461b3c10f81c1b339feff8a1fc9b2f4ff19b1670d7b33e302c54f018", checked := Tryd.checked }
namespace Rows
def none {H : Type} : Left H := { results := [], args := [] }

/- WHAT THE LISTED PACKAGE-LEVEL VARIABLES READ AS WHEN THE CALL BEGINS. Each datum BY PROGRAM (the guide's laid-datum.mjs) off the statement by which the dump's own 'gosem.cut.vars' lays the variable. In a bare row this is a premise. The card (YtkbafbhhoemkcaaDoorCards.lean) ties it to the program's text. -/
def laid_firkin_gf_polynomials {H : Type} : DataW H := .agg [.lit (.int .i64 7), .lit (.int .i64 11), .lit (.int .i64 19), .lit (.int .i64 37), .lit (.int .i64 67), .lit (.int .i64 137), .lit (.int .i64 285), .lit (.int .i64 529), .lit (.int .i64 1033), .lit (.int .i64 2053), .lit (.int .i64 4179), .lit (.int .i64 8219)]

/-- 'firkinlaw01.GfReckons': WHATEVER THE INPUT: true; the input reads as it did. -/
def gfReckonsSpec : ChangeSpec := { name := "gfReckons", fn := fun _ => fun
  | [d1, d2, d3, d4] => { results := [.lit (.bool true)], args := [d1, d2, d3, d4] }
  | _ => none }
def gfReckonsRow : OpenClaim := { program := "ytkbafbhhoemkcaadoor", sum := "30b51c26461b3c10f81c1b339feff8a1fc9b2f4ff19b1670d7b33e302c54f018", func := "firkin/firkinlaw01.GfReckons", spec := "gfReckons", inPlace := ["sync/atomic.LoadUint32", "(*internal/sync.Mutex).Lock", "internal/race.Disable", "sync/atomic.CompareAndSwapInt32", "internal/race.Enable", "internal/race.Acquire", "(*internal/sync.Mutex).lockSlow", "internal/sync.runtime_canSpin", "internal/sync.runtime_doSpin", "internal/sync.throw", "internal/sync.runtime_nanotime", "internal/sync.runtime_SemacquireMutex", "sync/atomic.AddInt32", "(*internal/sync.Mutex).Unlock", "internal/race.ReleaseMerge", "(*internal/sync.Mutex).unlockSlow", "internal/sync.fatal", "internal/sync.runtime_Semrelease", "sync/atomic.StoreUint32"], unfollowed := true, recurses := true, named := ["firkin/gf.polynomials"], apart := false, laid := [("firkin/gf.polynomials", laid_firkin_gf_polynomials)] }
def GfReckonsSaid : Prop := gfReckonsRow.holds Tryd.pinned (OpenSpec.ofChange gfReckonsSpec)

/-- ITS FALSE NEIGHBOUR: 'it returns false'. Refute it at one input. -/
def gfReckonsWrong : ChangeSpec := { name := "gfReckons", fn := fun _ => fun
  | [d1, d2, d3, d4] => { results := [.lit (.bool false)], args := [d1, d2, d3, d4] }
  | _ => none }
def GfReckonsWrongFalsely : Prop := gfReckonsRow.holds Tryd.pinned (OpenSpec.ofChange gfReckonsWrong)

/-- 'firkinlaw01.GfDivides': WHATEVER THE INPUT: true; the input reads as it did. -/
def gfDividesSpec : ChangeSpec := { name := "gfDivides", fn := fun _ => fun
  | [d1, d2, d3, d4] => { results := [.lit (.bool true)], args := [d1, d2, d3, d4] }
  | _ => none }
def gfDividesRow : OpenClaim := { program := "ytkbafbhhoemkcaadoor", sum := "30b51c26461b3c10f81c1b339feff8a1fc9b2f4ff19b1670d7b33e302c54f018", func := "firkin/firkinlaw01.GfDivides", spec := "gfDivides", inPlace := ["sync/atomic.LoadUint32", "(*internal/sync.Mutex).Lock", "internal/race.Disable", "sync/atomic.CompareAndSwapInt32", "internal/race.Enable", "internal/race.Acquire", "(*internal/sync.Mutex).lockSlow", "internal/sync.runtime_canSpin", "internal/sync.runtime_doSpin", "internal/sync.throw", "internal/sync.runtime_nanotime", "internal/sync.runtime_SemacquireMutex", "sync/atomic.AddInt32", "(*internal/sync.Mutex).Unlock", "internal/race.ReleaseMerge", "(*internal/sync.Mutex).unlockSlow", "internal/sync.fatal", "internal/sync.runtime_Semrelease", "sync/atomic.StoreUint32"], unfollowed := true, recurses := true, named := ["firkin/gf.polynomials"], apart := false, laid := [("firkin/gf.polynomials", laid_firkin_gf_polynomials)] }
def GfDividesSaid : Prop := gfDividesRow.holds Tryd.pinned (OpenSpec.ofChange gfDividesSpec)

/-- ITS FALSE NEIGHBOUR: 'it returns false'. Refute it at one input. -/
def gfDividesWrong : ChangeSpec := { name := "gfDivides", fn := fun _ => fun
  | [d1, d2, d3, d4] => { results := [.lit (.bool false)], args := [d1, d2, d3, d4] }
  | _ => none }
def GfDividesWrongFalsely : Prop := gfDividesRow.holds Tryd.pinned (OpenSpec.ofChange gfDividesWrong)

/-- 'firkinlaw01.GfZeros': WHATEVER THE INPUT: true; the input reads as it did. -/
def gfZerosSpec : ChangeSpec := { name := "gfZeros", fn := fun _ => fun
  | [d1, d2] => { results := [.lit (.bool true)], args := [d1, d2] }
  | _ => none }
def gfZerosRow : OpenClaim := { program := "ytkbafbhhoemkcaadoor", sum := "30b51c26461b3c10f81c1b339feff8a1fc9b2f4ff19b1670d7b33e302c54f018", func := "firkin/firkinlaw01.GfZeros", spec := "gfZeros", inPlace := ["sync/atomic.LoadUint32", "(*internal/sync.Mutex).Lock", "internal/race.Disable", "sync/atomic.CompareAndSwapInt32", "internal/race.Enable", "internal/race.Acquire", "(*internal/sync.Mutex).lockSlow", "internal/sync.runtime_canSpin", "internal/sync.runtime_doSpin", "internal/sync.throw", "internal/sync.runtime_nanotime", "internal/sync.runtime_SemacquireMutex", "sync/atomic.AddInt32", "(*internal/sync.Mutex).Unlock", "internal/race.ReleaseMerge", "(*internal/sync.Mutex).unlockSlow", "internal/sync.fatal", "internal/sync.runtime_Semrelease", "sync/atomic.StoreUint32"], unfollowed := true, recurses := true, named := ["firkin/gf.polynomials"], apart := false, laid := [("firkin/gf.polynomials", laid_firkin_gf_polynomials)] }
def GfZerosSaid : Prop := gfZerosRow.holds Tryd.pinned (OpenSpec.ofChange gfZerosSpec)

/-- ITS FALSE NEIGHBOUR: 'it returns false'. Refute it at one input. -/
def gfZerosWrong : ChangeSpec := { name := "gfZeros", fn := fun _ => fun
  | [d1, d2] => { results := [.lit (.bool false)], args := [d1, d2] }
  | _ => none }
def GfZerosWrongFalsely : Prop := gfZerosRow.holds Tryd.pinned (OpenSpec.ofChange gfZerosWrong)

/-- 'firkinlaw01.GfRound': WHATEVER THE INPUT: true; the input reads as it did. -/
def gfRoundSpec : ChangeSpec := { name := "gfRound", fn := fun _ => fun
  | [d1, d2, d3] => { results := [.lit (.bool true)], args := [d1, d2, d3] }
  | _ => none }
def gfRoundRow : OpenClaim := { program := "ytkbafbhhoemkcaadoor", sum := "30b51c26461b3c10f81c1b339feff8a1fc9b2f4ff19b1670d7b33e302c54f018", func := "firkin/firkinlaw01.GfRound", spec := "gfRound", inPlace := ["sync/atomic.LoadUint32", "(*internal/sync.Mutex).Lock", "internal/race.Disable", "sync/atomic.CompareAndSwapInt32", "internal/race.Enable", "internal/race.Acquire", "(*internal/sync.Mutex).lockSlow", "internal/sync.runtime_canSpin", "internal/sync.runtime_doSpin", "internal/sync.throw", "internal/sync.runtime_nanotime", "internal/sync.runtime_SemacquireMutex", "sync/atomic.AddInt32", "(*internal/sync.Mutex).Unlock", "internal/race.ReleaseMerge", "(*internal/sync.Mutex).unlockSlow", "internal/sync.fatal", "internal/sync.runtime_Semrelease", "sync/atomic.StoreUint32"], unfollowed := true, recurses := true, named := ["firkin/gf.polynomials"], apart := false, laid := [("firkin/gf.polynomials", laid_firkin_gf_polynomials)] }
def GfRoundSaid : Prop := gfRoundRow.holds Tryd.pinned (OpenSpec.ofChange gfRoundSpec)

/-- ITS FALSE NEIGHBOUR: 'it returns false'. Refute it at one input. -/
def gfRoundWrong : ChangeSpec := { name := "gfRound", fn := fun _ => fun
  | [d1, d2, d3] => { results := [.lit (.bool false)], args := [d1, d2, d3] }
  | _ => none }
def GfRoundWrongFalsely : Prop := gfRoundRow.holds Tryd.pinned (OpenSpec.ofChange gfRoundWrong)

/-- 'firkinlaw01.GfSquares': WHATEVER THE INPUT: true; the input reads as it did. -/
def gfSquaresSpec : ChangeSpec := { name := "gfSquares", fn := fun _ => fun
  | [d1, d2, d3, d4, d5] => { results := [.lit (.bool true)], args := [d1, d2, d3, d4, d5] }
  | _ => none }
def gfSquaresRow : OpenClaim := { program := "ytkbafbhhoemkcaadoor", sum := "30b51c26461b3c10f81c1b339feff8a1fc9b2f4ff19b1670d7b33e302c54f018", func := "firkin/firkinlaw01.GfSquares", spec := "gfSquares", inPlace := ["sync/atomic.LoadUint32", "(*internal/sync.Mutex).Lock", "internal/race.Disable", "sync/atomic.CompareAndSwapInt32", "internal/race.Enable", "internal/race.Acquire", "(*internal/sync.Mutex).lockSlow", "internal/sync.runtime_canSpin", "internal/sync.runtime_doSpin", "internal/sync.throw", "internal/sync.runtime_nanotime", "internal/sync.runtime_SemacquireMutex", "sync/atomic.AddInt32", "(*internal/sync.Mutex).Unlock", "internal/race.ReleaseMerge", "(*internal/sync.Mutex).unlockSlow", "internal/sync.fatal", "internal/sync.runtime_Semrelease", "sync/atomic.StoreUint32"], unfollowed := true, recurses := true, named := ["firkin/gf.polynomials"], apart := false, laid := [("firkin/gf.polynomials", laid_firkin_gf_polynomials)] }
def GfSquaresSaid : Prop := gfSquaresRow.holds Tryd.pinned (OpenSpec.ofChange gfSquaresSpec)

/-- ITS FALSE NEIGHBOUR: 'it returns false'. Refute it at one input. -/
def gfSquaresWrong : ChangeSpec := { name := "gfSquares", fn := fun _ => fun
  | [d1, d2, d3, d4, d5] => { results := [.lit (.bool false)], args := [d1, d2, d3, d4, d5] }
  | _ => none }
def GfSquaresWrongFalsely : Prop := gfSquaresRow.holds Tryd.pinned (OpenSpec.ofChange gfSquaresWrong)

/-- 'firkinlaw01.GfNothing': WHATEVER THE INPUT: true; the input reads as it did. -/
def gfNothingSpec : ChangeSpec := { name := "gfNothing", fn := fun _ => fun
  | [d1, d2, d3] => { results := [.lit (.bool true)], args := [d1, d2, d3] }
  | _ => none }
def gfNothingRow : OpenClaim := { program := "ytkbafbhhoemkcaadoor", sum := "30b51c26461b3c10f81c1b339feff8a1fc9b2f4ff19b1670d7b33e302c54f018", func := "firkin/firkinlaw01.GfNothing", spec := "gfNothing", inPlace := ["sync/atomic.LoadUint32", "(*internal/sync.Mutex).Lock", "internal/race.Disable", "sync/atomic.CompareAndSwapInt32", "internal/race.Enable", "internal/race.Acquire", "(*internal/sync.Mutex).lockSlow", "internal/sync.runtime_canSpin", "internal/sync.runtime_doSpin", "internal/sync.throw", "internal/sync.runtime_nanotime", "internal/sync.runtime_SemacquireMutex", "sync/atomic.AddInt32", "(*internal/sync.Mutex).Unlock", "internal/race.ReleaseMerge", "(*internal/sync.Mutex).unlockSlow", "internal/sync.fatal", "internal/sync.runtime_Semrelease", "sync/atomic.StoreUint32"], unfollowed := true, recurses := true, named := ["firkin/gf.polynomials"], apart := false, laid := [("firkin/gf.polynomials", laid_firkin_gf_polynomials)] }
def GfNothingSaid : Prop := gfNothingRow.holds Tryd.pinned (OpenSpec.ofChange gfNothingSpec)

/-- ITS FALSE NEIGHBOUR: 'it returns false'. Refute it at one input. -/
def gfNothingWrong : ChangeSpec := { name := "gfNothing", fn := fun _ => fun
  | [d1, d2, d3] => { results := [.lit (.bool false)], args := [d1, d2, d3] }
  | _ => none }
def GfNothingWrongFalsely : Prop := gfNothingRow.holds Tryd.pinned (OpenSpec.ofChange gfNothingWrong)

/- THE SECOND FORM. 'bulk': how many values and letters a reading holds, each counted each time it is reached (what is shared counts as often as it is met; a slice's spare places count too). A statement '..UptoSaid' is the law's where the arguments, and the package variables that the reading takes, are together of bulk at most 1048576: NARROWER than '..Said'. Prove '..Said' where nothing that the law and all that it calls make is longer than what came in: it says more and counts as full. Else prove '..UptoSaid'. A law counts once. -/
mutual
def uptoBulk {H : Type} : DataW H → Nat
  | .lit (.string bytes) => bytes.length + 1
  | .lit _ => 1
  | .nil => 1
  | .ptr d => uptoBulk d + 1
  | .slice elems spare => uptoBulkAll elems + uptoBulkAll spare + 1
  | .agg parts => uptoBulkAll parts + 1
  | .iface _ d => uptoBulk d + 1
  | .map entries => uptoBulkEntries entries + 1
  | .held _ => 1
def uptoBulkAll {H : Type} : List (DataW H) → Nat
  | [] => 0
  | d :: r => uptoBulk d + uptoBulkAll r
def uptoBulkEntries {H : Type} : List (Lit × DataW H) → Nat
  | [] => 0
  | x :: r => uptoBulkEntry x + uptoBulkEntries r
def uptoBulkEntry {H : Type} : Lit × DataW H → Nat
  | (.string bytes, d) => bytes.length + uptoBulk d + 1
  | (_, d) => uptoBulk d + 1
 end
def uptoSmall : (H : Type) → List (DataW H) → Bool := fun _ ds => decide (uptoBulkAll ds ≤ 1048576)
def OpenSpec.upto (s : _root_.Go.ChangeSpec) : _root_.Go.OpenSpec := { _root_.Go.OpenSpec.ofChange s with cond := some uptoSmall }

/-- 'firkinlaw01.GfReckons', WHERE WHAT IT READS IS OF BULK AT MOST 1048576: true; the input reads as it did. -/
def gfReckonsUptoRow : OpenClaim := { program := "ytkbafbhhoemkcaadoor", sum := "30b51c26461b3c10f81c1b339feff8a1fc9b2f4ff19b1670d7b33e302c54f018", func := "firkin/firkinlaw01.GfReckons", spec := "gfReckons", inPlace := ["sync/atomic.LoadUint32", "(*internal/sync.Mutex).Lock", "internal/race.Disable", "sync/atomic.CompareAndSwapInt32", "internal/race.Enable", "internal/race.Acquire", "(*internal/sync.Mutex).lockSlow", "internal/sync.runtime_canSpin", "internal/sync.runtime_doSpin", "internal/sync.throw", "internal/sync.runtime_nanotime", "internal/sync.runtime_SemacquireMutex", "sync/atomic.AddInt32", "(*internal/sync.Mutex).Unlock", "internal/race.ReleaseMerge", "(*internal/sync.Mutex).unlockSlow", "internal/sync.fatal", "internal/sync.runtime_Semrelease", "sync/atomic.StoreUint32"], unfollowed := true, recurses := true, named := ["firkin/gf.polynomials"], apart := false, laid := [("firkin/gf.polynomials", laid_firkin_gf_polynomials)], narrowed := true }
def GfReckonsUptoSaid : Prop := gfReckonsUptoRow.holds Tryd.pinned (OpenSpec.upto gfReckonsSpec)

/-- 'firkinlaw01.GfDivides', WHERE WHAT IT READS IS OF BULK AT MOST 1048576: true; the input reads as it did. -/
def gfDividesUptoRow : OpenClaim := { program := "ytkbafbhhoemkcaadoor", sum := "30b51c26461b3c10f81c1b339feff8a1fc9b2f4ff19b1670d7b33e302c54f018", func := "firkin/firkinlaw01.GfDivides", spec := "gfDivides", inPlace := ["sync/atomic.LoadUint32", "(*internal/sync.Mutex).Lock", "internal/race.Disable", "sync/atomic.CompareAndSwapInt32", "internal/race.Enable", "internal/race.Acquire", "(*internal/sync.Mutex).lockSlow", "internal/sync.runtime_canSpin", "internal/sync.runtime_doSpin", "internal/sync.throw", "internal/sync.runtime_nanotime", "internal/sync.runtime_SemacquireMutex", "sync/atomic.AddInt32", "(*internal/sync.Mutex).Unlock", "internal/race.ReleaseMerge", "(*internal/sync.Mutex).unlockSlow", "internal/sync.fatal", "internal/sync.runtime_Semrelease", "sync/atomic.StoreUint32"], unfollowed := true, recurses := true, named := ["firkin/gf.polynomials"], apart := false, laid := [("firkin/gf.polynomials", laid_firkin_gf_polynomials)], narrowed := true }
def GfDividesUptoSaid : Prop := gfDividesUptoRow.holds Tryd.pinned (OpenSpec.upto gfDividesSpec)

/-- 'firkinlaw01.GfZeros', WHERE WHAT IT READS IS OF BULK AT MOST 1048576: true; the input reads as it did. -/
def gfZerosUptoRow : OpenClaim := { program := "ytkbafbhhoemkcaadoor", sum := "30b51c26461b3c10f81c1b339feff8a1fc9b2f4ff19b1670d7b33e302c54f018", func := "firkin/firkinlaw01.GfZeros", spec := "gfZeros", inPlace := ["sync/atomic.LoadUint32", "(*internal/sync.Mutex).Lock", "internal/race.Disable", "sync/atomic.CompareAndSwapInt32", "internal/race.Enable", "internal/race.Acquire", "(*internal/sync.Mutex).lockSlow", "internal/sync.runtime_canSpin", "internal/sync.runtime_doSpin", "internal/sync.throw", "internal/sync.runtime_nanotime", "internal/sync.runtime_SemacquireMutex", "sync/atomic.AddInt32", "(*internal/sync.Mutex).Unlock", "internal/race.ReleaseMerge", "(*internal/sync.Mutex).unlockSlow", "internal/sync.fatal", "internal/sync.runtime_Semrelease", "sync/atomic.StoreUint32"], unfollowed := true, recurses := true, named := ["firkin/gf.polynomials"], apart := false, laid := [("firkin/gf.polynomials", laid_firkin_gf_polynomials)], narrowed := true }
def GfZerosUptoSaid : Prop := gfZerosUptoRow.holds Tryd.pinned (OpenSpec.upto gfZerosSpec)

/-- 'firkinlaw01.GfRound', WHERE WHAT IT READS IS OF BULK AT MOST 1048576: true; the input reads as it did. -/
def gfRoundUptoRow : OpenClaim := { program := "ytkbafbhhoemkcaadoor", sum := "30b51c26461b3c10f81c1b339feff8a1fc9b2f4ff19b1670d7b33e302c54f018", func := "firkin/firkinlaw01.GfRound", spec := "gfRound", inPlace := ["sync/atomic.LoadUint32", "(*internal/sync.Mutex).Lock", "internal/race.Disable", "sync/atomic.CompareAndSwapInt32", "internal/race.Enable", "internal/race.Acquire", "(*internal/sync.Mutex).lockSlow", "internal/sync.runtime_canSpin", "internal/sync.runtime_doSpin", "internal/sync.throw", "internal/sync.runtime_nanotime", "internal/sync.runtime_SemacquireMutex", "sync/atomic.AddInt32", "(*internal/sync.Mutex).Unlock", "internal/race.ReleaseMerge", "(*internal/sync.Mutex).unlockSlow", "internal/sync.fatal", "internal/sync.runtime_Semrelease", "sync/atomic.StoreUint32"], unfollowed := true, recurses := true, named := ["firkin/gf.polynomials"], apart := false, laid := [("firkin/gf.polynomials", laid_firkin_gf_polynomials)], narrowed := true }
def GfRoundUptoSaid : Prop := gfRoundUptoRow.holds Tryd.pinned (OpenSpec.upto gfRoundSpec)

/-- 'firkinlaw01.GfSquares', WHERE WHAT IT READS IS OF BULK AT MOST 1048576: true; the input reads as it did. -/
def gfSquaresUptoRow : OpenClaim := { program := "ytkbafbhhoemkcaadoor", sum := "30b51c26461b3c10f81c1b339feff8a1fc9b2f4ff19b1670d7b33e302c54f018", func := "firkin/firkinlaw01.GfSquares", spec := "gfSquares", inPlace := ["sync/atomic.LoadUint32", "(*internal/sync.Mutex).Lock", "internal/race.Disable", "sync/atomic.CompareAndSwapInt32", "internal/race.Enable", "internal/race.Acquire", "(*internal/sync.Mutex).lockSlow", "internal/sync.runtime_canSpin", "internal/sync.runtime_doSpin", "internal/sync.throw", "internal/sync.runtime_nanotime", "internal/sync.runtime_SemacquireMutex", "sync/atomic.AddInt32", "(*internal/sync.Mutex).Unlock", "internal/race.ReleaseMerge", "(*internal/sync.Mutex).unlockSlow", "internal/sync.fatal", "internal/sync.runtime_Semrelease", "sync/atomic.StoreUint32"], unfollowed := true, recurses := true, named := ["firkin/gf.polynomials"], apart := false, laid := [("firkin/gf.polynomials", laid_firkin_gf_polynomials)], narrowed := true }
def GfSquaresUptoSaid : Prop := gfSquaresUptoRow.holds Tryd.pinned (OpenSpec.upto gfSquaresSpec)

/-- 'firkinlaw01.GfNothing', WHERE WHAT IT READS IS OF BULK AT MOST 1048576: true; the input reads as it did. -/
def gfNothingUptoRow : OpenClaim := { program := "ytkbafbhhoemkcaadoor", sum := "30b51c26461b3c10f81c1b339feff8a1fc9b2f4ff19b1670d7b33e302c54f018", func := "firkin/firkinlaw01.GfNothing", spec := "gfNothing", inPlace := ["sync/atomic.LoadUint32", "(*internal/sync.Mutex).Lock", "internal/race.Disable", "sync/atomic.CompareAndSwapInt32", "internal/race.Enable", "internal/race.Acquire", "(*internal/sync.Mutex).lockSlow", "internal/sync.runtime_canSpin", "internal/sync.runtime_doSpin", "internal/sync.throw", "internal/sync.runtime_nanotime", "internal/sync.runtime_SemacquireMutex", "sync/atomic.AddInt32", "(*internal/sync.Mutex).Unlock", "internal/race.ReleaseMerge", "(*internal/sync.Mutex).unlockSlow", "internal/sync.fatal", "internal/sync.runtime_Semrelease", "sync/atomic.StoreUint32"], unfollowed := true, recurses := true, named := ["firkin/gf.polynomials"], apart := false, laid := [("firkin/gf.polynomials", laid_firkin_gf_polynomials)], narrowed := true }
def GfNothingUptoSaid : Prop := gfNothingUptoRow.holds Tryd.pinned (OpenSpec.upto gfNothingSpec)

end Rows
end Go.Proofs.YtkbafbhhoemkcaaDoor
