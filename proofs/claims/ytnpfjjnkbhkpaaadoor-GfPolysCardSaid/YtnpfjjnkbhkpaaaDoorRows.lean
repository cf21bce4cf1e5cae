/-
  NARROWER THAN 'FOR EVERY INPUT', by the rows' own cells (each row's printed sentence says how): GfMakes: laid · GfReckons: laid · GfPolys: laid · GfLeast: laid · GfLaws: laid · GfLogs: laid.
  DERIVED. THE GIVEN ROWS OF THIS SEAT. 6 by the template 'for every input the law returns true; each argument reads behind the call as it read before'; 0 by the template 'total and deterministic' (their statements: YtnpfjjnkbhkpaaaDoorTotals.lean).
  GIVEN WITH THE SEED: the statements are not yours to turn. If you find one false, say at which input.
  Laid BY PROGRAM, IN A SANDBOX (cutbox-rows.mjs): the forced cells as the released guide's own fill.sh prints them over the translation 4fae80065ec965d8… (all of the seat's roots in one cut). By AI agents, Wed Nov 11 2026. No macro, syntax, notation, axiom, sorry.
-/
import Derived.Test.YtnpfjjnkbhkpaaaDoorChecked
import GoSem.Claim
import GoSem.ClaimJoined
import GoSem.ClaimMapViews
import Derived.JoinedTies
import Derived.KernelRfl
namespace Go.Proofs.YtnpfjjnkbhkpaaaDoor
/- THE CELL 'sum', in the pinned program and in every row, IS THE sha256 OF THE DUMP (.gsa) THAT YtnpfjjnkbhkpaaaDoorProg.lean LOADS. Nothing in Lean hashes anything: it is a label: what it is worth is what the hold of that sum in a sandbox is worth. -/
noncomputable def Tryd.pinned : Pinned := { name := "ytnpfjjnkbhkpaaadoor", sum := "4fae80065ec965d856097219193059cb116dd7f7dde385af8634cbc5b0ee3594", checked := Tryd.checked }
namespace Rows
def none {H : Type} : Left H := { results := [], args := [] }

/- WHAT THE LISTED PACKAGE-LEVEL VARIABLES READ AS WHEN THE CALL BEGINS. Each datum BY PROGRAM (the guide's laid-datum.mjs) off the statement by which the dump's own 'gosem.cut.vars' lays the variable. In a bare row this is a premise. The card (YtnpfjjnkbhkpaaaDoorCards.lean) ties it to the program's text. -/
def laid_firkin_gf_polynomials {H : Type} : DataW H := .agg [.lit (.int .i64 7), .lit (.int .i64 11), .lit (.int .i64 19), .lit (.int .i64 37), .lit (.int .i64 67), .lit (.int .i64 137), .lit (.int .i64 285), .lit (.int .i64 529), .lit (.int .i64 1033), .lit (.int .i64 2053), .lit (.int .i64 4179), .lit (.int .i64 8219)]

/-- 'firkinlaw01.GfMakes': WHATEVER THE INPUT: true; the input reads as it did. -/
def gfMakesSpec : ChangeSpec := { name := "gfMakes", fn := fun _ => fun
  | [d] => { results := [.lit (.bool true)], args := [d] }
  | _ => none }
def gfMakesRow : OpenClaim := { program := "ytnpfjjnkbhkpaaadoor", sum := "4fae80065ec965d856097219193059cb116dd7f7dde385af8634cbc5b0ee3594", func := "firkin/firkinlaw01.GfMakes", spec := "gfMakes", inPlace := ["sync/atomic.LoadUint32", "(*internal/sync.Mutex).Lock", "internal/race.Disable", "sync/atomic.CompareAndSwapInt32", "internal/race.Enable", "internal/race.Acquire", "(*internal/sync.Mutex).lockSlow", "internal/sync.runtime_canSpin", "internal/sync.runtime_doSpin", "internal/sync.throw", "internal/sync.runtime_nanotime", "internal/sync.runtime_SemacquireMutex", "sync/atomic.AddInt32", "(*internal/sync.Mutex).Unlock", "internal/race.ReleaseMerge", "(*internal/sync.Mutex).unlockSlow", "internal/sync.fatal", "internal/sync.runtime_Semrelease", "sync/atomic.StoreUint32"], unfollowed := true, recurses := true, named := ["firkin/gf.polynomials"], apart := false, laid := [("firkin/gf.polynomials", laid_firkin_gf_polynomials)] }
def GfMakesSaid : Prop := gfMakesRow.holds Tryd.pinned (OpenSpec.ofChange gfMakesSpec)

/-- ITS FALSE NEIGHBOUR: 'it returns false'. Refute it at one input. -/
def gfMakesWrong : ChangeSpec := { name := "gfMakes", fn := fun _ => fun
  | [d] => { results := [.lit (.bool false)], args := [d] }
  | _ => none }
def GfMakesWrongFalsely : Prop := gfMakesRow.holds Tryd.pinned (OpenSpec.ofChange gfMakesWrong)

/-- 'firkinlaw01.GfReckons': WHATEVER THE INPUT: true; the input reads as it did. -/
def gfReckonsSpec : ChangeSpec := { name := "gfReckons", fn := fun _ => fun
  | [d1, d2, d3, d4] => { results := [.lit (.bool true)], args := [d1, d2, d3, d4] }
  | _ => none }
def gfReckonsRow : OpenClaim := { program := "ytnpfjjnkbhkpaaadoor", sum := "4fae80065ec965d856097219193059cb116dd7f7dde385af8634cbc5b0ee3594", func := "firkin/firkinlaw01.GfReckons", spec := "gfReckons", inPlace := ["sync/atomic.LoadUint32", "(*internal/sync.Mutex).Lock", "internal/race.Disable", "sync/atomic.CompareAndSwapInt32", "internal/race.Enable", "internal/race.Acquire", "(*internal/sync.Mutex).lockSlow", "internal/sync.runtime_canSpin", "internal/sync.runtime_doSpin", "internal/sync.throw", "internal/sync.runtime_nanotime", "internal/sync.runtime_SemacquireMutex", "sync/atomic.AddInt32", "(*internal/sync.Mutex).Unlock", "internal/race.ReleaseMerge", "(*internal/sync.Mutex).unlockSlow", "internal/sync.fatal", "internal/sync.runtime_Semrelease", "sync/atomic.StoreUint32"], unfollowed := true, recurses := true, named := ["firkin/gf.polynomials"], apart := false, laid := [("firkin/gf.polynomials", laid_firkin_gf_polynomials)] }
def GfReckonsSaid : Prop := gfReckonsRow.holds Tryd.pinned (OpenSpec.ofChange gfReckonsSpec)

/-- ITS FALSE NEIGHBOUR: 'it returns false'. Refute it at one input. -/
def gfReckonsWrong : ChangeSpec := { name := "gfReckons", fn := fun _ => fun
  | [d1, d2, d3, d4] => { results := [.lit (.bool false)], args := [d1, d2, d3, d4] }
  | _ => none }
def GfReckonsWrongFalsely : Prop := gfReckonsRow.holds Tryd.pinned (OpenSpec.ofChange gfReckonsWrong)

/-- 'firkinlaw01.GfPolys': WHATEVER THE INPUT: true; the input reads as it did. -/
def gfPolysSpec : ChangeSpec := { name := "gfPolys", fn := fun _ => fun
  | [d1, d2, d3, d4] => { results := [.lit (.bool true)], args := [d1, d2, d3, d4] }
  | _ => none }
def gfPolysRow : OpenClaim := { program := "ytnpfjjnkbhkpaaadoor", sum := "4fae80065ec965d856097219193059cb116dd7f7dde385af8634cbc5b0ee3594", func := "firkin/firkinlaw01.GfPolys", spec := "gfPolys", inPlace := ["sync/atomic.LoadUint32", "(*internal/sync.Mutex).Lock", "internal/race.Disable", "sync/atomic.CompareAndSwapInt32", "internal/race.Enable", "internal/race.Acquire", "(*internal/sync.Mutex).lockSlow", "internal/sync.runtime_canSpin", "internal/sync.runtime_doSpin", "internal/sync.throw", "internal/sync.runtime_nanotime", "internal/sync.runtime_SemacquireMutex", "sync/atomic.AddInt32", "(*internal/sync.Mutex).Unlock", "internal/race.ReleaseMerge", "(*internal/sync.Mutex).unlockSlow", "internal/sync.fatal", "internal/sync.runtime_Semrelease", "sync/atomic.StoreUint32"], unfollowed := true, recurses := true, named := ["firkin/gf.polynomials"], apart := false, laid := [("firkin/gf.polynomials", laid_firkin_gf_polynomials)] }
def GfPolysSaid : Prop := gfPolysRow.holds Tryd.pinned (OpenSpec.ofChange gfPolysSpec)

/-- ITS FALSE NEIGHBOUR: 'it returns false'. Refute it at one input. -/
def gfPolysWrong : ChangeSpec := { name := "gfPolys", fn := fun _ => fun
  | [d1, d2, d3, d4] => { results := [.lit (.bool false)], args := [d1, d2, d3, d4] }
  | _ => none }
def GfPolysWrongFalsely : Prop := gfPolysRow.holds Tryd.pinned (OpenSpec.ofChange gfPolysWrong)

/-- 'firkinlaw01.GfLeast': WHATEVER THE INPUT: true; the input reads as it did. -/
def gfLeastSpec : ChangeSpec := { name := "gfLeast", fn := fun _ => fun
  | [d1, d2, d3] => { results := [.lit (.bool true)], args := [d1, d2, d3] }
  | _ => none }
def gfLeastRow : OpenClaim := { program := "ytnpfjjnkbhkpaaadoor", sum := "4fae80065ec965d856097219193059cb116dd7f7dde385af8634cbc5b0ee3594", func := "firkin/firkinlaw01.GfLeast", spec := "gfLeast", inPlace := ["sync/atomic.LoadUint32", "(*internal/sync.Mutex).Lock", "internal/race.Disable", "sync/atomic.CompareAndSwapInt32", "internal/race.Enable", "internal/race.Acquire", "(*internal/sync.Mutex).lockSlow", "internal/sync.runtime_canSpin", "internal/sync.runtime_doSpin", "internal/sync.throw", "internal/sync.runtime_nanotime", "internal/sync.runtime_SemacquireMutex", "sync/atomic.AddInt32", "(*internal/sync.Mutex).Unlock", "internal/race.ReleaseMerge", "(*internal/sync.Mutex).unlockSlow", "internal/sync.fatal", "internal/sync.runtime_Semrelease", "sync/atomic.StoreUint32"], unfollowed := true, recurses := true, named := ["firkin/gf.polynomials"], apart := false, laid := [("firkin/gf.polynomials", laid_firkin_gf_polynomials)] }
def GfLeastSaid : Prop := gfLeastRow.holds Tryd.pinned (OpenSpec.ofChange gfLeastSpec)

/-- ITS FALSE NEIGHBOUR: 'it returns false'. Refute it at one input. -/
def gfLeastWrong : ChangeSpec := { name := "gfLeast", fn := fun _ => fun
  | [d1, d2, d3] => { results := [.lit (.bool false)], args := [d1, d2, d3] }
  | _ => none }
def GfLeastWrongFalsely : Prop := gfLeastRow.holds Tryd.pinned (OpenSpec.ofChange gfLeastWrong)

/-- 'firkinlaw01.GfLaws': WHATEVER THE INPUT: true; the input reads as it did. -/
def gfLawsSpec : ChangeSpec := { name := "gfLaws", fn := fun _ => fun
  | [d1, d2, d3, d4] => { results := [.lit (.bool true)], args := [d1, d2, d3, d4] }
  | _ => none }
def gfLawsRow : OpenClaim := { program := "ytnpfjjnkbhkpaaadoor", sum := "4fae80065ec965d856097219193059cb116dd7f7dde385af8634cbc5b0ee3594", func := "firkin/firkinlaw01.GfLaws", spec := "gfLaws", inPlace := ["sync/atomic.LoadUint32", "(*internal/sync.Mutex).Lock", "internal/race.Disable", "sync/atomic.CompareAndSwapInt32", "internal/race.Enable", "internal/race.Acquire", "(*internal/sync.Mutex).lockSlow", "internal/sync.runtime_canSpin", "internal/sync.runtime_doSpin", "internal/sync.throw", "internal/sync.runtime_nanotime", "internal/sync.runtime_SemacquireMutex", "sync/atomic.AddInt32", "(*internal/sync.Mutex).Unlock", "internal/race.ReleaseMerge", "(*internal/sync.Mutex).unlockSlow", "internal/sync.fatal", "internal/sync.runtime_Semrelease", "sync/atomic.StoreUint32"], unfollowed := true, recurses := true, named := ["firkin/gf.polynomials"], apart := false, laid := [("firkin/gf.polynomials", laid_firkin_gf_polynomials)] }
def GfLawsSaid : Prop := gfLawsRow.holds Tryd.pinned (OpenSpec.ofChange gfLawsSpec)

/-- ITS FALSE NEIGHBOUR: 'it returns false'. Refute it at one input. -/
def gfLawsWrong : ChangeSpec := { name := "gfLaws", fn := fun _ => fun
  | [d1, d2, d3, d4] => { results := [.lit (.bool false)], args := [d1, d2, d3, d4] }
  | _ => none }
def GfLawsWrongFalsely : Prop := gfLawsRow.holds Tryd.pinned (OpenSpec.ofChange gfLawsWrong)

/-- 'firkinlaw01.GfLogs': WHATEVER THE INPUT: true; the input reads as it did. -/
def gfLogsSpec : ChangeSpec := { name := "gfLogs", fn := fun _ => fun
  | [d1, d2, d3, d4, d5] => { results := [.lit (.bool true)], args := [d1, d2, d3, d4, d5] }
  | _ => none }
def gfLogsRow : OpenClaim := { program := "ytnpfjjnkbhkpaaadoor", sum := "4fae80065ec965d856097219193059cb116dd7f7dde385af8634cbc5b0ee3594", func := "firkin/firkinlaw01.GfLogs", spec := "gfLogs", inPlace := ["sync/atomic.LoadUint32", "(*internal/sync.Mutex).Lock", "internal/race.Disable", "sync/atomic.CompareAndSwapInt32", "internal/race.Enable", "internal/race.Acquire", "(*internal/sync.Mutex).lockSlow", "internal/sync.runtime_canSpin", "internal/sync.runtime_doSpin", "internal/sync.throw", "internal/sync.runtime_nanotime", "internal/sync.runtime_SemacquireMutex", "sync/atomic.AddInt32", "(*internal/sync.Mutex).Unlock", "internal/race.ReleaseMerge", "(*internal/sync.Mutex).unlockSlow", "internal/sync.fatal", "internal/sync.runtime_Semrelease", "sync/atomic.StoreUint32"], unfollowed := true, recurses := true, named := ["firkin/gf.polynomials"], apart := false, laid := [("firkin/gf.polynomials", laid_firkin_gf_polynomials)] }
def GfLogsSaid : Prop := gfLogsRow.holds Tryd.pinned (OpenSpec.ofChange gfLogsSpec)

/-- ITS FALSE NEIGHBOUR: 'it returns false'. Refute it at one input. -/
def gfLogsWrong : ChangeSpec := { name := "gfLogs", fn := fun _ => fun
  | [d1, d2, d3, d4, d5] => { results := [.lit (.bool false)], args := [d1, d2, d3, d4, d5] }
  | _ => none }
def GfLogsWrongFalsely : Prop := gfLogsRow.holds Tryd.pinned (OpenSpec.ofChange gfLogsWrong)

/- THE SECOND FORM. 'bulk': how many values and letters a reading holds, each counted each time it is reached (what is shared counts as often as it is met; a slice's spare places count too). A statement '..UptoSaid' is the law's where the arguments, and the package variables that the reading takes, are together of bulk at most 1048576: NARROWER than '..Said'. Prove '..Said' where nothing that the law and all that it calls make is longer than what came in: it says more and counts as full. Else prove '..UptoSaid'. A law counts once. -/
mutual
def uptoBulk {H : Type} : DataW H → Nat
  | .lit (.string bytes) => bytes.length + 1
  | .lit _ => 1
  | .nil => 1
  | .ptr d => uptoBulk d + 1
  | .slice elems spare => uptoBulkAll elems + uptoBulkAll spare + 1
  | .agg parts => uptoBulkAll parts + 1
  | .iface _ d => uptoBulk d + 1
  | .map entries => uptoBulkEntries entries + 1
  | .held _ => 1
def uptoBulkAll {H : Type} : List (DataW H) → Nat
  | [] => 0
  | d :: r => uptoBulk d + uptoBulkAll r
def uptoBulkEntries {H : Type} : List (Lit × DataW H) → Nat
  | [] => 0
  | x :: r => uptoBulkEntry x + uptoBulkEntries r
def uptoBulkEntry {H : Type} : Lit × DataW H → Nat
  | (.string bytes, d) => bytes.length + uptoBulk d + 1
  | (_, d) => uptoBulk d + 1
 end
def uptoSmall : (H : Type) → List (DataW H) → Bool := fun _ ds => decide (uptoBulkAll ds ≤ 1048576)
def OpenSpec.upto (s : _root_.Go.ChangeSpec) : _root_.Go.OpenSpec := { _root_.Go.OpenSpec.ofChange s with cond := some uptoSmall }

/-- 'firkinlaw01.GfMakes', WHERE WHAT IT READS IS OF BULK AT MOST 1048576: true; the input reads as it did. -/
def gfMakesUptoRow : OpenClaim := { program := "ytnpfjjnkbhkpaaadoor", sum := "4fae80065ec965d856097219193059cb116dd7f7dde385af8634cbc5b0ee3594", func := "firkin/firkinlaw01.GfMakes", spec := "gfMakes", inPlace := ["sync/atomic.LoadUint32", "(*internal/sync.Mutex).Lock", "internal/race.Disable", "sync/atomic.CompareAndSwapInt32", "internal/race.Enable", "internal/race.Acquire", "(*internal/sync.Mutex).lockSlow", "internal/sync.runtime_canSpin", "internal/sync.runtime_doSpin", "internal/sync.throw", "internal/sync.runtime_nanotime", "internal/sync.runtime_SemacquireMutex", "sync/atomic.AddInt32", "(*internal/sync.Mutex).Unlock", "internal/race.ReleaseMerge", "(*internal/sync.Mutex).unlockSlow", "internal/sync.fatal", "internal/sync.runtime_Semrelease", "sync/atomic.StoreUint32"], unfollowed := true, recurses := true, named := ["firkin/gf.polynomials"], apart := false, laid := [("firkin/gf.polynomials", laid_firkin_gf_polynomials)], narrowed := true }
def GfMakesUptoSaid : Prop := gfMakesUptoRow.holds Tryd.pinned (OpenSpec.upto gfMakesSpec)

/-- 'firkinlaw01.GfReckons', WHERE WHAT IT READS IS OF BULK AT MOST 1048576: true; the input reads as it did. -/
def gfReckonsUptoRow : OpenClaim := { program := "ytnpfjjnkbhkpaaadoor", sum := "4fae80065ec965d856097219193059cb116dd7f7dde385af8634cbc5b0ee3594", func := "firkin/firkinlaw01.GfReckons", spec := "gfReckons", inPlace := ["sync/atomic.LoadUint32", "(*internal/sync.Mutex).Lock", "internal/race.Disable", "sync/atomic.CompareAndSwapInt32", "internal/race.Enable", "internal/race.Acquire", "(*internal/sync.Mutex).lockSlow", "internal/sync.runtime_canSpin", "internal/sync.runtime_doSpin", "internal/sync.throw", "internal/sync.runtime_nanotime", "internal/sync.runtime_SemacquireMutex", "sync/atomic.AddInt32", "(*internal/sync.Mutex).Unlock", "internal/race.ReleaseMerge", "(*internal/sync.Mutex).unlockSlow", "internal/sync.fatal", "internal/sync.runtime_Semrelease", "sync/atomic.StoreUint32"], unfollowed := true, recurses := true, named := ["firkin/gf.polynomials"], apart := false, laid := [("firkin/gf.polynomials", laid_firkin_gf_polynomials)], narrowed := true }
def GfReckonsUptoSaid : Prop := gfReckonsUptoRow.holds Tryd.pinned (OpenSpec.upto gfReckonsSpec)

/-- 'firkinlaw01.GfPolys', WHERE WHAT IT READS IS OF BULK AT MOST 1048576: true; the input reads as it did. -/
def gfPolysUptoRow : OpenClaim := { program := "ytnpfjjnkbhkpaaadoor", sum := "4fae80065ec965d856097219193059cb116dd7f7dde385af8634cbc5b0ee3594", func := "firkin/firkinlaw01.GfPolys", spec := "gfPolys", inPlace := ["sync/atomic.LoadUint32", "(*internal/sync.Mutex).Lock", "internal/race.Disable", "sync/atomic.CompareAndSwapInt32", "internal/race.Enable", "internal/race.Acquire", "(*internal/sync.Mutex).lockSlow", "internal/sync.runtime_canSpin", "internal/sync.runtime_doSpin", "internal/sync.throw", "internal/sync.runtime_nanotime", "internal/sync.runtime_SemacquireMutex", "sync/atomic.AddInt32", "(*internal/sync.Mutex).Unlock", "internal/race.ReleaseMerge", "(*internal/sync.Mutex).unlockSlow", "internal/sync.fatal", "internal/sync.runtime_Semrelease", "sync/atomic.StoreUint32"], unfollowed := true, recurses := true, named := ["firkin/gf.polynomials"], apart := false, laid := [("firkin/gf.polynomials", laid_firkin_gf_polynomials)], narrowed := true }
def GfPolysUptoSaid : Prop := gfPolysUptoRow.holds Tryd.pinned (OpenSpec.upto gfPolysSpec)

/-- 'firkinlaw01.GfLeast', WHERE WHAT IT READS IS OF BULK AT MOST 1048576: true; the input reads as it did. -/
def gfLeastUptoRow : OpenClaim := { program := "ytnpfjjnkbhkpaaadoor", sum := "4fae80065ec965d856097219193059cb116dd7f7dde385af8634cbc5b0ee3594", func := "firkin/firkinlaw01.GfLeast", spec := "gfLeast", inPlace := ["sync/atomic.LoadUint32", "(*internal/sync.Mutex).Lock", "internal/race.Disable", "sync/atomic.CompareAndSwapInt32", "internal/race.Enable", "internal/race.Acquire", "(*internal/sync.Mutex).lockSlow", "internal/sync.runtime_canSpin", "internal/sync.runtime_doSpin", "internal/sync.throw", "internal/sync.runtime_nanotime", "internal/sync.runtime_SemacquireMutex", "sync/atomic.AddInt32", "(*internal/sync.Mutex).Unlock", "internal/race.ReleaseMerge", "(*internal/sync.Mutex).unlockSlow", "internal/sync.fatal", "internal/sync.runtime_Semrelease", "sync/atomic.StoreUint32"], unfollowed := true, recurses := true, named := ["firkin/gf.polynomials"], apart := false, laid := [("firkin/gf.polynomials", laid_firkin_gf_polynomials)], narrowed := true }
def GfLeastUptoSaid : Prop := gfLeastUptoRow.holds Tryd.pinned (OpenSpec.upto gfLeastSpec)

/-- 'firkinlaw01.GfLaws', WHERE WHAT IT READS IS OF BULK AT MOST 1048576: true; the input reads as it did. -/
def gfLawsUptoRow : OpenClaim := { program := "ytnpfjjnkbhkpaaadoor", sum := "4fae80065ec965d856097219193059cb116dd7f7dde385af8634cbc5b0ee3594", func := "firkin/firkinlaw01.GfLaws", spec := "gfLaws", inPlace := ["sync/atomic.LoadUint32", "(*internal/sync.Mutex).Lock", "internal/race.Disable", "sync/atomic.CompareAndSwapInt32", "internal/race.Enable", "internal/race.Acquire", "(*internal/sync.Mutex).lockSlow", "internal/sync.runtime_canSpin", "internal/sync.runtime_doSpin", "internal/sync.throw", "internal/sync.runtime_nanotime", "internal/sync.runtime_SemacquireMutex", "sync/atomic.AddInt32", "(*internal/sync.Mutex).Unlock", "internal/race.ReleaseMerge", "(*internal/sync.Mutex).unlockSlow", "internal/sync.fatal", "internal/sync.runtime_Semrelease", "sync/atomic.StoreUint32"], unfollowed := true, recurses := true, named := ["firkin/gf.polynomials"], apart := false, laid := [("firkin/gf.polynomials", laid_firkin_gf_polynomials)], narrowed := true }
def GfLawsUptoSaid : Prop := gfLawsUptoRow.holds Tryd.pinned (OpenSpec.upto gfLawsSpec)

/-- 'firkinlaw01.GfLogs', WHERE WHAT IT READS IS OF BULK AT MOST 1048576: true; the input reads as it did. -/
def gfLogsUptoRow : OpenClaim := { program := "ytnpfjjnkbhkpaaadoor", sum := "4fae80065ec965d856097219193059cb116dd7f7dde385af8634cbc5b0ee3594", func := "firkin/firkinlaw01.GfLogs", spec := "gfLogs", inPlace := ["sync/atomic.LoadUint32", "(*internal/sync.Mutex).Lock", "internal/race.Disable", "sync/atomic.CompareAndSwapInt32", "internal/race.Enable", "internal/race.Acquire", "(*internal/sync.Mutex).lockSlow", "internal/sync.runtime_canSpin", "internal/sync.runtime_doSpin", "internal/sync.throw", "internal/sync.runtime_nanotime", "internal/sync.runtime_SemacquireMutex", "sync/atomic.AddInt32", "(*internal/sync.Mutex).Unlock", "internal/race.ReleaseMerge", "(*internal/sync.Mutex).unlockSlow", "internal/sync.fatal", "internal/sync.runtime_Semrelease", "sync/atomic.StoreUint32"], unfollowed := true, recurses := true, named := ["firkin/gf.polynomials"], apart := false, laid := [("firkin/gf.polynomials", laid_firkin_gf_polynomials)], narrowed := true }
def GfLogsUptoSaid : Prop := gfLogsUptoRow.holds Tryd.pinned (OpenSpec.upto gfLogsSpec)

end Rows
end Go.Proofs.YtnpfjjnkbhkpaaaDoor
