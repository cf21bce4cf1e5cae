/-
  NARROWER THAN 'FOR EVERY INPUT', by the rows' own cells (each row's printed sentence says how): BchMakes: laid · BchEncodes: laid · BchDecodes: laid · BchMends: laid · BchAdds: laid · BchApart: laid.
  DERIVED. THE GIVEN ROWS OF THIS SEAT. 6 by the template 'for every input the law returns true; each argument reads behind the call as it read before'; 0 by the template 'total and deterministic' (their statements: YtiojdoehlooibaaDoorTotals.lean).
  GIVEN WITH THE SEED: the statements are not yours to turn. If you find one false, say at which input.
  Laid BY PROGRAM, IN A SANDBOX (cutbox-rows.mjs): the forced cells as the released guide's own fill.sh prints them over the translation a8f8637f75aaff8f… (all of the seat's roots in one cut). By AI agents, Wed Nov 11 2026. No macro, syntax, notation, axiom, sorry.
-/
import Derived.Test.YtiojdoehlooibaaDoorChecked
import GoSem.Claim
import GoSem.ClaimJoined
import GoSem.ClaimMapViews
import Derived.JoinedTies
import Derived.KernelRfl
namespace Go.Proofs.YtiojdoehlooibaaDoor
/- THE CELL 'sum', in the pinned program and in every row, IS THE sha256 OF THE DUMP (.gsa) THAT YtiojdoehlooibaaDoorProg.lean LOADS. Nothing in Lean hashes anything: it is a label: what it is worth is what the hold of that sum in a sandbox is worth. -/
noncomputable def Tryd.pinned : Pinned := { name := "ytiojdoehlooibaadoor", sum := "a8f8637f75aaff8fdd49d8eea7743379fdc56682454b3de52402173534faa583", checked := Tryd.checked }
namespace Rows
def none {H : Type} : Left H := { results := [], args := [] }

/- WHAT THE LISTED PACKAGE-LEVEL VARIABLES READ AS WHEN THE CALL BEGINS. Each datum BY PROGRAM (the guide's laid-datum.mjs) off the statement by which the dump's own 'gosem.cut.vars' lays the variable. In a bare row this is a premise. The card (YtiojdoehlooibaaDoorCards.lean) ties it to the program's text. -/
def laid_firkin_gf_polynomials {H : Type} : DataW H := .agg [.lit (.int .i64 7), .lit (.int .i64 11), .lit (.int .i64 19), .lit (.int .i64 37), .lit (.int .i64 67), .lit (.int .i64 137), .lit (.int .i64 285), .lit (.int .i64 529), .lit (.int .i64 1033), .lit (.int .i64 2053), .lit (.int .i64 4179), .lit (.int .i64 8219)]

/-- 'firkinlaw02.BchMakes': WHATEVER THE INPUT: true; the input reads as it did. -/
def bchMakesSpec : ChangeSpec := { name := "bchMakes", fn := fun _ => fun
  | [d1, d2] => { results := [.lit (.bool true)], args := [d1, d2] }
  | _ => none }
def bchMakesRow : OpenClaim := { program := "ytiojdoehlooibaadoor", sum := "a8f8637f75aaff8fdd49d8eea7743379fdc56682454b3de52402173534faa583", func := "firkin/firkinlaw02.BchMakes", spec := "bchMakes", inPlace := ["sync/atomic.LoadUint32", "(*internal/sync.Mutex).Lock", "internal/race.Disable", "sync/atomic.CompareAndSwapInt32", "internal/race.Enable", "internal/race.Acquire", "(*internal/sync.Mutex).lockSlow", "internal/sync.runtime_canSpin", "internal/sync.runtime_doSpin", "internal/sync.throw", "internal/sync.runtime_nanotime", "internal/sync.runtime_SemacquireMutex", "sync/atomic.AddInt32", "(*internal/sync.Mutex).Unlock", "internal/race.ReleaseMerge", "(*internal/sync.Mutex).unlockSlow", "internal/sync.fatal", "internal/sync.runtime_Semrelease", "sync/atomic.StoreUint32"], unfollowed := true, recurses := true, named := ["firkin/gf.polynomials"], apart := false, laid := [("firkin/gf.polynomials", laid_firkin_gf_polynomials)] }
def BchMakesSaid : Prop := bchMakesRow.holds Tryd.pinned (OpenSpec.ofChange bchMakesSpec)

/-- ITS FALSE NEIGHBOUR: 'it returns false'. Refute it at one input. -/
def bchMakesWrong : ChangeSpec := { name := "bchMakes", fn := fun _ => fun
  | [d1, d2] => { results := [.lit (.bool false)], args := [d1, d2] }
  | _ => none }
def BchMakesWrongFalsely : Prop := bchMakesRow.holds Tryd.pinned (OpenSpec.ofChange bchMakesWrong)

/-- 'firkinlaw02.BchEncodes': WHATEVER THE INPUT: true; the input reads as it did. -/
def bchEncodesSpec : ChangeSpec := { name := "bchEncodes", fn := fun _ => fun
  | [d1, d2, d3] => { results := [.lit (.bool true)], args := [d1, d2, d3] }
  | _ => none }
def bchEncodesRow : OpenClaim := { program := "ytiojdoehlooibaadoor", sum := "a8f8637f75aaff8fdd49d8eea7743379fdc56682454b3de52402173534faa583", func := "firkin/firkinlaw02.BchEncodes", spec := "bchEncodes", inPlace := ["sync/atomic.LoadUint32", "(*internal/sync.Mutex).Lock", "internal/race.Disable", "sync/atomic.CompareAndSwapInt32", "internal/race.Enable", "internal/race.Acquire", "(*internal/sync.Mutex).lockSlow", "internal/sync.runtime_canSpin", "internal/sync.runtime_doSpin", "internal/sync.throw", "internal/sync.runtime_nanotime", "internal/sync.runtime_SemacquireMutex", "sync/atomic.AddInt32", "(*internal/sync.Mutex).Unlock", "internal/race.ReleaseMerge", "(*internal/sync.Mutex).unlockSlow", "internal/sync.fatal", "internal/sync.runtime_Semrelease", "sync/atomic.StoreUint32"], unfollowed := true, recurses := true, named := ["firkin/gf.polynomials"], apart := false, laid := [("firkin/gf.polynomials", laid_firkin_gf_polynomials)] }
def BchEncodesSaid : Prop := bchEncodesRow.holds Tryd.pinned (OpenSpec.ofChange bchEncodesSpec)

/-- ITS FALSE NEIGHBOUR: 'it returns false'. Refute it at one input. -/
def bchEncodesWrong : ChangeSpec := { name := "bchEncodes", fn := fun _ => fun
  | [d1, d2, d3] => { results := [.lit (.bool false)], args := [d1, d2, d3] }
  | _ => none }
def BchEncodesWrongFalsely : Prop := bchEncodesRow.holds Tryd.pinned (OpenSpec.ofChange bchEncodesWrong)

/-- 'firkinlaw02.BchDecodes': WHATEVER THE INPUT: true; the input reads as it did. -/
def bchDecodesSpec : ChangeSpec := { name := "bchDecodes", fn := fun _ => fun
  | [d1, d2, d3, d4] => { results := [.lit (.bool true)], args := [d1, d2, d3, d4] }
  | _ => none }
def bchDecodesRow : OpenClaim := { program := "ytiojdoehlooibaadoor", sum := "a8f8637f75aaff8fdd49d8eea7743379fdc56682454b3de52402173534faa583", func := "firkin/firkinlaw02.BchDecodes", spec := "bchDecodes", inPlace := ["sync/atomic.LoadUint32", "(*internal/sync.Mutex).Lock", "internal/race.Disable", "sync/atomic.CompareAndSwapInt32", "internal/race.Enable", "internal/race.Acquire", "(*internal/sync.Mutex).lockSlow", "internal/sync.runtime_canSpin", "internal/sync.runtime_doSpin", "internal/sync.throw", "internal/sync.runtime_nanotime", "internal/sync.runtime_SemacquireMutex", "sync/atomic.AddInt32", "(*internal/sync.Mutex).Unlock", "internal/race.ReleaseMerge", "(*internal/sync.Mutex).unlockSlow", "internal/sync.fatal", "internal/sync.runtime_Semrelease", "sync/atomic.StoreUint32"], unfollowed := true, recurses := true, named := ["firkin/gf.polynomials"], apart := false, laid := [("firkin/gf.polynomials", laid_firkin_gf_polynomials)] }
def BchDecodesSaid : Prop := bchDecodesRow.holds Tryd.pinned (OpenSpec.ofChange bchDecodesSpec)

/-- ITS FALSE NEIGHBOUR: 'it returns false'. Refute it at one input. -/
def bchDecodesWrong : ChangeSpec := { name := "bchDecodes", fn := fun _ => fun
  | [d1, d2, d3, d4] => { results := [.lit (.bool false)], args := [d1, d2, d3, d4] }
  | _ => none }
def BchDecodesWrongFalsely : Prop := bchDecodesRow.holds Tryd.pinned (OpenSpec.ofChange bchDecodesWrong)

/-- 'firkinlaw02.BchMends': WHATEVER THE INPUT: true; the input reads as it did. -/
def bchMendsSpec : ChangeSpec := { name := "bchMends", fn := fun _ => fun
  | [d1, d2, d3] => { results := [.lit (.bool true)], args := [d1, d2, d3] }
  | _ => none }
def bchMendsRow : OpenClaim := { program := "ytiojdoehlooibaadoor", sum := "a8f8637f75aaff8fdd49d8eea7743379fdc56682454b3de52402173534faa583", func := "firkin/firkinlaw02.BchMends", spec := "bchMends", inPlace := ["sync/atomic.LoadUint32", "(*internal/sync.Mutex).Lock", "internal/race.Disable", "sync/atomic.CompareAndSwapInt32", "internal/race.Enable", "internal/race.Acquire", "(*internal/sync.Mutex).lockSlow", "internal/sync.runtime_canSpin", "internal/sync.runtime_doSpin", "internal/sync.throw", "internal/sync.runtime_nanotime", "internal/sync.runtime_SemacquireMutex", "sync/atomic.AddInt32", "(*internal/sync.Mutex).Unlock", "internal/race.ReleaseMerge", "(*internal/sync.Mutex).unlockSlow", "internal/sync.fatal", "internal/sync.runtime_Semrelease", "sync/atomic.StoreUint32"], unfollowed := true, recurses := true, named := ["firkin/gf.polynomials"], apart := false, laid := [("firkin/gf.polynomials", laid_firkin_gf_polynomials)] }
def BchMendsSaid : Prop := bchMendsRow.holds Tryd.pinned (OpenSpec.ofChange bchMendsSpec)

/-- ITS FALSE NEIGHBOUR: 'it returns false'. Refute it at one input. -/
def bchMendsWrong : ChangeSpec := { name := "bchMends", fn := fun _ => fun
  | [d1, d2, d3] => { results := [.lit (.bool false)], args := [d1, d2, d3] }
  | _ => none }
def BchMendsWrongFalsely : Prop := bchMendsRow.holds Tryd.pinned (OpenSpec.ofChange bchMendsWrong)

/-- 'firkinlaw02.BchAdds': WHATEVER THE INPUT: true; the input reads as it did. -/
def bchAddsSpec : ChangeSpec := { name := "bchAdds", fn := fun _ => fun
  | [d1, d2, d3] => { results := [.lit (.bool true)], args := [d1, d2, d3] }
  | _ => none }
def bchAddsRow : OpenClaim := { program := "ytiojdoehlooibaadoor", sum := "a8f8637f75aaff8fdd49d8eea7743379fdc56682454b3de52402173534faa583", func := "firkin/firkinlaw02.BchAdds", spec := "bchAdds", inPlace := ["sync/atomic.LoadUint32", "(*internal/sync.Mutex).Lock", "internal/race.Disable", "sync/atomic.CompareAndSwapInt32", "internal/race.Enable", "internal/race.Acquire", "(*internal/sync.Mutex).lockSlow", "internal/sync.runtime_canSpin", "internal/sync.runtime_doSpin", "internal/sync.throw", "internal/sync.runtime_nanotime", "internal/sync.runtime_SemacquireMutex", "sync/atomic.AddInt32", "(*internal/sync.Mutex).Unlock", "internal/race.ReleaseMerge", "(*internal/sync.Mutex).unlockSlow", "internal/sync.fatal", "internal/sync.runtime_Semrelease", "sync/atomic.StoreUint32"], unfollowed := true, recurses := true, named := ["firkin/gf.polynomials"], apart := false, laid := [("firkin/gf.polynomials", laid_firkin_gf_polynomials)] }
def BchAddsSaid : Prop := bchAddsRow.holds Tryd.pinned (OpenSpec.ofChange bchAddsSpec)

/-- ITS FALSE NEIGHBOUR: 'it returns false'. Refute it at one input. -/
def bchAddsWrong : ChangeSpec := { name := "bchAdds", fn := fun _ => fun
  | [d1, d2, d3] => { results := [.lit (.bool false)], args := [d1, d2, d3] }
  | _ => none }
def BchAddsWrongFalsely : Prop := bchAddsRow.holds Tryd.pinned (OpenSpec.ofChange bchAddsWrong)

/-- 'firkinlaw02.BchApart': WHATEVER THE INPUT: true; the input reads as it did. -/
def bchApartSpec : ChangeSpec := { name := "bchApart", fn := fun _ => fun
  | [d1, d2, d3] => { results := [.lit (.bool true)], args := [d1, d2, d3] }
  | _ => none }
def bchApartRow : OpenClaim := { program := "ytiojdoehlooibaadoor", sum := "a8f8637f75aaff8fdd49d8eea7743379fdc56682454b3de52402173534faa583", func := "firkin/firkinlaw02.BchApart", spec := "bchApart", inPlace := ["sync/atomic.LoadUint32", "(*internal/sync.Mutex).Lock", "internal/race.Disable", "sync/atomic.CompareAndSwapInt32", "internal/race.Enable", "internal/race.Acquire", "(*internal/sync.Mutex).lockSlow", "internal/sync.runtime_canSpin", "internal/sync.runtime_doSpin", "internal/sync.throw", "internal/sync.runtime_nanotime", "internal/sync.runtime_SemacquireMutex", "sync/atomic.AddInt32", "(*internal/sync.Mutex).Unlock", "internal/race.ReleaseMerge", "(*internal/sync.Mutex).unlockSlow", "internal/sync.fatal", "internal/sync.runtime_Semrelease", "sync/atomic.StoreUint32"], unfollowed := true, recurses := true, named := ["firkin/gf.polynomials"], apart := false, laid := [("firkin/gf.polynomials", laid_firkin_gf_polynomials)] }
def BchApartSaid : Prop := bchApartRow.holds Tryd.pinned (OpenSpec.ofChange bchApartSpec)

/-- ITS FALSE NEIGHBOUR: 'it returns false'. Refute it at one input. -/
def bchApartWrong : ChangeSpec := { name := "bchApart", fn := fun _ => fun
  | [d1, d2, d3] => { results := [.lit (.bool false)], args := [d1, d2, d3] }
  | _ => none }
def BchApartWrongFalsely : Prop := bchApartRow.holds Tryd.pinned (OpenSpec.ofChange bchApartWrong)

/- THE SECOND FORM. 'bulk': how many values and letters a reading holds, each counted each time it is reached (what is shared counts as often as it is met; a slice's spare places count too). A statement '..UptoSaid' is the law's where the arguments, and the package variables that the reading takes, are together of bulk at most 1048576: NARROWER than '..Said'. Prove '..Said' where nothing that the law and all that it calls make is longer than what came in: it says more and counts as full. Else prove '..UptoSaid'. A law counts once. -/
mutual
def uptoBulk {H : Type} : DataW H → Nat
  | .lit (.string bytes) => bytes.length + 1
  | .lit _ => 1
  | .nil => 1
  | .ptr d => uptoBulk d + 1
  | .slice elems spare => uptoBulkAll elems + uptoBulkAll spare + 1
  | .agg parts => uptoBulkAll parts + 1
  | .iface _ d => uptoBulk d + 1
  | .map entries => uptoBulkEntries entries + 1
  | .held _ => 1
def uptoBulkAll {H : Type} : List (DataW H) → Nat
  | [] => 0
  | d :: r => uptoBulk d + uptoBulkAll r
def uptoBulkEntries {H : Type} : List (Lit × DataW H) → Nat
  | [] => 0
  | x :: r => uptoBulkEntry x + uptoBulkEntries r
def uptoBulkEntry {H : Type} : Lit × DataW H → Nat
  | (.string bytes, d) => bytes.length + uptoBulk d + 1
  | (_, d) => uptoBulk d + 1
 end
def uptoSmall : (H : Type) → List (DataW H) → Bool := fun _ ds => decide (uptoBulkAll ds ≤ 1048576)
def OpenSpec.upto (s : _root_.Go.ChangeSpec) : _root_.Go.OpenSpec := { _root_.Go.OpenSpec.ofChange s with cond := some uptoSmall }

/-- 'firkinlaw02.BchMakes', WHERE WHAT IT READS IS OF BULK AT MOST 1048576: true; the input reads as it did. -/
def bchMakesUptoRow : OpenClaim := { program := "ytiojdoehlooibaadoor", sum := "a8f8637f75aaff8fdd49d8eea7743379fdc56682454b3de52402173534faa583", func := "firkin/firkinlaw02.BchMakes", spec := "bchMakes", inPlace := ["sync/atomic.LoadUint32", "(*internal/sync.Mutex).Lock", "internal/race.Disable", "sync/atomic.CompareAndSwapInt32", "internal/race.Enable", "internal/race.Acquire", "(*internal/sync.Mutex).lockSlow", "internal/sync.runtime_canSpin", "internal/sync.runtime_doSpin", "internal/sync.throw", "internal/sync.runtime_nanotime", "internal/sync.runtime_SemacquireMutex", "sync/atomic.AddInt32", "(*internal/sync.Mutex).Unlock", "internal/race.ReleaseMerge", "(*internal/sync.Mutex).unlockSlow", "internal/sync.fatal", "internal/sync.runtime_Semrelease", "sync/atomic.StoreUint32"], unfollowed := true, recurses := true, named := ["firkin/gf.polynomials"], apart := false, laid := [("firkin/gf.polynomials", laid_firkin_gf_polynomials)], narrowed := true }
def BchMakesUptoSaid : Prop := bchMakesUptoRow.holds Tryd.pinned (OpenSpec.upto bchMakesSpec)

/-- 'firkinlaw02.BchEncodes', WHERE WHAT IT READS IS OF BULK AT MOST 1048576: true; the input reads as it did. -/
def bchEncodesUptoRow : OpenClaim := { program := "ytiojdoehlooibaadoor", sum := "a8f8637f75aaff8fdd49d8eea7743379fdc56682454b3de52402173534faa583", func := "firkin/firkinlaw02.BchEncodes", spec := "bchEncodes", inPlace := ["sync/atomic.LoadUint32", "(*internal/sync.Mutex).Lock", "internal/race.Disable", "sync/atomic.CompareAndSwapInt32", "internal/race.Enable", "internal/race.Acquire", "(*internal/sync.Mutex).lockSlow", "internal/sync.runtime_canSpin", "internal/sync.runtime_doSpin", "internal/sync.throw", "internal/sync.runtime_nanotime", "internal/sync.runtime_SemacquireMutex", "sync/atomic.AddInt32", "(*internal/sync.Mutex).Unlock", "internal/race.ReleaseMerge", "(*internal/sync.Mutex).unlockSlow", "internal/sync.fatal", "internal/sync.runtime_Semrelease", "sync/atomic.StoreUint32"], unfollowed := true, recurses := true, named := ["firkin/gf.polynomials"], apart := false, laid := [("firkin/gf.polynomials", laid_firkin_gf_polynomials)], narrowed := true }
def BchEncodesUptoSaid : Prop := bchEncodesUptoRow.holds Tryd.pinned (OpenSpec.upto bchEncodesSpec)

/-- 'firkinlaw02.BchDecodes', WHERE WHAT IT READS IS OF BULK AT MOST 1048576: true; the input reads as it did. -/
def bchDecodesUptoRow : OpenClaim := { program := "ytiojdoehlooibaadoor", sum := "a8f8637f75aaff8fdd49d8eea7743379fdc56682454b3de52402173534faa583", func := "firkin/firkinlaw02.BchDecodes", spec := "bchDecodes", inPlace := ["sync/atomic.LoadUint32", "(*internal/sync.Mutex).Lock", "internal/race.Disable", "sync/atomic.CompareAndSwapInt32", "internal/race.Enable", "internal/race.Acquire", "(*internal/sync.Mutex).lockSlow", "internal/sync.runtime_canSpin", "internal/sync.runtime_doSpin", "internal/sync.throw", "internal/sync.runtime_nanotime", "internal/sync.runtime_SemacquireMutex", "sync/atomic.AddInt32", "(*internal/sync.Mutex).Unlock", "internal/race.ReleaseMerge", "(*internal/sync.Mutex).unlockSlow", "internal/sync.fatal", "internal/sync.runtime_Semrelease", "sync/atomic.StoreUint32"], unfollowed := true, recurses := true, named := ["firkin/gf.polynomials"], apart := false, laid := [("firkin/gf.polynomials", laid_firkin_gf_polynomials)], narrowed := true }
def BchDecodesUptoSaid : Prop := bchDecodesUptoRow.holds Tryd.pinned (OpenSpec.upto bchDecodesSpec)

/-- 'firkinlaw02.BchMends', WHERE WHAT IT READS IS OF BULK AT MOST 1048576: true; the input reads as it did. -/
def bchMendsUptoRow : OpenClaim := { program := "ytiojdoehlooibaadoor", sum := "a8f8637f75aaff8fdd49d8eea7743379fdc56682454b3de52402173534faa583", func := "firkin/firkinlaw02.BchMends", spec := "bchMends", inPlace := ["sync/atomic.LoadUint32", "(*internal/sync.Mutex).Lock", "internal/race.Disable", "sync/atomic.CompareAndSwapInt32", "internal/race.Enable", "internal/race.Acquire", "(*internal/sync.Mutex).lockSlow", "internal/sync.runtime_canSpin", "internal/sync.runtime_doSpin", "internal/sync.throw", "internal/sync.runtime_nanotime", "internal/sync.runtime_SemacquireMutex", "sync/atomic.AddInt32", "(*internal/sync.Mutex).Unlock", "internal/race.ReleaseMerge", "(*internal/sync.Mutex).unlockSlow", "internal/sync.fatal", "internal/sync.runtime_Semrelease", "sync/atomic.StoreUint32"], unfollowed := true, recurses := true, named := ["firkin/gf.polynomials"], apart := false, laid := [("firkin/gf.polynomials", laid_firkin_gf_polynomials)], narrowed := true }
def BchMendsUptoSaid : Prop := bchMendsUptoRow.holds Tryd.pinned (OpenSpec.upto bchMendsSpec)

/-- 'firkinlaw02.BchAdds', WHERE WHAT IT READS IS OF BULK AT MOST 1048576: true; the input reads as it did. -/
def bchAddsUptoRow : OpenClaim := { program := "ytiojdoehlooibaadoor", sum := "a8f8637f75aaff8fdd49d8eea7743379fdc56682454b3de52402173534faa583", func := "firkin/firkinlaw02.BchAdds", spec := "bchAdds", inPlace := ["sync/atomic.LoadUint32", "(*internal/sync.Mutex).Lock", "internal/race.Disable", "sync/atomic.CompareAndSwapInt32", "internal/race.Enable", "internal/race.Acquire", "(*internal/sync.Mutex).lockSlow", "internal/sync.runtime_canSpin", "internal/sync.runtime_doSpin", "internal/sync.throw", "internal/sync.runtime_nanotime", "internal/sync.runtime_SemacquireMutex", "sync/atomic.AddInt32", "(*internal/sync.Mutex).Unlock", "internal/race.ReleaseMerge", "(*internal/sync.Mutex).unlockSlow", "internal/sync.fatal", "internal/sync.runtime_Semrelease", "sync/atomic.StoreUint32"], unfollowed := true, recurses := true, named := ["firkin/gf.polynomials"], apart := false, laid := [("firkin/gf.polynomials", laid_firkin_gf_polynomials)], narrowed := true }
def BchAddsUptoSaid : Prop := bchAddsUptoRow.holds Tryd.pinned (OpenSpec.upto bchAddsSpec)

/-- 'firkinlaw02.BchApart', WHERE WHAT IT READS IS OF BULK AT MOST 1048576: true; the input reads as it did. -/
def bchApartUptoRow : OpenClaim := { program := "ytiojdoehlooibaadoor", sum := "a8f8637f75aaff8fdd49d8eea7743379fdc56682454b3de52402173534faa583", func := "firkin/firkinlaw02.BchApart", spec := "bchApart", inPlace := ["sync/atomic.LoadUint32", "(*internal/sync.Mutex).Lock", "internal/race.Disable", "sync/atomic.CompareAndSwapInt32", "internal/race.Enable", "internal/race.Acquire", "(*internal/sync.Mutex).lockSlow", "internal/sync.runtime_canSpin", "internal/sync.runtime_doSpin", "internal/sync.throw", "internal/sync.runtime_nanotime", "internal/sync.runtime_SemacquireMutex", "sync/atomic.AddInt32", "(*internal/sync.Mutex).Unlock", "internal/race.ReleaseMerge", "(*internal/sync.Mutex).unlockSlow", "internal/sync.fatal", "internal/sync.runtime_Semrelease", "sync/atomic.StoreUint32"], unfollowed := true, recurses := true, named := ["firkin/gf.polynomials"], apart := false, laid := [("firkin/gf.polynomials", laid_firkin_gf_polynomials)], narrowed := true }
def BchApartUptoSaid : Prop := bchApartUptoRow.holds Tryd.pinned (OpenSpec.upto bchApartSpec)

end Rows
end Go.Proofs.YtiojdoehlooibaaDoor
