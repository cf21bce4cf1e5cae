/-
  No cell of these rows narrows 'for every input' (looked for: loops, veiled, ifaces, maps, wideKeys, modest, calm, conditions, laid).
  DERIVED. THE GIVEN ROWS OF THIS SEAT. 6 by the template 'for every input the law returns true; each argument reads behind the call as it read before'; 0 by the template 'total and deterministic' (their statements: YtjokedggmhiklaaTotals.lean).
  GIVEN WITH THE SEED: the statements are not yours to turn. If you find one false, say at which input.
  Laid BY PROGRAM, IN A SANDBOX (cutbox-rows.mjs): the forced cells as the released guide's own fill.sh prints them over the translation c9a24bb6f0a5d694… (all of the seat's roots in one cut). By AI agents, Wed Nov 11 2026. No macro, syntax, notation, axiom, sorry.
-/
import Derived.Test.YtjokedggmhiklaaChecked
import GoSem.Claim
import GoSem.ClaimJoined
import GoSem.ClaimMapViews
import Derived.JoinedTies
import Derived.KernelRfl
namespace Go.Proofs.Ytjokedggmhiklaa
/- THE CELL 'sum', in the pinned program and in every row, IS THE sha256 OF THE DUMP (.gsa) THAT YtjokedggmhiklaaProg.lean LOADS. Nothing in Lean hashes anything: it is a label: what it is worth is what the hold of that sum in a sandbox is worth. -/
noncomputable def Try.pinned : Pinned := { name := "ytjokedggmhiklaa", sum := "c9a24bb6f0a5d69459d7009cbac5d622f41fee1f2efdc886acce9a89347db388", checked := Try.checked }
namespace Rows
def none {H : Type} : Left H := { results := [], args := [] }

/-- 'firkinlaw06.StripePlaces': WHATEVER THE INPUT: true; the input reads as it did. -/
def stripePlacesSpec : ChangeSpec := { name := "stripePlaces", fn := fun _ => fun
  | [d1, d2] => { results := [.lit (.bool true)], args := [d1, d2] }
  | _ => none }
def stripePlacesRow : OpenClaim := { program := "ytjokedggmhiklaa", sum := "c9a24bb6f0a5d69459d7009cbac5d622f41fee1f2efdc886acce9a89347db388", func := "firkin/firkinlaw06.StripePlaces", spec := "stripePlaces", apart := false }
def StripePlacesSaid : Prop := stripePlacesRow.holds Try.pinned (OpenSpec.ofChange stripePlacesSpec)

/-- ITS FALSE NEIGHBOUR: 'it returns false'. Refute it at one input. -/
def stripePlacesWrong : ChangeSpec := { name := "stripePlaces", fn := fun _ => fun
  | [d1, d2] => { results := [.lit (.bool false)], args := [d1, d2] }
  | _ => none }
def StripePlacesWrongFalsely : Prop := stripePlacesRow.holds Try.pinned (OpenSpec.ofChange stripePlacesWrong)

/-- 'firkinlaw06.StripeSums': WHATEVER THE INPUT: true; the input reads as it did. -/
def stripeSumsSpec : ChangeSpec := { name := "stripeSums", fn := fun _ => fun
  | [d1, d2, d3] => { results := [.lit (.bool true)], args := [d1, d2, d3] }
  | _ => none }
def stripeSumsRow : OpenClaim := { program := "ytjokedggmhiklaa", sum := "c9a24bb6f0a5d69459d7009cbac5d622f41fee1f2efdc886acce9a89347db388", func := "firkin/firkinlaw06.StripeSums", spec := "stripeSums", apart := false }
def StripeSumsSaid : Prop := stripeSumsRow.holds Try.pinned (OpenSpec.ofChange stripeSumsSpec)

/-- ITS FALSE NEIGHBOUR: 'it returns false'. Refute it at one input. -/
def stripeSumsWrong : ChangeSpec := { name := "stripeSums", fn := fun _ => fun
  | [d1, d2, d3] => { results := [.lit (.bool false)], args := [d1, d2, d3] }
  | _ => none }
def StripeSumsWrongFalsely : Prop := stripeSumsRow.holds Try.pinned (OpenSpec.ofChange stripeSumsWrong)

/-- 'firkinlaw06.StripeFills': WHATEVER THE INPUT: true; the input reads as it did. -/
def stripeFillsSpec : ChangeSpec := { name := "stripeFills", fn := fun _ => fun
  | [d1, d2, d3, d4] => { results := [.lit (.bool true)], args := [d1, d2, d3, d4] }
  | _ => none }
def stripeFillsRow : OpenClaim := { program := "ytjokedggmhiklaa", sum := "c9a24bb6f0a5d69459d7009cbac5d622f41fee1f2efdc886acce9a89347db388", func := "firkin/firkinlaw06.StripeFills", spec := "stripeFills", apart := false }
def StripeFillsSaid : Prop := stripeFillsRow.holds Try.pinned (OpenSpec.ofChange stripeFillsSpec)

/-- ITS FALSE NEIGHBOUR: 'it returns false'. Refute it at one input. -/
def stripeFillsWrong : ChangeSpec := { name := "stripeFills", fn := fun _ => fun
  | [d1, d2, d3, d4] => { results := [.lit (.bool false)], args := [d1, d2, d3, d4] }
  | _ => none }
def StripeFillsWrongFalsely : Prop := stripeFillsRow.holds Try.pinned (OpenSpec.ofChange stripeFillsWrong)

/-- 'firkinlaw06.StripeMends': WHATEVER THE INPUT: true; the input reads as it did. -/
def stripeMendsSpec : ChangeSpec := { name := "stripeMends", fn := fun _ => fun
  | [d1, d2, d3, d4] => { results := [.lit (.bool true)], args := [d1, d2, d3, d4] }
  | _ => none }
def stripeMendsRow : OpenClaim := { program := "ytjokedggmhiklaa", sum := "c9a24bb6f0a5d69459d7009cbac5d622f41fee1f2efdc886acce9a89347db388", func := "firkin/firkinlaw06.StripeMends", spec := "stripeMends", apart := false }
def StripeMendsSaid : Prop := stripeMendsRow.holds Try.pinned (OpenSpec.ofChange stripeMendsSpec)

/-- ITS FALSE NEIGHBOUR: 'it returns false'. Refute it at one input. -/
def stripeMendsWrong : ChangeSpec := { name := "stripeMends", fn := fun _ => fun
  | [d1, d2, d3, d4] => { results := [.lit (.bool false)], args := [d1, d2, d3, d4] }
  | _ => none }
def StripeMendsWrongFalsely : Prop := stripeMendsRow.holds Try.pinned (OpenSpec.ofChange stripeMendsWrong)

/-- 'firkinlaw06.StripeTurned': WHATEVER THE INPUT: true; the input reads as it did. -/
def stripeTurnedSpec : ChangeSpec := { name := "stripeTurned", fn := fun _ => fun
  | [d1, d2, d3] => { results := [.lit (.bool true)], args := [d1, d2, d3] }
  | _ => none }
def stripeTurnedRow : OpenClaim := { program := "ytjokedggmhiklaa", sum := "c9a24bb6f0a5d69459d7009cbac5d622f41fee1f2efdc886acce9a89347db388", func := "firkin/firkinlaw06.StripeTurned", spec := "stripeTurned", apart := false }
def StripeTurnedSaid : Prop := stripeTurnedRow.holds Try.pinned (OpenSpec.ofChange stripeTurnedSpec)

/-- ITS FALSE NEIGHBOUR: 'it returns false'. Refute it at one input. -/
def stripeTurnedWrong : ChangeSpec := { name := "stripeTurned", fn := fun _ => fun
  | [d1, d2, d3] => { results := [.lit (.bool false)], args := [d1, d2, d3] }
  | _ => none }
def StripeTurnedWrongFalsely : Prop := stripeTurnedRow.holds Try.pinned (OpenSpec.ofChange stripeTurnedWrong)

/-- 'firkinlaw06.StripeNone': WHATEVER THE INPUT: true; the input reads as it did. -/
def stripeNoneSpec : ChangeSpec := { name := "stripeNone", fn := fun _ => fun
  | [d1, d2] => { results := [.lit (.bool true)], args := [d1, d2] }
  | _ => none }
def stripeNoneRow : OpenClaim := { program := "ytjokedggmhiklaa", sum := "c9a24bb6f0a5d69459d7009cbac5d622f41fee1f2efdc886acce9a89347db388", func := "firkin/firkinlaw06.StripeNone", spec := "stripeNone", apart := false }
def StripeNoneSaid : Prop := stripeNoneRow.holds Try.pinned (OpenSpec.ofChange stripeNoneSpec)

/-- ITS FALSE NEIGHBOUR: 'it returns false'. Refute it at one input. -/
def stripeNoneWrong : ChangeSpec := { name := "stripeNone", fn := fun _ => fun
  | [d1, d2] => { results := [.lit (.bool false)], args := [d1, d2] }
  | _ => none }
def StripeNoneWrongFalsely : Prop := stripeNoneRow.holds Try.pinned (OpenSpec.ofChange stripeNoneWrong)

/- THE SECOND FORM. 'bulk': how many values and letters a reading holds, each counted each time it is reached (what is shared counts as often as it is met; a slice's spare places count too). A statement '..UptoSaid' is the law's where the arguments, and the package variables that the reading takes, are together of bulk at most 1048576: NARROWER than '..Said'. Prove '..Said' where nothing that the law and all that it calls make is longer than what came in: it says more and counts as full. Else prove '..UptoSaid'. A law counts once. -/
mutual
def uptoBulk {H : Type} : DataW H → Nat
  | .lit (.string bytes) => bytes.length + 1
  | .lit _ => 1
  | .nil => 1
  | .ptr d => uptoBulk d + 1
  | .slice elems spare => uptoBulkAll elems + uptoBulkAll spare + 1
  | .agg parts => uptoBulkAll parts + 1
  | .iface _ d => uptoBulk d + 1
  | .map entries => uptoBulkEntries entries + 1
  | .held _ => 1
def uptoBulkAll {H : Type} : List (DataW H) → Nat
  | [] => 0
  | d :: r => uptoBulk d + uptoBulkAll r
def uptoBulkEntries {H : Type} : List (Lit × DataW H) → Nat
  | [] => 0
  | x :: r => uptoBulkEntry x + uptoBulkEntries r
def uptoBulkEntry {H : Type} : Lit × DataW H → Nat
  | (.string bytes, d) => bytes.length + uptoBulk d + 1
  | (_, d) => uptoBulk d + 1
 end
def uptoSmall : (H : Type) → List (DataW H) → Bool := fun _ ds => decide (uptoBulkAll ds ≤ 1048576)
def OpenSpec.upto (s : _root_.Go.ChangeSpec) : _root_.Go.OpenSpec := { _root_.Go.OpenSpec.ofChange s with cond := some uptoSmall }

/-- 'firkinlaw06.StripePlaces', WHERE WHAT IT READS IS OF BULK AT MOST 1048576: true; the input reads as it did. -/
def stripePlacesUptoRow : OpenClaim := { program := "ytjokedggmhiklaa", sum := "c9a24bb6f0a5d69459d7009cbac5d622f41fee1f2efdc886acce9a89347db388", func := "firkin/firkinlaw06.StripePlaces", spec := "stripePlaces", apart := false, narrowed := true }
def StripePlacesUptoSaid : Prop := stripePlacesUptoRow.holds Try.pinned (OpenSpec.upto stripePlacesSpec)

/-- 'firkinlaw06.StripeSums', WHERE WHAT IT READS IS OF BULK AT MOST 1048576: true; the input reads as it did. -/
def stripeSumsUptoRow : OpenClaim := { program := "ytjokedggmhiklaa", sum := "c9a24bb6f0a5d69459d7009cbac5d622f41fee1f2efdc886acce9a89347db388", func := "firkin/firkinlaw06.StripeSums", spec := "stripeSums", apart := false, narrowed := true }
def StripeSumsUptoSaid : Prop := stripeSumsUptoRow.holds Try.pinned (OpenSpec.upto stripeSumsSpec)

/-- 'firkinlaw06.StripeFills', WHERE WHAT IT READS IS OF BULK AT MOST 1048576: true; the input reads as it did. -/
def stripeFillsUptoRow : OpenClaim := { program := "ytjokedggmhiklaa", sum := "c9a24bb6f0a5d69459d7009cbac5d622f41fee1f2efdc886acce9a89347db388", func := "firkin/firkinlaw06.StripeFills", spec := "stripeFills", apart := false, narrowed := true }
def StripeFillsUptoSaid : Prop := stripeFillsUptoRow.holds Try.pinned (OpenSpec.upto stripeFillsSpec)

/-- 'firkinlaw06.StripeMends', WHERE WHAT IT READS IS OF BULK AT MOST 1048576: true; the input reads as it did. -/
def stripeMendsUptoRow : OpenClaim := { program := "ytjokedggmhiklaa", sum := "c9a24bb6f0a5d69459d7009cbac5d622f41fee1f2efdc886acce9a89347db388", func := "firkin/firkinlaw06.StripeMends", spec := "stripeMends", apart := false, narrowed := true }
def StripeMendsUptoSaid : Prop := stripeMendsUptoRow.holds Try.pinned (OpenSpec.upto stripeMendsSpec)

/-- 'firkinlaw06.StripeTurned', WHERE WHAT IT READS IS OF BULK AT MOST 1048576: true; the input reads as it did. -/
def stripeTurnedUptoRow : OpenClaim := { program := "ytjokedggmhiklaa", sum := "c9a24bb6f0a5d69459d7009cbac5d622f41fee1f2efdc886acce9a89347db388", func := "firkin/firkinlaw06.StripeTurned", spec := "stripeTurned", apart := false, narrowed := true }
def StripeTurnedUptoSaid : Prop := stripeTurnedUptoRow.holds Try.pinned (OpenSpec.upto stripeTurnedSpec)

/-- 'firkinlaw06.StripeNone', WHERE WHAT IT READS IS OF BULK AT MOST 1048576: true; the input reads as it did. -/
def stripeNoneUptoRow : OpenClaim := { program := "ytjokedggmhiklaa", sum := "c9a24bb6f0a5d69459d7009cbac5d622f41fee1f2efdc886acce9a89347db388", func := "firkin/firkinlaw06.StripeNone", spec := "stripeNone", apart := false, narrowed := true }
def StripeNoneUptoSaid : Prop := stripeNoneUptoRow.holds Try.pinned (OpenSpec.upto stripeNoneSpec)

end Rows
end Go.Proofs.Ytjokedggmhiklaa
