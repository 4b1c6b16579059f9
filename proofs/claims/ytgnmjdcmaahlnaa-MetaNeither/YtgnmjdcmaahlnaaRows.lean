/-
  No cell of these rows narrows 'for every input' (looked for: loops, veiled, ifaces, maps, wideKeys, modest, calm, conditions, laid).
  DERIVED. THE GIVEN ROWS OF THIS SEAT. 3 by the template 'for every input the law returns true; each argument reads behind the call as it read before'; 0 by the template 'total and deterministic' (their statements: YtgnmjdcmaahlnaaTotals.lean).
  GIVEN WITH THE SEED: the statements are not yours to turn. If you find one false, say at which input.
  Laid BY PROGRAM, IN A SANDBOX (cutbox-rows.mjs): the forced cells as the released guide's own fill.sh prints them over the translation 5c01921f3d63d207… (all of the seat's roots in one cut). By AI agents, Wed Nov 11 2026. No macro, syntax, notation, axiom, sorry.
-/
import Derived.Test.YtgnmjdcmaahlnaaChecked
import GoSem.Claim
import GoSem.ClaimJoined
import GoSem.ClaimMapViews
import Derived.JoinedTies
import Derived.KernelRfl
namespace Go.Proofs.Ytgnmjdcmaahlnaa
/- THE CELL 'sum', in the pinned program and in every row, IS THE sha256 OF THE DUMP (.gsa) THAT YtgnmjdcmaahlnaaProg.lean LOADS. Nothing in Lean hashes anything: it is a label: what it is worth is what the hold of that sum in a sandbox is worth. -/
noncomputable def Try.pinned : Pinned := { name := "ytgnmjdcmaahlnaa", sum := "5c01921f3d63d2077e5b3ece48c43f74a0372c033750176cf4fba9ddb43ae232", checked := Try.checked }
namespace Rows
def none {H : Type} : Left H := { results := [], args := [] }

/-- 'copyholdlaw3.MetaLater': WHATEVER THE INPUT: true; the input reads as it did. -/
def metaLaterSpec : ChangeSpec := { name := "metaLater", fn := fun _ => fun
  | [d1, d2, d3] => { results := [.lit (.bool true)], args := [d1, d2, d3] }
  | _ => none }
def metaLaterRow : OpenClaim := { program := "ytgnmjdcmaahlnaa", sum := "5c01921f3d63d2077e5b3ece48c43f74a0372c033750176cf4fba9ddb43ae232", func := "copyhold/copyholdlaw3.MetaLater", spec := "metaLater", inPlace := ["internal/abi.NoEscape", "internal/reflectlite.TypeOf"], unfollowed := true, recurses := true, apart := false }
def MetaLaterSaid : Prop := metaLaterRow.holds Try.pinned (OpenSpec.ofChange metaLaterSpec)

/-- ITS FALSE NEIGHBOUR: 'it returns false'. Refute it at one input. -/
def metaLaterWrong : ChangeSpec := { name := "metaLater", fn := fun _ => fun
  | [d1, d2, d3] => { results := [.lit (.bool false)], args := [d1, d2, d3] }
  | _ => none }
def MetaLaterWrongFalsely : Prop := metaLaterRow.holds Try.pinned (OpenSpec.ofChange metaLaterWrong)

/-- 'copyholdlaw3.MetaTurns': WHATEVER THE INPUT: true; the input reads as it did. -/
def metaTurnsSpec : ChangeSpec := { name := "metaTurns", fn := fun _ => fun
  | [d] => { results := [.lit (.bool true)], args := [d] }
  | _ => none }
def metaTurnsRow : OpenClaim := { program := "ytgnmjdcmaahlnaa", sum := "5c01921f3d63d2077e5b3ece48c43f74a0372c033750176cf4fba9ddb43ae232", func := "copyhold/copyholdlaw3.MetaTurns", spec := "metaTurns", inPlace := ["internal/abi.NoEscape", "internal/reflectlite.TypeOf"], unfollowed := true, recurses := true, apart := false }
def MetaTurnsSaid : Prop := metaTurnsRow.holds Try.pinned (OpenSpec.ofChange metaTurnsSpec)

/-- ITS FALSE NEIGHBOUR: 'it returns false'. Refute it at one input. -/
def metaTurnsWrong : ChangeSpec := { name := "metaTurns", fn := fun _ => fun
  | [d] => { results := [.lit (.bool false)], args := [d] }
  | _ => none }
def MetaTurnsWrongFalsely : Prop := metaTurnsRow.holds Try.pinned (OpenSpec.ofChange metaTurnsWrong)

/-- 'copyholdlaw3.MetaNeither': WHATEVER THE INPUT: true; the input reads as it did. -/
def metaNeitherSpec : ChangeSpec := { name := "metaNeither", fn := fun _ => fun
  | [d1, d2, d3] => { results := [.lit (.bool true)], args := [d1, d2, d3] }
  | _ => none }
def metaNeitherRow : OpenClaim := { program := "ytgnmjdcmaahlnaa", sum := "5c01921f3d63d2077e5b3ece48c43f74a0372c033750176cf4fba9ddb43ae232", func := "copyhold/copyholdlaw3.MetaNeither", spec := "metaNeither", inPlace := ["internal/abi.NoEscape", "internal/reflectlite.TypeOf"], unfollowed := true, recurses := true, apart := false }
def MetaNeitherSaid : Prop := metaNeitherRow.holds Try.pinned (OpenSpec.ofChange metaNeitherSpec)

/-- ITS FALSE NEIGHBOUR: 'it returns false'. Refute it at one input. -/
def metaNeitherWrong : ChangeSpec := { name := "metaNeither", fn := fun _ => fun
  | [d1, d2, d3] => { results := [.lit (.bool false)], args := [d1, d2, d3] }
  | _ => none }
def MetaNeitherWrongFalsely : Prop := metaNeitherRow.holds Try.pinned (OpenSpec.ofChange metaNeitherWrong)

/- THE SECOND FORM. 'bulk': how many values and letters a reading holds, each counted each time it is reached (what is shared counts as often as it is met; a slice's spare places count too). A statement '..UptoSaid' is the law's where the arguments, and the package variables that the reading takes, are together of bulk at most 1048576: NARROWER than '..Said'. Prove '..Said' where nothing that the law and all that it calls make is longer than what came in: it says more and counts as full. Else prove '..UptoSaid'. A law counts once. -/
mutual
def uptoBulk {H : Type} : DataW H → Nat
  | .lit (.string bytes) => bytes.length + 1
  | .lit _ => 1
  | .nil => 1
  | .ptr d => uptoBulk d + 1
  | .slice elems spare => uptoBulkAll elems + uptoBulkAll spare + 1
  | .agg parts => uptoBulkAll parts + 1
  | .iface _ d => uptoBulk d + 1
  | .map entries => uptoBulkEntries entries + 1
  | .held _ => 1
def uptoBulkAll {H : Type} : List (DataW H) → Nat
  | [] => 0
  | d :: r => uptoBulk d + uptoBulkAll r
def uptoBulkEntries {H : Type} : List (Lit × DataW H) → Nat
  | [] => 0
  | x :: r => uptoBulkEntry x + uptoBulkEntries r
def uptoBulkEntry {H : Type} : Lit × DataW H → Nat
  | (.string bytes, d) => bytes.length + uptoBulk d + 1
  | (_, d) => uptoBulk d + 1
 end
def uptoSmall : (H : Type) → List (DataW H) → Bool := fun _ ds => decide (uptoBulkAll ds ≤ 1048576)
def OpenSpec.upto (s : _root_.Go.ChangeSpec) : _root_.Go.OpenSpec := { _root_.Go.OpenSpec.ofChange s with cond := some uptoSmall }

/-- 'copyholdlaw3.MetaLater', WHERE WHAT IT READS IS OF BULK AT MOST 1048576: true; the input reads as it did. -/
def metaLaterUptoRow : OpenClaim := { program := "ytgnmjdcmaahlnaa", sum := "5c01921f3d63d2077e5b3ece48c43f74a0372c033750176cf4fba9ddb43ae232", func := "copyhold/copyholdlaw3.MetaLater", spec := "metaLater", inPlace := ["internal/abi.NoEscape", "internal/reflectlite.TypeOf"], unfollowed := true, recurses := true, apart := false, narrowed := true }
def MetaLaterUptoSaid : Prop := metaLaterUptoRow.holds Try.pinned (OpenSpec.upto metaLaterSpec)

/-- 'copyholdlaw3.MetaTurns', WHERE WHAT IT READS IS OF BULK AT MOST 1048576: true; the input reads as it did. -/
def metaTurnsUptoRow : OpenClaim := { program := "ytgnmjdcmaahlnaa", sum := "5c01921f3d63d2077e5b3ece48c43f74a0372c033750176cf4fba9ddb43ae232", func := "copyhold/copyholdlaw3.MetaTurns", spec := "metaTurns", inPlace := ["internal/abi.NoEscape", "internal/reflectlite.TypeOf"], unfollowed := true, recurses := true, apart := false, narrowed := true }
def MetaTurnsUptoSaid : Prop := metaTurnsUptoRow.holds Try.pinned (OpenSpec.upto metaTurnsSpec)

/-- 'copyholdlaw3.MetaNeither', WHERE WHAT IT READS IS OF BULK AT MOST 1048576: true; the input reads as it did. -/
def metaNeitherUptoRow : OpenClaim := { program := "ytgnmjdcmaahlnaa", sum := "5c01921f3d63d2077e5b3ece48c43f74a0372c033750176cf4fba9ddb43ae232", func := "copyhold/copyholdlaw3.MetaNeither", spec := "metaNeither", inPlace := ["internal/abi.NoEscape", "internal/reflectlite.TypeOf"], unfollowed := true, recurses := true, apart := false, narrowed := true }
def MetaNeitherUptoSaid : Prop := metaNeitherUptoRow.holds Try.pinned (OpenSpec.upto metaNeitherSpec)

end Rows
end Go.Proofs.Ytgnmjdcmaahlnaa
