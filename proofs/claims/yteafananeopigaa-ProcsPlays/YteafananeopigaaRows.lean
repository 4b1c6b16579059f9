/-
  No cell of these rows narrows 'for every input' (looked for: loops, veiled, ifaces, maps, wideKeys, modest, calm, conditions, laid).
  DERIVED. THE GIVEN ROWS OF THIS SEAT. 3 by the template 'for every input the law returns true; each argument reads behind the call as it read before'; 0 by the template 'total and deterministic' (their statements: YteafananeopigaaTotals.lean).
  GIVEN WITH THE SEED: the statements are not yours to turn. If you find one false, say at which input.
  Laid BY PROGRAM, IN A SANDBOX (cutbox-rows.mjs): the forced cells as the released guide's own fill.sh prints them over the translation 9ea8b3c624cdbd6f… (all of the seat's roots in one cut). By AI agents, Wed Nov 11 2026. No macro, syntax, notation, axiom, sorry.
-/
import Derived.Test.YteafananeopigaaChecked
import GoSem.Claim
import GoSem.ClaimJoined
import GoSem.ClaimMapViews
import Derived.JoinedTies
import Derived.KernelRfl
namespace Go.Proofs.Yteafananeopigaa
/- THE CELL 'sum', in the pinned program and in every row, IS THE sha256 OF THE DUMP (.gsa) THAT YteafananeopigaaProg.lean LOADS. Nothing in Lean hashes anything: it is a label: what it is worth is what the hold of that sum in a sandbox is worth. -/
noncomputable def Try.pinned : Pinned := { name := "yteafananeopigaa", sum := "9ea8b3c624cdbd6f30acec683f7cb2b8209693342d0bf5c519ca6a6fd85e717d", checked := Try.checked }
namespace Rows
def none {H : Type} : Left H := { results := [], args := [] }

/-- 'copyholdlaw5.ProcsPlays': WHATEVER THE INPUT: true; the input reads as it did. -/
def procsPlaysSpec : ChangeSpec := { name := "procsPlays", fn := fun _ => fun
  | [d] => { results := [.lit (.bool true)], args := [d] }
  | _ => none }
def procsPlaysRow : OpenClaim := { program := "yteafananeopigaa", sum := "9ea8b3c624cdbd6f30acec683f7cb2b8209693342d0bf5c519ca6a6fd85e717d", func := "copyhold/copyholdlaw5.ProcsPlays", spec := "procsPlays", inPlace := ["internal/reflectlite.TypeOf"], unfollowed := true, recurses := true, apart := false }
def ProcsPlaysSaid : Prop := procsPlaysRow.holds Try.pinned (OpenSpec.ofChange procsPlaysSpec)

/-- ITS FALSE NEIGHBOUR: 'it returns false'. Refute it at one input. -/
def procsPlaysWrong : ChangeSpec := { name := "procsPlays", fn := fun _ => fun
  | [d] => { results := [.lit (.bool false)], args := [d] }
  | _ => none }
def ProcsPlaysWrongFalsely : Prop := procsPlaysRow.holds Try.pinned (OpenSpec.ofChange procsPlaysWrong)

/-- 'copyholdlaw5.ProcsMany': WHATEVER THE INPUT: true; the input reads as it did. -/
def procsManySpec : ChangeSpec := { name := "procsMany", fn := fun _ => fun
  | [d] => { results := [.lit (.bool true)], args := [d] }
  | _ => none }
def procsManyRow : OpenClaim := { program := "yteafananeopigaa", sum := "9ea8b3c624cdbd6f30acec683f7cb2b8209693342d0bf5c519ca6a6fd85e717d", func := "copyhold/copyholdlaw5.ProcsMany", spec := "procsMany", inPlace := ["internal/reflectlite.TypeOf"], unfollowed := true, recurses := true, apart := false }
def ProcsManySaid : Prop := procsManyRow.holds Try.pinned (OpenSpec.ofChange procsManySpec)

/-- ITS FALSE NEIGHBOUR: 'it returns false'. Refute it at one input. -/
def procsManyWrong : ChangeSpec := { name := "procsMany", fn := fun _ => fun
  | [d] => { results := [.lit (.bool false)], args := [d] }
  | _ => none }
def ProcsManyWrongFalsely : Prop := procsManyRow.holds Try.pinned (OpenSpec.ofChange procsManyWrong)

/-- 'copyholdlaw5.ProcsNever': WHATEVER THE INPUT: true; the input reads as it did. -/
def procsNeverSpec : ChangeSpec := { name := "procsNever", fn := fun _ => fun
  | [d] => { results := [.lit (.bool true)], args := [d] }
  | _ => none }
def procsNeverRow : OpenClaim := { program := "yteafananeopigaa", sum := "9ea8b3c624cdbd6f30acec683f7cb2b8209693342d0bf5c519ca6a6fd85e717d", func := "copyhold/copyholdlaw5.ProcsNever", spec := "procsNever", inPlace := ["internal/reflectlite.TypeOf"], unfollowed := true, recurses := true, apart := false }
def ProcsNeverSaid : Prop := procsNeverRow.holds Try.pinned (OpenSpec.ofChange procsNeverSpec)

/-- ITS FALSE NEIGHBOUR: 'it returns false'. Refute it at one input. -/
def procsNeverWrong : ChangeSpec := { name := "procsNever", fn := fun _ => fun
  | [d] => { results := [.lit (.bool false)], args := [d] }
  | _ => none }
def ProcsNeverWrongFalsely : Prop := procsNeverRow.holds Try.pinned (OpenSpec.ofChange procsNeverWrong)

/- THE SECOND FORM. 'bulk': how many values and letters a reading holds, each counted each time it is reached (what is shared counts as often as it is met; a slice's spare places count too). A statement '..UptoSaid' is the law's where the arguments, and the package variables that the reading takes, are together of bulk at most 1048576: NARROWER than '..Said'. Prove '..Said' where nothing that the law and all that it calls make is longer than what came in: it says more and counts as full. Else prove '..UptoSaid'. A law counts once. -/
mutual
def uptoBulk {H : Type} : DataW H → Nat
  | .lit (.string bytes) => bytes.length + 1
  | .lit _ => 1
  | .nil => 1
  | .ptr d => uptoBulk d + 1
  | .slice elems spare => uptoBulkAll elems + uptoBulkAll spare + 1
  | .agg parts => uptoBulkAll parts + 1
  | .iface _ d => uptoBulk d + 1
  | .map entries => uptoBulkEntries entries + 1
  | .held _ => 1
def uptoBulkAll {H : Type} : List (DataW H) → Nat
  | [] => 0
  | d :: r => uptoBulk d + uptoBulkAll r
def uptoBulkEntries {H : Type} : List (Lit × DataW H) → Nat
  | [] => 0
  | x :: r => uptoBulkEntry x + uptoBulkEntries r
def uptoBulkEntry {H : Type} : Lit × DataW H → Nat
  | (.string bytes, d) => bytes.length + uptoBulk d + 1
  | (_, d) => uptoBulk d + 1
 end
def uptoSmall : (H : Type) → List (DataW H) → Bool := fun _ ds => decide (uptoBulkAll ds ≤ 1048576)
def OpenSpec.upto (s : _root_.Go.ChangeSpec) : _root_.Go.OpenSpec := { _root_.Go.OpenSpec.ofChange s with cond := some uptoSmall }

/-- 'copyholdlaw5.ProcsPlays', WHERE WHAT IT READS IS OF BULK AT MOST 1048576: true; the input reads as it did. -/
def procsPlaysUptoRow : OpenClaim := { program := "yteafananeopigaa", sum := "9ea8b3c624cdbd6f30acec683f7cb2b8209693342d0bf5c519ca6a6fd85e717d", func := "copyhold/copyholdlaw5.ProcsPlays", spec := "procsPlays", inPlace := ["internal/reflectlite.TypeOf"], unfollowed := true, recurses := true, apart := false, narrowed := true }
def ProcsPlaysUptoSaid : Prop := procsPlaysUptoRow.holds Try.pinned (OpenSpec.upto procsPlaysSpec)

/-- 'copyholdlaw5.ProcsMany', WHERE WHAT IT READS IS OF BULK AT MOST 1048576: true; the input reads as it did. -/
def procsManyUptoRow : OpenClaim := { program := "yteafananeopigaa", sum := "9ea8b3c624cdbd6f30acec683f7cb2b8209693342d0bf5c519ca6a6fd85e717d", func := "copyhold/copyholdlaw5.ProcsMany", spec := "procsMany", inPlace := ["internal/reflectlite.TypeOf"], unfollowed := true, recurses := true, apart := false, narrowed := true }
def ProcsManyUptoSaid : Prop := procsManyUptoRow.holds Try.pinned (OpenSpec.upto procsManySpec)

/-- 'copyholdlaw5.ProcsNever', WHERE WHAT IT READS IS OF BULK AT MOST 1048576: true; the input reads as it did. -/
def procsNeverUptoRow : OpenClaim := { program := "yteafananeopigaa", sum := "9ea8b3c624cdbd6f30acec683f7cb2b8209693342d0bf5c519ca6a6fd85e717d", func := "copyhold/copyholdlaw5.ProcsNever", spec := "procsNever", inPlace := ["internal/reflectlite.TypeOf"], unfollowed := true, recurses := true, apart := false, narrowed := true }
def ProcsNeverUptoSaid : Prop := procsNeverUptoRow.holds Try.pinned (OpenSpec.upto procsNeverSpec)

end Rows
end Go.Proofs.Yteafananeopigaa
