/-
  No cell of these rows narrows 'for every input' (looked for: loops, veiled, ifaces, maps, wideKeys, modest, calm, conditions, laid).
  DERIVED. THE GIVEN ROWS OF THIS SEAT. 6 by the template 'for every input the law returns true; each argument reads behind the call as it read before'; 0 by the template 'total and deterministic' (their statements: YtdihdchfigemnaaGreatTotals.lean).
  GIVEN WITH THE SEED: the statements are not yours to turn. If you find one false, say at which input.
  Laid BY PROGRAM, IN A SANDBOX (cutbox-rows.mjs): the forced cells as the released guide's own fill.sh prints them over the translation c865f7335bb2f2a7… (all of the seat's roots in one cut). By AI agents, Wed Nov 11 2026. No macro, syntax, notation, axiom, sorry.
-/
import Derived.Test.YtdihdchfigemnaaGreatChecked
import GoSem.Claim
import GoSem.ClaimJoined
import GoSem.ClaimMapViews
import Derived.JoinedTies
import Derived.KernelRfl
namespace Go.Proofs.YtdihdchfigemnaaGreat
/- THE CELL 'sum', in the pinned program and in every row, IS THE sha256 OF THE DUMP (.gsa) THAT YtdihdchfigemnaaGreatProg.lean LOADS. Nothing in Lean hashes anything: it is a label: what it is worth is what the hold of that sum in a sandbox is worth. -/
noncomputable def Tryz.pinned : Pinned := { name := "ytdihdchfigemnaagreat", sum := "c865f7335bb2f2a78fd456413d1b9a047922594d7e6906d4a15806340e64afcf", checked := Tryz.checked }
namespace Rows
def none {H : Type} : Left H := { results := [], args := [] }

/-- 'copyholdlaw9.TreeGrown': WHATEVER THE INPUT: true; the input reads as it did. -/
def treeGrownSpec : ChangeSpec := { name := "treeGrown", fn := fun _ => fun
  | [d] => { results := [.lit (.bool true)], args := [d] }
  | _ => none }
def treeGrownRow : OpenClaim := { program := "ytdihdchfigemnaagreat", sum := "c865f7335bb2f2a78fd456413d1b9a047922594d7e6906d4a15806340e64afcf", func := "copyhold/copyholdlaw9.TreeGrown", spec := "treeGrown", inPlace := ["internal/abi.NoEscape", "internal/bytealg.MakeNoZero", "internal/reflectlite.TypeOf"], unfollowed := true, recurses := true, apart := false }
def TreeGrownSaid : Prop := treeGrownRow.holds Tryz.pinned (OpenSpec.ofChange treeGrownSpec)

/-- ITS FALSE NEIGHBOUR: 'it returns false'. Refute it at one input. -/
def treeGrownWrong : ChangeSpec := { name := "treeGrown", fn := fun _ => fun
  | [d] => { results := [.lit (.bool false)], args := [d] }
  | _ => none }
def TreeGrownWrongFalsely : Prop := treeGrownRow.holds Tryz.pinned (OpenSpec.ofChange treeGrownWrong)

/-- 'copyholdlaw9.TreeShapes': WHATEVER THE INPUT: true; the input reads as it did. -/
def treeShapesSpec : ChangeSpec := { name := "treeShapes", fn := fun _ => fun
  | [d] => { results := [.lit (.bool true)], args := [d] }
  | _ => none }
def treeShapesRow : OpenClaim := { program := "ytdihdchfigemnaagreat", sum := "c865f7335bb2f2a78fd456413d1b9a047922594d7e6906d4a15806340e64afcf", func := "copyhold/copyholdlaw9.TreeShapes", spec := "treeShapes", inPlace := ["internal/abi.NoEscape", "internal/bytealg.MakeNoZero", "internal/reflectlite.TypeOf"], unfollowed := true, recurses := true, apart := false }
def TreeShapesSaid : Prop := treeShapesRow.holds Tryz.pinned (OpenSpec.ofChange treeShapesSpec)

/-- ITS FALSE NEIGHBOUR: 'it returns false'. Refute it at one input. -/
def treeShapesWrong : ChangeSpec := { name := "treeShapes", fn := fun _ => fun
  | [d] => { results := [.lit (.bool false)], args := [d] }
  | _ => none }
def TreeShapesWrongFalsely : Prop := treeShapesRow.holds Tryz.pinned (OpenSpec.ofChange treeShapesWrong)

/-- 'copyholdlaw9.TreeSpoilt': WHATEVER THE INPUT: true; the input reads as it did. -/
def treeSpoiltSpec : ChangeSpec := { name := "treeSpoilt", fn := fun _ => fun
  | [d1, d2, d3] => { results := [.lit (.bool true)], args := [d1, d2, d3] }
  | _ => none }
def treeSpoiltRow : OpenClaim := { program := "ytdihdchfigemnaagreat", sum := "c865f7335bb2f2a78fd456413d1b9a047922594d7e6906d4a15806340e64afcf", func := "copyhold/copyholdlaw9.TreeSpoilt", spec := "treeSpoilt", inPlace := ["internal/abi.NoEscape", "internal/bytealg.MakeNoZero", "internal/reflectlite.TypeOf"], unfollowed := true, recurses := true, apart := false }
def TreeSpoiltSaid : Prop := treeSpoiltRow.holds Tryz.pinned (OpenSpec.ofChange treeSpoiltSpec)

/-- ITS FALSE NEIGHBOUR: 'it returns false'. Refute it at one input. -/
def treeSpoiltWrong : ChangeSpec := { name := "treeSpoilt", fn := fun _ => fun
  | [d1, d2, d3] => { results := [.lit (.bool false)], args := [d1, d2, d3] }
  | _ => none }
def TreeSpoiltWrongFalsely : Prop := treeSpoiltRow.holds Tryz.pinned (OpenSpec.ofChange treeSpoiltWrong)

/-- 'copyholdlaw10.FindWalks': WHATEVER THE INPUT: true; the input reads as it did. -/
def findWalksSpec : ChangeSpec := { name := "findWalks", fn := fun _ => fun
  | [d] => { results := [.lit (.bool true)], args := [d] }
  | _ => none }
def findWalksRow : OpenClaim := { program := "ytdihdchfigemnaagreat", sum := "c865f7335bb2f2a78fd456413d1b9a047922594d7e6906d4a15806340e64afcf", func := "copyhold/copyholdlaw10.FindWalks", spec := "findWalks", inPlace := ["internal/abi.NoEscape", "internal/reflectlite.TypeOf"], unfollowed := true, recurses := true, apart := false }
def FindWalksSaid : Prop := findWalksRow.holds Tryz.pinned (OpenSpec.ofChange findWalksSpec)

/-- ITS FALSE NEIGHBOUR: 'it returns false'. Refute it at one input. -/
def findWalksWrong : ChangeSpec := { name := "findWalks", fn := fun _ => fun
  | [d] => { results := [.lit (.bool false)], args := [d] }
  | _ => none }
def FindWalksWrongFalsely : Prop := findWalksRow.holds Tryz.pinned (OpenSpec.ofChange findWalksWrong)

/-- 'copyholdlaw10.FindBetween': WHATEVER THE INPUT: true; the input reads as it did. -/
def findBetweenSpec : ChangeSpec := { name := "findBetween", fn := fun _ => fun
  | [d1, d2] => { results := [.lit (.bool true)], args := [d1, d2] }
  | _ => none }
def findBetweenRow : OpenClaim := { program := "ytdihdchfigemnaagreat", sum := "c865f7335bb2f2a78fd456413d1b9a047922594d7e6906d4a15806340e64afcf", func := "copyhold/copyholdlaw10.FindBetween", spec := "findBetween", inPlace := ["internal/abi.NoEscape", "internal/reflectlite.TypeOf"], unfollowed := true, recurses := true, apart := false }
def FindBetweenSaid : Prop := findBetweenRow.holds Tryz.pinned (OpenSpec.ofChange findBetweenSpec)

/-- ITS FALSE NEIGHBOUR: 'it returns false'. Refute it at one input. -/
def findBetweenWrong : ChangeSpec := { name := "findBetween", fn := fun _ => fun
  | [d1, d2] => { results := [.lit (.bool false)], args := [d1, d2] }
  | _ => none }
def FindBetweenWrongFalsely : Prop := findBetweenRow.holds Tryz.pinned (OpenSpec.ofChange findBetweenWrong)

/-- 'copyholdlaw10.FindAll': WHATEVER THE INPUT: true; the input reads as it did. -/
def findAllSpec : ChangeSpec := { name := "findAll", fn := fun _ => fun
  | [d] => { results := [.lit (.bool true)], args := [d] }
  | _ => none }
def findAllRow : OpenClaim := { program := "ytdihdchfigemnaagreat", sum := "c865f7335bb2f2a78fd456413d1b9a047922594d7e6906d4a15806340e64afcf", func := "copyhold/copyholdlaw10.FindAll", spec := "findAll", inPlace := ["internal/abi.NoEscape", "internal/reflectlite.TypeOf"], unfollowed := true, recurses := true, apart := false }
def FindAllSaid : Prop := findAllRow.holds Tryz.pinned (OpenSpec.ofChange findAllSpec)

/-- ITS FALSE NEIGHBOUR: 'it returns false'. Refute it at one input. -/
def findAllWrong : ChangeSpec := { name := "findAll", fn := fun _ => fun
  | [d] => { results := [.lit (.bool false)], args := [d] }
  | _ => none }
def FindAllWrongFalsely : Prop := findAllRow.holds Tryz.pinned (OpenSpec.ofChange findAllWrong)

/- THE SECOND FORM. 'bulk': how many values and letters a reading holds, each counted each time it is reached (what is shared counts as often as it is met; a slice's spare places count too). A statement '..UptoSaid' is the law's where the arguments, and the package variables that the reading takes, are together of bulk at most 1048576: NARROWER than '..Said'. Prove '..Said' where nothing that the law and all that it calls make is longer than what came in: it says more and counts as full. Else prove '..UptoSaid'. A law counts once. -/
mutual
def uptoBulk {H : Type} : DataW H → Nat
  | .lit (.string bytes) => bytes.length + 1
  | .lit _ => 1
  | .nil => 1
  | .ptr d => uptoBulk d + 1
  | .slice elems spare => uptoBulkAll elems + uptoBulkAll spare + 1
  | .agg parts => uptoBulkAll parts + 1
  | .iface _ d => uptoBulk d + 1
  | .map entries => uptoBulkEntries entries + 1
  | .held _ => 1
def uptoBulkAll {H : Type} : List (DataW H) → Nat
  | [] => 0
  | d :: r => uptoBulk d + uptoBulkAll r
def uptoBulkEntries {H : Type} : List (Lit × DataW H) → Nat
  | [] => 0
  | x :: r => uptoBulkEntry x + uptoBulkEntries r
def uptoBulkEntry {H : Type} : Lit × DataW H → Nat
  | (.string bytes, d) => bytes.length + uptoBulk d + 1
  | (_, d) => uptoBulk d + 1
 end
def uptoSmall : (H : Type) → List (DataW H) → Bool := fun _ ds => decide (uptoBulkAll ds ≤ 1048576)
def OpenSpec.upto (s : _root_.Go.ChangeSpec) : _root_.Go.OpenSpec := { _root_.Go.OpenSpec.ofChange s with cond := some uptoSmall }

/-- 'copyholdlaw9.TreeGrown', WHERE WHAT IT READS IS OF BULK AT MOST 1048576: true; the input reads as it did. -/
def treeGrownUptoRow : OpenClaim := { program := "ytdihdchfigemnaagreat", sum := "c865f7335bb2f2a78fd456413d1b9a047922594d7e6906d4a15806340e64afcf", func := "copyhold/copyholdlaw9.TreeGrown", spec := "treeGrown", inPlace := ["internal/abi.NoEscape", "internal/bytealg.MakeNoZero", "internal/reflectlite.TypeOf"], unfollowed := true, recurses := true, apart := false, narrowed := true }
def TreeGrownUptoSaid : Prop := treeGrownUptoRow.holds Tryz.pinned (OpenSpec.upto treeGrownSpec)

/-- 'copyholdlaw9.TreeShapes', WHERE WHAT IT READS IS OF BULK AT MOST 1048576: true; the input reads as it did. -/
def treeShapesUptoRow : OpenClaim := { program := "ytdihdchfigemnaagreat", sum := "c865f7335bb2f2a78fd456413d1b9a047922594d7e6906d4a15806340e64afcf", func := "copyhold/copyholdlaw9.TreeShapes", spec := "treeShapes", inPlace := ["internal/abi.NoEscape", "internal/bytealg.MakeNoZero", "internal/reflectlite.TypeOf"], unfollowed := true, recurses := true, apart := false, narrowed := true }
def TreeShapesUptoSaid : Prop := treeShapesUptoRow.holds Tryz.pinned (OpenSpec.upto treeShapesSpec)

/-- 'copyholdlaw9.TreeSpoilt', WHERE WHAT IT READS IS OF BULK AT MOST 1048576: true; the input reads as it did. -/
def treeSpoiltUptoRow : OpenClaim := { program := "ytdihdchfigemnaagreat", sum := "c865f7335bb2f2a78fd456413d1b9a047922594d7e6906d4a15806340e64afcf", func := "copyhold/copyholdlaw9.TreeSpoilt", spec := "treeSpoilt", inPlace := ["internal/abi.NoEscape", "internal/bytealg.MakeNoZero", "internal/reflectlite.TypeOf"], unfollowed := true, recurses := true, apart := false, narrowed := true }
def TreeSpoiltUptoSaid : Prop := treeSpoiltUptoRow.holds Tryz.pinned (OpenSpec.upto treeSpoiltSpec)

/-- 'copyholdlaw10.FindWalks', WHERE WHAT IT READS IS OF BULK AT MOST 1048576: true; the input reads as it did. -/
def findWalksUptoRow : OpenClaim := { program := "ytdihdchfigemnaagreat", sum := "c865f7335bb2f2a78fd456413d1b9a047922594d7e6906d4a15806340e64afcf", func := "copyhold/copyholdlaw10.FindWalks", spec := "findWalks", inPlace := ["internal/abi.NoEscape", "internal/reflectlite.TypeOf"], unfollowed := true, recurses := true, apart := false, narrowed := true }
def FindWalksUptoSaid : Prop := findWalksUptoRow.holds Tryz.pinned (OpenSpec.upto findWalksSpec)

/-- 'copyholdlaw10.FindBetween', WHERE WHAT IT READS IS OF BULK AT MOST 1048576: true; the input reads as it did. -/
def findBetweenUptoRow : OpenClaim := { program := "ytdihdchfigemnaagreat", sum := "c865f7335bb2f2a78fd456413d1b9a047922594d7e6906d4a15806340e64afcf", func := "copyhold/copyholdlaw10.FindBetween", spec := "findBetween", inPlace := ["internal/abi.NoEscape", "internal/reflectlite.TypeOf"], unfollowed := true, recurses := true, apart := false, narrowed := true }
def FindBetweenUptoSaid : Prop := findBetweenUptoRow.holds Tryz.pinned (OpenSpec.upto findBetweenSpec)

/-- 'copyholdlaw10.FindAll', WHERE WHAT IT READS IS OF BULK AT MOST 1048576: true; the input reads as it did. -/
def findAllUptoRow : OpenClaim := { program := "ytdihdchfigemnaagreat", sum := "c865f7335bb2f2a78fd456413d1b9a047922594d7e6906d4a15806340e64afcf", func := "copyhold/copyholdlaw10.FindAll", spec := "findAll", inPlace := ["internal/abi.NoEscape", "internal/reflectlite.TypeOf"], unfollowed := true, recurses := true, apart := false, narrowed := true }
def FindAllUptoSaid : Prop := findAllUptoRow.holds Tryz.pinned (OpenSpec.upto findAllSpec)

end Rows
end Go.Proofs.YtdihdchfigemnaaGreat
