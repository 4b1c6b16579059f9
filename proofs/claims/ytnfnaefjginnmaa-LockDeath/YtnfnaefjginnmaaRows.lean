/-
  No cell of these rows narrows 'for every input' (looked for: loops, veiled, ifaces, maps, wideKeys, modest, calm, conditions, laid).
  DERIVED. THE GIVEN ROWS OF THIS SEAT. 4 by the template 'for every input the law returns true; each argument reads behind the call as it read before'; 0 by the template 'total and deterministic' (their statements: YtnfnaefjginnmaaTotals.lean).
  GIVEN WITH THE SEED: the statements are not yours to turn. If you find one false, say at which input.
  Laid BY PROGRAM, IN A SANDBOX (cutbox-rows.mjs): the forced cells as the released guide's own fill.sh prints them over the translation 047667973b149178… (all of the seat's roots in one cut). By AI agents, Wed Nov 11 2026. No macro, syntax, notation, axiom, sorry.
-/
import Derived.Test.YtnfnaefjginnmaaChecked
import GoSem.Claim
import GoSem.ClaimJoined
import GoSem.ClaimMapViews
import Derived.JoinedTies
import Derived.KernelRfl
namespace Go.Proofs.Ytnfnaefjginnmaa
/- THE CELL 'sum', in the pinned program and in every row, IS THE sha256 OF THE DUMP (.gsa) THAT YtnfnaefjginnmaaProg.lean LOADS. Nothing in Lean hashes anything: it is a label: what it is worth is what the hold of that sum in a sandbox is worth. -/
noncomputable def Try.pinned : Pinned := { name := "ytnfnaefjginnmaa", sum := "047667973b149178e15477601fc124d3d537e4b8a81f6f32ebb6e2d30401c4f6", checked := Try.checked }
namespace Rows
def none {H : Type} : Left H := { results := [], args := [] }

/-- 'copyholdlaw6.LockDeath': WHATEVER THE INPUT: true; the input reads as it did. -/
def lockDeathSpec : ChangeSpec := { name := "lockDeath", fn := fun _ => fun
  | [d1, d2, d3] => { results := [.lit (.bool true)], args := [d1, d2, d3] }
  | _ => none }
def lockDeathRow : OpenClaim := { program := "ytnfnaefjginnmaa", sum := "047667973b149178e15477601fc124d3d537e4b8a81f6f32ebb6e2d30401c4f6", func := "copyhold/copyholdlaw6.LockDeath", spec := "lockDeath", inPlace := ["internal/abi.NoEscape", "internal/reflectlite.TypeOf"], unfollowed := true, recurses := true, apart := false }
def LockDeathSaid : Prop := lockDeathRow.holds Try.pinned (OpenSpec.ofChange lockDeathSpec)

/-- ITS FALSE NEIGHBOUR: 'it returns false'. Refute it at one input. -/
def lockDeathWrong : ChangeSpec := { name := "lockDeath", fn := fun _ => fun
  | [d1, d2, d3] => { results := [.lit (.bool false)], args := [d1, d2, d3] }
  | _ => none }
def LockDeathWrongFalsely : Prop := lockDeathRow.holds Try.pinned (OpenSpec.ofChange lockDeathWrong)

/-- 'copyholdlaw6.LockSlots': WHATEVER THE INPUT: true; the input reads as it did. -/
def lockSlotsSpec : ChangeSpec := { name := "lockSlots", fn := fun _ => fun
  | [d1, d2] => { results := [.lit (.bool true)], args := [d1, d2] }
  | _ => none }
def lockSlotsRow : OpenClaim := { program := "ytnfnaefjginnmaa", sum := "047667973b149178e15477601fc124d3d537e4b8a81f6f32ebb6e2d30401c4f6", func := "copyhold/copyholdlaw6.LockSlots", spec := "lockSlots", inPlace := ["internal/abi.NoEscape", "internal/reflectlite.TypeOf"], unfollowed := true, recurses := true, apart := false }
def LockSlotsSaid : Prop := lockSlotsRow.holds Try.pinned (OpenSpec.ofChange lockSlotsSpec)

/-- ITS FALSE NEIGHBOUR: 'it returns false'. Refute it at one input. -/
def lockSlotsWrong : ChangeSpec := { name := "lockSlots", fn := fun _ => fun
  | [d1, d2] => { results := [.lit (.bool false)], args := [d1, d2] }
  | _ => none }
def LockSlotsWrongFalsely : Prop := lockSlotsRow.holds Try.pinned (OpenSpec.ofChange lockSlotsWrong)

/-- 'copyholdlaw6.LockOldest': WHATEVER THE INPUT: true; the input reads as it did. -/
def lockOldestSpec : ChangeSpec := { name := "lockOldest", fn := fun _ => fun
  | [d1, d2] => { results := [.lit (.bool true)], args := [d1, d2] }
  | _ => none }
def lockOldestRow : OpenClaim := { program := "ytnfnaefjginnmaa", sum := "047667973b149178e15477601fc124d3d537e4b8a81f6f32ebb6e2d30401c4f6", func := "copyhold/copyholdlaw6.LockOldest", spec := "lockOldest", inPlace := ["internal/abi.NoEscape", "internal/reflectlite.TypeOf"], unfollowed := true, recurses := true, apart := false }
def LockOldestSaid : Prop := lockOldestRow.holds Try.pinned (OpenSpec.ofChange lockOldestSpec)

/-- ITS FALSE NEIGHBOUR: 'it returns false'. Refute it at one input. -/
def lockOldestWrong : ChangeSpec := { name := "lockOldest", fn := fun _ => fun
  | [d1, d2] => { results := [.lit (.bool false)], args := [d1, d2] }
  | _ => none }
def LockOldestWrongFalsely : Prop := lockOldestRow.holds Try.pinned (OpenSpec.ofChange lockOldestWrong)

/-- 'copyholdlaw6.LockOne': WHATEVER THE INPUT: true; the input reads as it did. -/
def lockOneSpec : ChangeSpec := { name := "lockOne", fn := fun _ => fun
  | [d] => { results := [.lit (.bool true)], args := [d] }
  | _ => none }
def lockOneRow : OpenClaim := { program := "ytnfnaefjginnmaa", sum := "047667973b149178e15477601fc124d3d537e4b8a81f6f32ebb6e2d30401c4f6", func := "copyhold/copyholdlaw6.LockOne", spec := "lockOne", inPlace := ["internal/abi.NoEscape", "internal/reflectlite.TypeOf"], unfollowed := true, recurses := true, apart := false }
def LockOneSaid : Prop := lockOneRow.holds Try.pinned (OpenSpec.ofChange lockOneSpec)

/-- ITS FALSE NEIGHBOUR: 'it returns false'. Refute it at one input. -/
def lockOneWrong : ChangeSpec := { name := "lockOne", fn := fun _ => fun
  | [d] => { results := [.lit (.bool false)], args := [d] }
  | _ => none }
def LockOneWrongFalsely : Prop := lockOneRow.holds Try.pinned (OpenSpec.ofChange lockOneWrong)

/- THE SECOND FORM. 'bulk': how many values and letters a reading holds, each counted each time it is reached (what is shared counts as often as it is met; a slice's spare places count too). A statement '..UptoSaid' is the law's where the arguments, and the package variables that the reading takes, are together of bulk at most 1048576: NARROWER than '..Said'. Prove '..Said' where nothing that the law and all that it calls make is longer than what came in: it says more and counts as full. Else prove '..UptoSaid'. A law counts once. -/
mutual
def uptoBulk {H : Type} : DataW H → Nat
  | .lit (.string bytes) => bytes.length + 1
  | .lit _ => 1
  | .nil => 1
  | .ptr d => uptoBulk d + 1
  | .slice elems spare => uptoBulkAll elems + uptoBulkAll spare + 1
  | .agg parts => uptoBulkAll parts + 1
  | .iface _ d => uptoBulk d + 1
  | .map entries => uptoBulkEntries entries + 1
  | .held _ => 1
def uptoBulkAll {H : Type} : List (DataW H) → Nat
  | [] => 0
  | d :: r => uptoBulk d + uptoBulkAll r
def uptoBulkEntries {H : Type} : List (Lit × DataW H) → Nat
  | [] => 0
  | x :: r => uptoBulkEntry x + uptoBulkEntries r
def uptoBulkEntry {H : Type} : Lit × DataW H → Nat
  | (.string bytes, d) => bytes.length + uptoBulk d + 1
  | (_, d) => uptoBulk d + 1
 end
def uptoSmall : (H : Type) → List (DataW H) → Bool := fun _ ds => decide (uptoBulkAll ds ≤ 1048576)
def OpenSpec.upto (s : _root_.Go.ChangeSpec) : _root_.Go.OpenSpec := { _root_.Go.OpenSpec.ofChange s with cond := some uptoSmall }

/-- 'copyholdlaw6.LockDeath', WHERE WHAT IT READS IS OF BULK AT MOST 1048576: true; the input reads as it did. -/
def lockDeathUptoRow : OpenClaim := { program := "ytnfnaefjginnmaa", sum := "047667973b149178e15477601fc124d3d537e4b8a81f6f32ebb6e2d30401c4f6", func := "copyhold/copyholdlaw6.LockDeath", spec := "lockDeath", inPlace := ["internal/abi.NoEscape", "internal/reflectlite.TypeOf"], unfollowed := true, recurses := true, apart := false, narrowed := true }
def LockDeathUptoSaid : Prop := lockDeathUptoRow.holds Try.pinned (OpenSpec.upto lockDeathSpec)

/-- 'copyholdlaw6.LockSlots', WHERE WHAT IT READS IS OF BULK AT MOST 1048576: true; the input reads as it did. -/
def lockSlotsUptoRow : OpenClaim := { program := "ytnfnaefjginnmaa", sum := "047667973b149178e15477601fc124d3d537e4b8a81f6f32ebb6e2d30401c4f6", func := "copyhold/copyholdlaw6.LockSlots", spec := "lockSlots", inPlace := ["internal/abi.NoEscape", "internal/reflectlite.TypeOf"], unfollowed := true, recurses := true, apart := false, narrowed := true }
def LockSlotsUptoSaid : Prop := lockSlotsUptoRow.holds Try.pinned (OpenSpec.upto lockSlotsSpec)

/-- 'copyholdlaw6.LockOldest', WHERE WHAT IT READS IS OF BULK AT MOST 1048576: true; the input reads as it did. -/
def lockOldestUptoRow : OpenClaim := { program := "ytnfnaefjginnmaa", sum := "047667973b149178e15477601fc124d3d537e4b8a81f6f32ebb6e2d30401c4f6", func := "copyhold/copyholdlaw6.LockOldest", spec := "lockOldest", inPlace := ["internal/abi.NoEscape", "internal/reflectlite.TypeOf"], unfollowed := true, recurses := true, apart := false, narrowed := true }
def LockOldestUptoSaid : Prop := lockOldestUptoRow.holds Try.pinned (OpenSpec.upto lockOldestSpec)

/-- 'copyholdlaw6.LockOne', WHERE WHAT IT READS IS OF BULK AT MOST 1048576: true; the input reads as it did. -/
def lockOneUptoRow : OpenClaim := { program := "ytnfnaefjginnmaa", sum := "047667973b149178e15477601fc124d3d537e4b8a81f6f32ebb6e2d30401c4f6", func := "copyhold/copyholdlaw6.LockOne", spec := "lockOne", inPlace := ["internal/abi.NoEscape", "internal/reflectlite.TypeOf"], unfollowed := true, recurses := true, apart := false, narrowed := true }
def LockOneUptoSaid : Prop := lockOneUptoRow.holds Try.pinned (OpenSpec.upto lockOneSpec)

end Rows
end Go.Proofs.Ytnfnaefjginnmaa
