/- Slices of bytes that come in as arguments, opened. -/
import Derived.Test.YtdjhlgcbjdohiaaHs
import Derived.ProofKit
import Derived.OpenShut
import Derived.ChangeOld
import Derived.Deep.Slices
namespace Go.Proofs.Ytdjhlgcbjdohiaa
open Go.ChangeShapes Go.WideShapes Go.ChangeAt Go.RowKit Go.Deep

section
variable {H : Type} {enc : TypeId × Value → H} {w : World} {base : Nat} {spare : Nat → Bool} {held : Bool}
def byteIn : Value → Int | .int _ n => n | _ => 0
theorem cellsU8 : Try.prog.cellsOf 5 = 1 := by kernel_rfl
theorem open_u8s {n : Nat} {v : Value} {y : DataW H × List MemPlace} (h : DataW.trod enc Try.prog w base spare held n 34 [v] = some y) : ∃ l, BytesAt w v l := by
  rcases open_slice1 Try.underlying34 cellsU8 h with ⟨hcs, _⟩ | ⟨x, l, c, m, n, V, D, Pl, hcs, _, hl, hm, hmm, _, hcell⟩
  · simp only [List.cons.injEq, and_true] at hcs
    subst hcs
    exact ⟨[], none, 0, rfl, by simp, fun i hi => absurd hi (by simp)⟩
  · simp only [List.cons.injEq, and_true] at hcs
    subst hcs
    refine ⟨(List.range l).map fun i => byteIn (V i), some x, c, by simp, by simp; omega, fun i hi => ⟨x, rfl, ?_⟩⟩
    have hi' : i < l := by simpa using hi
    have hm' : i < m := by rw [hmm]; split <;> omega
    obtain ⟨hc, ht⟩ := hcell i hm'
    obtain ⟨y, hy, _, hwf⟩ := DataW.trod_int Try.underlying5 ht
    simp only [List.cons.injEq, and_true] at hy
    have hb := bounds_u8 hwf
    simp only [List.getElem_map, List.getElem_range]
    rw [hc, hy]
    exact ⟨rfl, hb.1, by have := hb.2; simp only [byteIn]; omega⟩
end
end Go.Proofs.Ytdjhlgcbjdohiaa
