/- A slice of texts that comes in, opened; nil has no room. -/
import Derived.Test.YtehfhacghfagoaaSb
namespace Go.Proofs.Ytehfhacghfagoaa
open Go.ChangeShapes Go.WideShapes Go.ChangeAt Go.RowKit Go.Deep

section
variable {H : Type} {enc : TypeId × Value → H} {w : World} {base : Nat} {spare : Nat → Bool} {held : Bool}
theorem open_strsn {n : Nat} {v : Value} {y : DataW H × List MemPlace} (h : DataW.trod enc Try.prog w base spare held n 22 [v] = some y) : ∃ l, StrsAt w v l ∧ ∀ n c, v = .slice none n c → c = 0 := by
  obtain ⟨l, hl⟩ := open_strs h
  refine ⟨l, hl, fun k c e => ?_⟩
  rcases open_slice1 Try.underlying22 cellsStr h with ⟨hcs, _⟩ | ⟨x, l, c', m, n, V, D, Pl, hcs, _⟩
  · simp only [List.cons.injEq, and_true] at hcs
    subst hcs
    simp only [Value.slice.injEq, true_and] at e
    exact e.2.symm
  · simp only [List.cons.injEq, and_true] at hcs
    subst hcs
    simp at e
end
end Go.Proofs.Ytehfhacghfagoaa
