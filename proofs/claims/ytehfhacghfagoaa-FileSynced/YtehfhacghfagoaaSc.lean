/- A slice of texts that comes in, opened, with the texts' lengths. -/
import Derived.Test.YtehfhacghfagoaaSb
import Derived.SizedLaws
namespace Go.Proofs.Ytehfhacghfagoaa
open Go.ChangeShapes Go.WideShapes Go.ChangeAt Go.RowKit Go.Deep

section
variable {H : Type} {enc : TypeId × Value → H} {w : World} {base : Nat} {spare : Nat → Bool} {held : Bool}
theorem weights_mem_all {P : Program} {e : TypeId} : ∀ {l : List (DataW H)} {d : DataW H}, d ∈ l → ∀ x ∈ d.weights P e, x ∈ DataW.weightsAll P e l
  | [], _, h, _, _ => by cases h
  | c :: l, d, h, x, hx => by
    rw [DataW.weightsAll, List.mem_append]
    rcases List.mem_cons.1 h with rfl | h'
    · exact .inl hx
    · exact .inr (weights_mem_all h' x hx)
theorem open_strsz {n : Nat} {v : Value} {d : DataW H} {p : List MemPlace} (h : DataW.trod enc Try.prog w base spare held n 22 [v] = some (d, p)) (hw : ∀ x ∈ d.weights Try.prog 22, x ≤ reachBytes) : ∃ l, StrsAt w v l ∧ ∀ i (h : i < l.length), l[i].size ≤ 140737488355328 := by
  rcases open_slice1 Try.underlying22 cellsStr h with ⟨hcs, _⟩ | ⟨x, l, c, m, n, V, D, Pl, hcs, _, hl, hm, hmm, hd, hcell⟩
  · simp only [List.cons.injEq, and_true] at hcs
    subst hcs
    exact ⟨[], strs_nil w, fun i hi => absurd hi (by simp)⟩
  · simp only [List.cons.injEq, and_true] at hcs
    subst hcs
    simp only [Prod.mk.injEq] at hd
    obtain ⟨rfl, _⟩ := hd
    refine ⟨(List.range l).map fun i => textIn (V i), ⟨some x, c, by simp, ⟨by simp; omega, by simpa using hl⟩, fun i hi => ⟨x, rfl, ?_⟩⟩, fun i hi => ?_⟩
    · have hi' : i < l := by simpa using hi
      have hm' : i < m := by rw [hmm]; split <;> omega
      obtain ⟨hc, ht⟩ := hcell i hm'
      obtain ⟨y, hy, _, hsz⟩ := DataW.trod_string Try.underlying9 ht
      simp only [List.cons.injEq, and_true] at hy
      simp only [List.getElem_map, List.getElem_range]
      rw [hc, hy]
      exact ⟨rfl, hsz⟩
    · have hi' : i < l := by simpa using hi
      have hm' : i < m := by rw [hmm]; split <;> omega
      obtain ⟨hc, ht⟩ := hcell i hm'
      obtain ⟨y, hy, hD, hsz⟩ := DataW.trod_string Try.underlying9 ht
      simp only [List.cons.injEq, and_true] at hy
      simp only [List.getElem_map, List.getElem_range, hy, textIn]
      simp only [Prod.mk.injEq] at hD
      have := hw y.data.toList.length (by
        simp only [DataW.weights, Try.underlying22, List.mem_cons, List.mem_append]
        refine .inr (.inl (weights_mem_all (d := D i) (by simp; exact ⟨i, hi', rfl⟩) _ ?_))
        rw [hD.1]
        simp [DataW.weights])
      have hr : reachBytes ≤ 140737488355328 := by decide
      have e : y.size = y.data.toList.length := by rw [Array.length_toList]; rfl
      omega
end
end Go.Proofs.Ytehfhacghfagoaa
