/- The steps of LockPlays that come in as arguments, opened. -/
import Derived.Test.YtdjhlgcbjdohiaaDoorUh
import Derived.ProofKit
import Derived.OpenShut
import Derived.ChangeOld
import Derived.Deep.Slices
namespace Go.Proofs.YtdjhlgcbjdohiaaDoor
open Go.ChangeShapes Go.WideShapes Go.ChangeAt Go.RowKit Go.Deep

section
variable {H : Type} {enc : TypeId × Value → H} {w : World} {base : Nat} {spare : Nat → Bool} {held : Bool}
theorem cellsInt : Tryd.prog.cellsOf 3 = 1 := by kernel_rfl
theorem cellsU64 : Tryd.prog.cellsOf 23 = 1 := by kernel_rfl
theorem cellsStep : Tryd.prog.cellsOf 40 = 4 := by kernel_rfl
theorem spot_none {a : Addr} {v : Value} (h : w.cell? a = some v) : a = ⟨a.block, a.off, none⟩ := by
  obtain ⟨b, o, s⟩ := a
  cases s with
  | none => rfl
  | some s =>
    unfold World.cell? at h
    split at h <;> simp at h
theorem fieldW {t : TypeId} {fs : Array Field} {fuel : Nat} {cs : List Value} {x : DataW H × List MemPlace} (ht : Tryd.prog.underlying t = some (.struct fs)) (h : DataW.trod enc Tryd.prog w base spare held fuel t cs = some x) (i : Nat) (f : Field) (hf : fs[i]? = some f) :
    ∃ n y, DataW.trod enc Tryd.prog w base spare held n f.type ((cs.drop f.offset).take (Tryd.prog.cellsOf f.type)) = some y := by
  obtain ⟨xs, n, _, _, _, hlen, hx⟩ := DataW.trod_struct ht h
  have hi : i < xs.length := by rw [hlen]; exact (Array.getElem?_eq_some_iff.1 hf).1
  exact ⟨n, xs[i], by rw [hx i f hf, List.getElem?_eq_getElem hi]⟩
theorem openInt {n : Nat} {c : Value} {y : DataW H × List MemPlace} (h : DataW.trod enc Tryd.prog w base spare held n 3 [c] = some y) : ∃ x, c = .int .i64 x ∧ x < 9223372036854775808 := by
  obtain ⟨a, ea, _, wa⟩ := DataW.trod_int Tryd.underlying3 h
  simp only [List.cons.injEq, and_true] at ea
  have := bounds_i64 wa
  exact ⟨a, ea, by omega⟩
theorem openU64 {n : Nat} {c : Value} {y : DataW H × List MemPlace} (h : DataW.trod enc Tryd.prog w base spare held n 23 [c] = some y) : ∃ x, c = .int .u64 x ∧ 0 ≤ x ∧ x < 18446744073709551616 := by
  obtain ⟨a, ea, _, wa⟩ := DataW.trod_int Tryd.underlying23 h
  simp only [List.cons.injEq, and_true] at ea
  have := bounds_u64 wa
  exact ⟨a, ea, by omega⟩
/-- What a step's numbers are held to. -/
def StepOk (x : StepL) : Prop := x.pid < 9223372036854775808 ∧ 0 ≤ x.txn ∧ x.txn < 18446744073709551616
set_option maxRecDepth 100000 in
/-- One step, of four cells. -/
theorem open_stepL {n : Nat} {c0 c1 c2 c3 : Value} {y : DataW H × List MemPlace} (h : DataW.trod enc Tryd.prog w base spare held n 40 [c0, c1, c2, c3] = some y) :
    ∃ x : StepL, [c0, c1, c2, c3] = stepC x ∧ StepOk x := by
  obtain ⟨_, _, h0⟩ := fieldW Tryd.underlying40 h 0 _ rfl
  obtain ⟨_, _, h1⟩ := fieldW Tryd.underlying40 h 1 _ rfl
  obtain ⟨_, _, h2⟩ := fieldW Tryd.underlying40 h 2 _ rfl
  obtain ⟨_, _, h3⟩ := fieldW Tryd.underlying40 h 3 _ rfl
  simp only [cellsInt, cellsU64, List.getElem_toArray, List.getElem_cons_zero, List.getElem_cons_succ, List.drop, List.take] at h0 h1 h2 h3
  obtain ⟨a0, e0, _⟩ := openInt h0
  obtain ⟨a1, e1, b1⟩ := openInt h1
  obtain ⟨a2, e2, _⟩ := openInt h2
  obtain ⟨a3, e3, b3⟩ := openU64 h3
  refine ⟨⟨a0, a1, a2, a3⟩, ?_, b1, b3⟩
  rw [e0, e1, e2, e3]
  rfl
theorem cells_list4 {cs : List Value} (h : cs.length = 4) : ∃ c0 c1 c2 c3, cs = [c0, c1, c2, c3] := by
  match cs, h with
  | [c0, c1, c2, c3], _ => exact ⟨c0, c1, c2, c3, rfl⟩
theorem add_off {b o n : Nat} : (Addr.mk b o none).add n = ⟨b, o + n, none⟩ := Addr.add_mid ..
theorem open_stepsL {n : Nat} {v : Value} {y : DataW H × List MemPlace} (h : DataW.trod enc Tryd.prog w base spare held n 22 [v] = some y) : ∃ l, StepsL w v l := by
  rcases open_slice Tryd.underlying22 h with ⟨hcs, _⟩ | ⟨x, len, c, m, n, D, Pl, hcs, _, hl, hm, hmm, _, hcell⟩
  · simp only [List.cons.injEq, and_true] at hcs
    subst hcs
    exact ⟨[], none, 0, rfl, by simp, fun i hi => absurd hi (by simp)⟩
  · simp only [List.cons.injEq, and_true] at hcs
    subst hcs
    rw [cellsStep] at hcell
    have hone : ∀ i, i < len → ∃ f : StepL, (∀ j, j < 4 → w.cell? ((x.add (i * 4)).add j) = (stepC f)[j]?) ∧ StepOk f := by
      intro i hi
      have hm' : i < m := by rw [hmm]; split <;> omega
      obtain ⟨cs', h1, h2⟩ := hcell i hm'
      obtain ⟨_, hlen, hc⟩ := World.cells?_some h1
      obtain ⟨c0, c1, c2, c3, rfl⟩ := cells_list4 hlen
      obtain ⟨f, e, hs⟩ := open_stepL h2
      refine ⟨f, fun j hj => ?_, hs⟩
      rw [← e]
      exact hc j hj
    have hall : ∀ i, i < len → ∃ f : StepL, ∃ b o, x = ⟨b, o, none⟩ ∧ b < w.heap.size ∧ w.rangeAt b (o + i * 4) (stepC f) ∧ StepOk f := by
      intro i hi
      obtain ⟨f0, hz, _⟩ := hone 0 (by omega)
      have hx : x = ⟨x.block, x.off, none⟩ := spot_none (v := .int .i64 f0.what) (by simpa [Addr.add, stepC] using hz 0 (by omega))
      obtain ⟨f, g, hs⟩ := hone i hi
      have hr : ∀ j, j < 4 → w.cell? ⟨x.block, x.off + i * 4 + j, none⟩ = (stepC f)[j]? := by
        intro j hj
        have := g j hj
        rw [hx, add_off, add_off] at this
        exact this
      refine ⟨f, x.block, x.off, hx, ?_, ?_, hs⟩
      · exact World.block_lt_of_cell? w ⟨x.block, x.off + i * 4 + 0, none⟩ (u := .int .i64 f.what) (hr 0 (by omega))
      · intro j v hj
        have hj4 : j < 4 := by have := (List.getElem?_eq_some_iff.1 hj).1; simpa [stepC] using this
        rw [hr j hj4]
        exact hj
    haveI : Inhabited StepL := ⟨⟨0, 0, 0, 0⟩⟩
    obtain ⟨F, hF⟩ := choose_lt (α := StepL) (p := fun i f => ∃ b o, x = ⟨b, o, none⟩ ∧ b < w.heap.size ∧ w.rangeAt b (o + i * 4) (stepC f) ∧ StepOk f) hall
    refine ⟨(List.range len).map F, some x, c, by simp, by simp; omega, fun i hi => ?_⟩
    have hi' : i < len := by simpa using hi
    obtain ⟨b, o, e1, e2, e3, e4, e5, e6⟩ := hF i hi'
    simp only [List.getElem_map, List.getElem_range]
    exact ⟨b, o, by rw [e1], e2, e3, e4, e5, e6⟩
end
end Go.Proofs.YtdjhlgcbjdohiaaDoor
