/- Slices of texts and of steps that come in as arguments, opened. -/
import Derived.Test.YtehfhacghfagoaaSa
import Derived.ProofKit
import Derived.OpenShut
import Derived.ShutString
import Derived.ChangeOld
import Derived.Deep.Slices
namespace Go.Proofs.Ytehfhacghfagoaa
open Go.ChangeShapes Go.WideShapes Go.ChangeAt Go.RowKit Go.Deep

section
variable {H : Type} {enc : TypeId × Value → H} {w : World} {base : Nat} {spare : Nat → Bool} {held : Bool}
def boolIn : Value → Bool | .bool b => b | _ => false
def textIn : Value → ByteArray | .string s => s | _ => ⟨#[]⟩
theorem cellsStr : Try.prog.cellsOf 9 = 1 := by kernel_rfl
theorem cellsInt : Try.prog.cellsOf 3 = 1 := by kernel_rfl
theorem cellsBool : Try.prog.cellsOf 4 = 1 := by kernel_rfl
theorem cellsBools : Try.prog.cellsOf 29 = 1 := by kernel_rfl
theorem cellsStep : Try.prog.cellsOf 31 = 4 := by kernel_rfl
theorem open_strs {n : Nat} {v : Value} {y : DataW H × List MemPlace} (h : DataW.trod enc Try.prog w base spare held n 22 [v] = some y) : ∃ l, StrsAt w v l := by
  rcases open_slice1 Try.underlying22 cellsStr h with ⟨hcs, _⟩ | ⟨x, l, c, m, n, V, D, Pl, hcs, _, hl, hm, hmm, _, hcell⟩
  · simp only [List.cons.injEq, and_true] at hcs
    subst hcs
    exact ⟨[], strs_nil w⟩
  · simp only [List.cons.injEq, and_true] at hcs
    subst hcs
    refine ⟨(List.range l).map fun i => textIn (V i), some x, c, by simp, ⟨by simp; omega, by simpa using hl⟩, fun i hi => ⟨x, rfl, ?_⟩⟩
    have hi' : i < l := by simpa using hi
    have hm' : i < m := by rw [hmm]; split <;> omega
    obtain ⟨hc, ht⟩ := hcell i hm'
    obtain ⟨y, hy, _, hsz⟩ := DataW.trod_string Try.underlying9 ht
    simp only [List.cons.injEq, and_true] at hy
    simp only [List.getElem_map, List.getElem_range]
    rw [hc, hy]
    exact ⟨rfl, hsz⟩
theorem open_bools {n : Nat} {v : Value} {y : DataW H × List MemPlace} (h : DataW.trod enc Try.prog w base spare held n 29 [v] = some y) : ∃ l, BoolsAt w v l := by
  rcases open_slice1 Try.underlying29 cellsBool h with ⟨hcs, _⟩ | ⟨x, l, c, m, n, V, D, Pl, hcs, _, hl, hm, hmm, _, hcell⟩
  · simp only [List.cons.injEq, and_true] at hcs
    subst hcs
    exact ⟨[], bools_nil w⟩
  · simp only [List.cons.injEq, and_true] at hcs
    subst hcs
    refine ⟨(List.range l).map fun i => boolIn (V i), some x, c, by simp, ⟨by simp; omega, by simpa using hl⟩, fun i hi => ⟨x, rfl, ?_⟩⟩
    have hi' : i < l := by simpa using hi
    have hm' : i < m := by rw [hmm]; split <;> omega
    obtain ⟨hc, ht⟩ := hcell i hm'
    obtain ⟨y, hy, _⟩ := DataW.trod_bool Try.underlying4 ht
    simp only [List.cons.injEq, and_true] at hy
    simp only [List.getElem_map, List.getElem_range]
    rw [hc, hy]
    rfl
theorem spot_none {a : Addr} {v : Value} (h : w.cell? a = some v) : a = ⟨a.block, a.off, none⟩ := by
  obtain ⟨b, o, s⟩ := a
  cases s with
  | none => rfl
  | some s =>
    unfold World.cell? at h
    split at h <;> simp at h
theorem fieldW {t : TypeId} {fs : Array Field} {fuel : Nat} {cs : List Value} {x : DataW H × List MemPlace} (ht : Try.prog.underlying t = some (.struct fs)) (h : DataW.trod enc Try.prog w base spare held fuel t cs = some x) (i : Nat) (f : Field) (hf : fs[i]? = some f) :
    ∃ n y, DataW.trod enc Try.prog w base spare held n f.type ((cs.drop f.offset).take (Try.prog.cellsOf f.type)) = some y := by
  obtain ⟨xs, n, _, _, _, hlen, hx⟩ := DataW.trod_struct ht h
  have hi : i < xs.length := by rw [hlen]; exact (Array.getElem?_eq_some_iff.1 hf).1
  exact ⟨n, xs[i], by rw [hx i f hf, List.getElem?_eq_getElem hi]⟩
theorem openInt {n : Nat} {c : Value} {y : DataW H × List MemPlace} (h : DataW.trod enc Try.prog w base spare held n 3 [c] = some y) : ∃ x, c = .int .i64 x := by
  obtain ⟨a, ea, _, _⟩ := DataW.trod_int Try.underlying3 h
  simp only [List.cons.injEq, and_true] at ea
  exact ⟨a, ea⟩
theorem openStr {n : Nat} {c : Value} {y : DataW H × List MemPlace} (h : DataW.trod enc Try.prog w base spare held n 9 [c] = some y) : ∃ x, c = .string x ∧ x.size ≤ maxLen := by
  obtain ⟨a, ea, _, wa⟩ := DataW.trod_string Try.underlying9 h
  simp only [List.cons.injEq, and_true] at ea
  exact ⟨a, ea, wa⟩
set_option maxRecDepth 100000 in
/-- One step, of four cells. -/
theorem open_step {n : Nat} {c0 c1 c2 c3 : Value} {y : DataW H × List MemPlace} (h : DataW.trod enc Try.prog w base spare held n 31 [c0, c1, c2, c3] = some y) :
    ∃ (x : StepD) (u : Value), [c0, c1, c2, c3] = stepC x u ∧ BoolsAt w u x.keep ∧ x.s.size ≤ maxLen := by
  obtain ⟨_, _, h0⟩ := fieldW Try.underlying31 h 0 _ rfl
  obtain ⟨_, _, h1⟩ := fieldW Try.underlying31 h 1 _ rfl
  obtain ⟨_, _, h2⟩ := fieldW Try.underlying31 h 2 _ rfl
  obtain ⟨_, _, h3⟩ := fieldW Try.underlying31 h 3 _ rfl
  simp only [cellsStr, cellsInt, cellsBools, List.getElem_toArray, List.getElem_cons_zero, List.getElem_cons_succ, List.drop, List.take] at h0 h1 h2 h3
  obtain ⟨a0, e0⟩ := openInt h0
  obtain ⟨a1, e1⟩ := openInt h1
  obtain ⟨a2, e2, s2⟩ := openStr h2
  obtain ⟨a3, e3⟩ := open_bools h3
  refine ⟨⟨a0, a1, a2, a3⟩, c3, ?_, e3, s2⟩
  rw [e0, e1, e2]
  rfl
theorem cells_list4 {cs : List Value} (h : cs.length = 4) : ∃ c0 c1 c2 c3, cs = [c0, c1, c2, c3] := by
  match cs, h with
  | [c0, c1, c2, c3], _ => exact ⟨c0, c1, c2, c3, rfl⟩
theorem add_off {b o n : Nat} : (Addr.mk b o none).add n = ⟨b, o + n, none⟩ := Addr.add_mid ..
theorem open_steps {n : Nat} {v : Value} {y : DataW H × List MemPlace} (h : DataW.trod enc Try.prog w base spare held n 23 [v] = some y) : ∃ l, StepsAt w v l := by
  rcases open_slice Try.underlying23 h with ⟨hcs, _⟩ | ⟨x, len, c, m, n, D, Pl, hcs, _, hl, hm, hmm, _, hcell⟩
  · simp only [List.cons.injEq, and_true] at hcs
    subst hcs
    exact ⟨[], steps_nil w⟩
  · simp only [List.cons.injEq, and_true] at hcs
    subst hcs
    rw [cellsStep] at hcell
    have hall : ∀ i, i < len → ∃ f : StepD, ∃ b o u, x = ⟨b, o, none⟩ ∧ b < w.heap.size ∧ w.rangeAt b (o + i * 4) (stepC f u) ∧ BoolsAt w u f.keep ∧ f.s.size ≤ maxLen := by
      have hone : ∀ i, i < len → ∃ (f : StepD) (u : Value), (∀ j, j < 4 → w.cell? ((x.add (i * 4)).add j) = (stepC f u)[j]?) ∧ BoolsAt w u f.keep ∧ f.s.size ≤ maxLen := by
        intro i hi
        have hm' : i < m := by rw [hmm]; split <;> omega
        obtain ⟨cs', h1, h2⟩ := hcell i hm'
        obtain ⟨_, hlen, hc⟩ := World.cells?_some h1
        obtain ⟨c0, c1, c2, c3, rfl⟩ := cells_list4 hlen
        obtain ⟨f, u, e, hb, hs⟩ := open_step h2
        refine ⟨f, u, fun j hj => ?_, hb, hs⟩
        rw [← e]
        exact hc j hj
      intro i hi
      obtain ⟨f0, u0, hz, _⟩ := hone 0 (by omega)
      have hx : x = ⟨x.block, x.off, none⟩ := spot_none (v := .int .i64 f0.what) (by simpa [Addr.add, stepC] using hz 0 (by omega))
      obtain ⟨f, u, g, hb, hs⟩ := hone i hi
      have hr : ∀ j, j < 4 → w.cell? ⟨x.block, x.off + i * 4 + j, none⟩ = (stepC f u)[j]? := by
        intro j hj
        have := g j hj
        rw [hx, add_off, add_off] at this
        exact this
      refine ⟨f, x.block, x.off, u, hx, ?_, ?_, hb, hs⟩
      · exact World.block_lt_of_cell? w ⟨x.block, x.off + i * 4 + 0, none⟩ (u := .int .i64 f.what) (hr 0 (by omega))
      · intro j v hj
        have hj4 : j < 4 := by have := (List.getElem?_eq_some_iff.1 hj).1; simpa [stepC] using this
        rw [hr j hj4]
        exact hj
    haveI : Inhabited StepD := ⟨⟨0, 0, ⟨#[]⟩, []⟩⟩
    obtain ⟨F, hF⟩ := choose_lt (α := StepD) (p := fun i f => ∃ b o u, x = ⟨b, o, none⟩ ∧ b < w.heap.size ∧ w.rangeAt b (o + i * 4) (stepC f u) ∧ BoolsAt w u f.keep ∧ f.s.size ≤ maxLen) hall
    refine ⟨(List.range len).map F, some x, c, by simp, by simp; omega, fun i hi => ?_⟩
    have hi' : i < len := by simpa using hi
    obtain ⟨b, o, u, e1, e2, e3, e4, e5⟩ := hF i hi'
    simp only [List.getElem_map, List.getElem_range]
    exact ⟨b, o, u, by rw [e1], e2, e3, e4, e5⟩
end
end Go.Proofs.Ytehfhacghfagoaa
