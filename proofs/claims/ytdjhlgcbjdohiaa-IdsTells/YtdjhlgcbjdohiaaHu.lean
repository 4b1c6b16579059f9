/- Slices of numbers that come in as arguments, opened. -/
import Derived.Test.YtdjhlgcbjdohiaaHt
import Derived.ProofKit
import Derived.OpenShut
import Derived.ChangeOld
import Derived.Deep.Slices
namespace Go.Proofs.Ytdjhlgcbjdohiaa
open Go.ChangeShapes Go.WideShapes Go.ChangeAt Go.RowKit Go.Deep

section
variable {H : Type} {enc : TypeId × Value → H} {w : World} {base : Nat} {held : Bool}
def numIn : Value → Int | .int _ n => n | _ => 0
theorem cellsInt : Try.prog.cellsOf 3 = 1 := by kernel_rfl
theorem spot_none {a : Addr} {v : Value} (h : w.cell? a = some v) : a = ⟨a.block, a.off, none⟩ := by
  obtain ⟨b, o, s⟩ := a
  cases s with
  | none => rfl
  | some s =>
    unfold World.cell? at h
    split at h <;> simp at h
theorem open_rows7 {n : Nat} {v : Value} {y : DataW H × List MemPlace} (h : DataW.trod enc Try.prog w base (fun _ => true) held n 22 [v] = some y) : ∃ l, RowsAt w v l := by
  rcases open_slice1 Try.underlying22 cellsInt h with ⟨hcs, _⟩ | ⟨x, l, c, m, n, V, D, Pl, hcs, _, hl, hm, hmm, _, hcell⟩
  · simp only [List.cons.injEq, and_true] at hcs
    subst hcs
    exact ⟨[], none, 0, rfl, RowAt.nil w, fun x hx => absurd hx (by simp)⟩
  · simp only [List.cons.injEq, and_true] at hcs
    subst hcs
    have hmc : m = c := by simpa using hmm
    have hsp : 0 < c → x = ⟨x.block, x.off, none⟩ := by
      intro h0
      have h1 := spot_none (hcell 0 (by omega)).1
      rw [show x.add 0 = x by simp [Addr.add]] at h1
      exact h1
    have hv : ∀ i, i < l → ∃ z, V i = .int .i64 z ∧ -9223372036854775808 ≤ z ∧ z ≤ 9223372036854775807 := by
      intro i hi
      obtain ⟨hc, ht⟩ := hcell i (by omega)
      obtain ⟨z, hz, _, hwf⟩ := DataW.trod_int Try.underlying3 ht
      simp only [List.cons.injEq, and_true] at hz
      exact ⟨z, hz, bounds_i64 hwf⟩
    refine ⟨(List.range l).map fun i => numIn (V i), some x, c, by simp, ⟨by simp; omega, (fun e => by cases e), (fun a e h0 => ?_), fun i hi => ?_⟩, fun z hz => ?_⟩
    · simp only [Option.some.injEq] at e
      subst e
      exact ⟨_, _, hsp h0⟩
    · have hi' : i < l := by simpa using hi
      have hx := hsp (by omega)
      obtain ⟨z, hz, _⟩ := hv i hi'
      refine ⟨x.block, x.off, by rw [← hx], ?_⟩
      have hc := (hcell i (by omega)).1
      rw [hx, Addr.add_mid] at hc
      rw [hc, hz]
      simp [List.getD, hi', hz, numIn]
    · simp only [List.mem_map, List.mem_range] at hz
      obtain ⟨i, hi, rfl⟩ := hz
      obtain ⟨z, hz, h1, h2⟩ := hv i hi
      rw [hz]
      simp only [numIn]
      omega
end
end Go.Proofs.Ytdjhlgcbjdohiaa
