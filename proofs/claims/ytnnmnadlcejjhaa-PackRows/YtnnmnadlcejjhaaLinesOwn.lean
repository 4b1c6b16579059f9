/- Of every rows of numbers and texts, every place and every byte, PackRows returns true: what is put one behind the other is taken one by one, and one byte changed changes the sum; no condition. -/
import Derived.Test.YtnnmnadlcejjhaaLines
import Derived.ProofKit
import Derived.OpenShut
import Derived.ShutString
import Derived.ChangeOld
import Derived.Below
import Derived.Deep.Slices
namespace Go.Proofs.Ytnnmnadlcejjhaa
open Go.ChangeShapes Go.WideShapes Go.ChangeAt Go.RowKit

namespace LinesOwn
theorem own : ownKnob Try.prog.godebug = none := by kernel_rfl
theorem laidOut : laidOutB Try.prog = true := by kernel_rfl

/-- A slice of numbers that came in. -/
def IsNums (w : World) (a : Option Addr) (len : Nat) (z : Nat → Int) : Prop :=
  len ≤ maxLen ∧ ∀ i, i < len → ∃ x, a = some x ∧ w.cell? (x.add i) = some (.int .u64 (z i)) ∧ 0 ≤ z i ∧ z i < 18446744073709551616
/-- A slice of texts that came in. -/
def IsTexts (w : World) (a : Option Addr) (len : Nat) (t : Nat → ByteArray) : Prop :=
  len ≤ maxLen ∧ ∀ i, i < len → ∃ x, a = some x ∧ w.cell? (x.add i) = some (.string (t i)) ∧ (t i).size ≤ maxLen
def intIn : Value → Int | .int _ n => n | _ => 0
def textIn : Value → ByteArray | .string s => s | _ => ⟨#[]⟩

theorem walk (aN aS : Option Addr) (ln cn ls cs : Nat) (p q : Int) (z : Nat → Int) (t : Nat → ByteArray) (w : World) (w0 : IsNums w aN ln z) (w1 : IsTexts w aS ls t) (w2 : (Lit.int .u8 p).wf = true) (w3 : (Lit.int .u8 q).wf = true) :
    Calls Try.prog 4 #[.slice aN ln cn, .slice aS ls cs, .int .u8 p, .int .u8 q] w fun e w' => e = .returned (.bool true) ∧ Below w.heap.size w w' := by
  have h2 := bounds_u8 w2
  have h3 := bounds_u8 w3
  by_cases hlong : 20 < ln ∨ 20 < ls
  · exact rows_long aN aS ln cn ls cs p q w w0.1 w1.1 hlong
  · exact rows_main aN aS ln cn ls cs p q z t w (by omega) (by omega) h2.1 (by omega) h3.1 (by omega) w0.2 w1.2

set_option maxRecDepth 100000 in
theorem lifted (os : Os) (started : os.Started) (H : Type) (enc : TypeId × Value → H) :
    ReturnsInHanded {} Try.checked os 4 .any (Rows.packRowsSpec.pre6 enc Try.prog Try.f4 Rows.packRowsRow.domain false) (Rows.packRowsSpec.post enc Try.prog Try.f4 false true false false) := by
  refine returnsInHanded_of_change (C := Try.checked) own started (by kernel_rfl) Try.func4
    (ChangeSpec.witness6 (enc := enc) (C := Try.checked) false ⟨#[], #[.slice none 0 0, .slice none 0 0, .int .u8 0, .int .u8 0], []⟩ 8 (by kernel_rfl) (by kernel_rfl) (by kernel_rfl) (by kernel_rfl)) ?_
  intro W base args ds gs before hval0 hW hcnd _
  have hval : ∀ (j : Nat) t v, Try.f4.params[j]? = some t → args[j]? = some v → Value.okWide Try.prog W .any base t v := hval0
  have hW' := hW
  obtain ⟨p, q, hA0, hV, rfl, hfz, hnd⟩ := hW
  have hA : DataW.TrodAll enc Try.prog W 0 (fun _ => true) true Try.f4.params.toList args.toList ds p := hA0
  rw [Try.params4] at hA hval
  obtain ⟨v0, vs0, d0, ds0, p0, q0, hargs, rfl, rfl, h0, r0⟩ := trodAll_cons hA
  obtain ⟨v1, vs1, d1, ds1, p1, q1, rfl, rfl, rfl, h1, r1⟩ := trodAll_cons r0
  obtain ⟨v2, vs2, d2, ds2, p2, q2, rfl, rfl, rfl, h2, r2⟩ := trodAll_cons r1
  obtain ⟨v3, vs3, d3, ds3, p3, q3, rfl, rfl, rfl, h3, r3⟩ := trodAll_cons r2
  obtain ⟨rfl, rfl, rfl⟩ := trodAll_nil r3
  obtain rfl : args = #[v0, v1, v2, v3] := by cases args; simp_all
  obtain ⟨rfl, rfl⟩ := trodVars_none hV
  obtain ⟨a0, len0, cap0, rfl⟩ := okWide_slice Try.underlying40 (hval 0 40 v0 rfl rfl)
  have k0 := h0
  have lt0 : ∀ x ∈ p0, x.block < W.heap.size := by obtain ⟨m, hm⟩ := k0; exact DataW.trod_lt m _ _ _ hm
  obtain ⟨z, w0⟩ : ∃ z, IsNums W a0 len0 z := by
    obtain ⟨fuel, hf⟩ := h0
    rcases Go.Deep.open_slice1 Try.underlying40 (by kernel_rfl) hf with ⟨hcs, _⟩ | ⟨x, l, c, m, n, V, D, Pl, hcs, _, hl, hm, hmm, _, hcell⟩
    · simp [Value.cells] at hcs
      obtain ⟨rfl, rfl, rfl⟩ := hcs
      exact ⟨fun _ => 0, Nat.zero_le _, fun i hi => absurd hi (Nat.not_lt_zero i)⟩
    · simp [Value.cells] at hcs
      obtain ⟨rfl, rfl, rfl⟩ := hcs
      refine ⟨fun i => intIn (V i), by omega, fun i hi => ?_⟩
      obtain ⟨hc, ht⟩ := hcell i (by rw [hmm]; simp; omega)
      obtain ⟨y, hy, _, hwf⟩ := DataW.trod_int Try.underlying22 ht
      simp only [List.cons.injEq, and_true] at hy
      have hb := bounds_u64 hwf
      refine ⟨x, rfl, ?_, ?_, ?_⟩
      · rw [hc]
        show _ = some (Value.int .u64 (intIn (V i)))
        rw [hy]
        rfl
      · show 0 ≤ intIn (V i)
        rw [hy]
        exact hb.1
      · show intIn (V i) < _
        rw [hy]
        show y < _
        omega
  obtain ⟨a1, len1, cap1, rfl⟩ := okWide_slice Try.underlying41 (hval 1 41 v1 rfl rfl)
  have k1 := h1
  have lt1 : ∀ x ∈ p1, x.block < W.heap.size := by obtain ⟨m, hm⟩ := k1; exact DataW.trod_lt m _ _ _ hm
  obtain ⟨t, w1⟩ : ∃ t, IsTexts W a1 len1 t := by
    obtain ⟨fuel, hf⟩ := h1
    rcases Go.Deep.open_slice1 Try.underlying41 (by kernel_rfl) hf with ⟨hcs, _⟩ | ⟨x, l, c, m, n, V, D, Pl, hcs, _, hl, hm, hmm, _, hcell⟩
    · simp [Value.cells] at hcs
      obtain ⟨rfl, rfl, rfl⟩ := hcs
      exact ⟨fun _ => ⟨#[]⟩, Nat.zero_le _, fun i hi => absurd hi (Nat.not_lt_zero i)⟩
    · simp [Value.cells] at hcs
      obtain ⟨rfl, rfl, rfl⟩ := hcs
      refine ⟨fun i => textIn (V i), by omega, fun i hi => ?_⟩
      obtain ⟨hc, ht⟩ := hcell i (by rw [hmm]; simp; omega)
      obtain ⟨y, hy, _, hsz⟩ := DataW.trod_string Try.underlying9 ht
      simp only [List.cons.injEq, and_true] at hy
      refine ⟨x, rfl, ?_, ?_⟩
      · rw [hc]
        show _ = some (Value.string (textIn (V i)))
        rw [hy]
        rfl
      · show (textIn (V i)).size ≤ _
        rw [hy]
        exact hsz
  obtain ⟨a2, rfl, rfl, rfl, w2⟩ := open_int Try.underlying5 (hval 2 5 v2 rfl rfl) h2
  obtain ⟨a3, rfl, rfl, rfl, w3⟩ := open_int Try.underlying5 (hval 3 5 v3 rfl rfl) h3
  clear hA0 hval0
  refine (walk a0 a1 len0 cap0 len1 cap1 a2 a3 z t W w0 w1 w2 w3).mono fun e W' ⟨he, bel⟩ => ?_
  subst he
  exact ⟨_, rfl, _, _, _, [], _, [], hW', trodAll_mk1 (shut_bool Try.underlying4 _), (trodAll_cons_mk (Below.trod laidOut (by kernel_rfl) (of_decide_eq_true (by kernel_rfl)) k0 bel lt0) (trodAll_cons_mk (Below.trod laidOut (by kernel_rfl) (of_decide_eq_true (by kernel_rfl)) k1 bel lt1) (trodAll_cons_mk (shut_int Try.underlying5 w2) (trodAll_cons_mk (shut_int Try.underlying5 w3) trodAll_mk0)))), rfl, bel.frame _, fun h => by cases h⟩
end LinesOwn

theorem packRows_holds : Rows.PackRowsSaid :=
  OpenClaim.holds_of_wide 4 Try.f4 rfl rfl rfl rfl rfl rfl rfl ⟨rfl, rfl, rfl, rfl, rfl⟩ rfl rfl rfl rfl rfl (by kernel_rfl) Try.func4 (by kernel_rfl)
    (of_decide_eq_true (by kernel_rfl)) (by unfold Func.isWrapper; first | (rw [if_pos (by decide +kernel)]; kernel_rfl) | (rw [if_neg (by decide +kernel)]; exact ⟨rfl, rfl⟩))
    (fun os started H enc _ => LinesOwn.lifted os started H enc)
#print axioms packRows_holds
end Go.Proofs.Ytnnmnadlcejjhaa
