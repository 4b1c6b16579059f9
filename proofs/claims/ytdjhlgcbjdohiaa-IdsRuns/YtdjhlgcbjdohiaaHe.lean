/- Contract of package ids' With. -/
import Derived.Test.YtdjhlgcbjdohiaaHd
namespace Go.Proofs.Ytdjhlgcbjdohiaa
open Go.RowKit

set_option maxRecDepth 10000 in
set_option maxHeartbeats 1000000 in
theorem with_any7 (a : List Int) (x : Int) (ao : Option Addr) (ca n : Nat) (hn : n = a.length) (w : World) (ha : RowAt w ao ca a) (hl : a.length ≤ 800) :
    Calls Try.prog 15 #[.slice ao n ca, .int .i64 x] w fun e w' => ∃ u, e = .returned u ∧ OwnInts w' w.heap.size u (mergeL a [x]) ∧ Below w.heap.size w w' := by
  subst hn
  have bA := (Below.refl w.heap.size w).alloc (Nat.le_refl _) (.cells #[.int .i64 x] 3)
  have hB : RowAt (w.alloc (.cells #[.int .i64 x] 3)) (some ⟨w.heap.size, 0, none⟩) 1 [x] := by
    refine ⟨by simp, (fun e => by cases e), (fun a e _ => ⟨_, _, by simpa using e.symm⟩), fun i hi => ⟨_, _, rfl, ?_⟩⟩
    have h0 : i = 0 := by simpa using hi
    subst h0
    rw [cell_rowL (heap_newL w _)]
    rfl
  have C1 := hid (both_any a [x] ao _ ca 1 a.length 1 rfl rfl _ (ha.below bA (Nat.le_refl _)) hB (by simp; omega))
  replace bA := hid bA
  have hs1 : w.heap.size ≤ (w.alloc (.cells #[.int .i64 x] 3)).heap.size := by simp
  clear hB ha
  go_enter Try.func15, Try.ntmps15
  go_wp2_with fail
  refine C1.out.mono ?_
  rintro e w1 ⟨u, rfl, h1, b1⟩
  replace h1 := hid (h1.mono hs1)
  have hb := hid (bA.out.trans (b1.mono hs1))
  clear b1 hs1 C1 bA
  obtain ⟨uo, uc, rfl⟩ := h1.out.slice
  go_wp2
  go_ret
  exact ⟨_, rfl, h1.out, hb.out⟩
end Go.Proofs.Ytdjhlgcbjdohiaa
