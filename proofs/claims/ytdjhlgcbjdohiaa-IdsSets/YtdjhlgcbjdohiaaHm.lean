/- known: what the statements of layer 7 ask of every program first. -/
import Derived.Test.YtdjhlgcbjdohiaaHg
import Derived.Test.YtdjhlgcbjdohiaaYb
namespace Go.Proofs.Ytdjhlgcbjdohiaa
open Go.RowKit

/-- A slice that was just written out. -/
theorem row_lit (w : World) (xs : List Int) (n : Nat) (hn : n = xs.length) : RowAt (w.alloc (.cells (intCells xs).toArray 3)) (some ⟨w.heap.size, 0, none⟩) n xs := by
  refine ⟨by omega, (fun e => by cases e), (fun a e _ => ⟨_, _, by simpa using e.symm⟩), fun i hi => ⟨_, _, rfl, ?_⟩⟩
  rw [cell_rowL (heap_newL w _), Nat.zero_add]
  simp [intCells, List.getD, hi]
theorem below_new {w0 w : World} (h : Below w0.heap.size w0 w) (o : Obj) : Below w0.heap.size w0 (w.alloc o) := h.alloc h.size o
/-- Behind a call that turned nothing but new memory. -/
theorem below_call {w0 w w' : World} (h : Below w0.heap.size w0 w) (h2 : Below w.heap.size w w') : Below w0.heap.size w0 w' := h.trans (h2.mono h.size)
theorem RowAt.call {w w' : World} {ao : Option Addr} {cap : Nat} {l : List Int} (h : RowAt w ao cap l) (hb : Below w.heap.size w w') : RowAt w' ao cap l := h.below hb (Nat.le_refl _)
theorem RowAt.new {w : World} {ao : Option Addr} {cap : Nat} {l : List Int} (h : RowAt w ao cap l) (o : Obj) : RowAt (w.alloc o) ao cap l := h.call ((Below.refl _ _).alloc (Nat.le_refl _) o)
def kl : List Int := [2, 4, 5, 9]
theorem kl_up : Up kl := isUp_true.1 (by decide)
theorem kl_fit : Fit kl := by
  intro x hx
  simp [kl] at hx
  omega
theorem kl_run2 : RunIs kl 2 4 true := .inl ⟨rfl, 1, by unfold RunI; decide, by decide, by unfold RunI; decide⟩
theorem kl_run3 : RunIs kl 3 0 false := .inr ⟨rfl, rfl, fun i hr => by
  have h1 := hr.2.1
  have h2 : i < 2 := by simp [kl] at h1; omega
  have h3 : ∀ i, i < 2 → ¬ RunI kl 3 i := by unfold RunI; decide
  exact h3 i h2 hr⟩
theorem kl_cells (w : World) : RowAt (w.alloc (.cells #[.int .i64 2, .int .i64 4, .int .i64 5, .int .i64 9] 3)) (some ⟨w.heap.size, 0, none⟩) 4 kl := row_lit w kl 4 rfl

set_option maxRecDepth 10000 in
set_option maxHeartbeats 4000000 in
theorem known_any (w : World) :
    Calls Try.prog 7 #[] w fun e w' => e = .returned (.bool true) ∧ Below w.heap.size w w' := by
  have K0 := hid (kl_cells w)
  have B0 := hid (below_new (Below.refl w.heap.size w) (.cells #[.int .i64 2, .int .i64 4, .int .i64 5, .int .i64 9] 3))
  go_enter Try.func7, Try.ntmps7
  go_wp2_with fail
  generalize w.alloc (.cells #[.int .i64 2, .int .i64 4, .int .i64 5, .int .i64 9] 3) = w0 at *
  refine (run_any7 kl 2 _ 4 4 rfl w0 K0.out (by decide) kl_fit kl_up (by omega)).mono ?_
  rintro e w1 ⟨x, ok, rfl, hr, b⟩
  obtain ⟨rfl, rfl⟩ := hr.one kl_run2
  have K1 := hid (K0.out.call b)
  have B1 := hid (below_call B0.out b)
  clear K0 B0 b hr w0
  go_wp2_with fail
  refine (run_any7 kl 3 _ 4 4 rfl w1 K1.out (by decide) kl_fit kl_up (by omega)).mono ?_
  rintro e w2 ⟨x, ok, rfl, hr, b⟩
  obtain ⟨rfl, rfl⟩ := hr.one kl_run3
  have K2 := hid (K1.out.call b)
  have B2 := hid (below_call B1.out b)
  clear K1 B1 b hr w1
  go_wp2_with fail
  refine (is_any kl _ 4 4 rfl w2 K2.out (by decide)).mono ?_
  rintro e w3 ⟨rfl, b⟩
  rw [show isUp kl = true by decide]
  have K3 := hid (K2.out.call b)
  have B3 := hid (below_call B2.out b)
  clear K2 B2 b w2
  have K4 := hid (K3.out.new (.cells #[.int .i64 2, .int .i64 2] 3))
  have B4 := hid (below_new B3.out (.cells #[.int .i64 2, .int .i64 2] 3))
  have R4 := hid (row_lit w3 [2, 2] 2 rfl)
  clear K3 B3
  go_wp2_with fail
  refine (is_any [2, 2] _ 2 2 rfl _ R4.out (by decide)).mono ?_
  rintro e w5 ⟨rfl, b⟩
  rw [show isUp [2, 2] = false by decide]
  have K5 := hid (K4.out.call b)
  have B5 := hid (below_call B4.out b)
  clear K4 B4 R4 b
  go_wp2_with fail
  refine (has_any7 kl 5 _ 4 4 rfl _ K5.out (by decide) kl_up).mono ?_
  rintro e w6 ⟨rfl, b⟩
  rw [show kl.contains 5 = true by decide]
  have K6 := hid (K5.out.call b)
  have B6 := hid (below_call B5.out b)
  clear K5 B5 b w5
  go_wp2_with fail
  refine (with_any7 kl 3 _ 4 4 rfl _ K6.out (by decide)).mono ?_
  rintro e w7 ⟨u, rfl, hu, b⟩
  rw [show mergeL kl [3] = [2, 3, 4, 5, 9] by decide +kernel] at hu
  obtain ⟨uo, uc, rfl⟩ := hu.slice
  have K7 := hid (K6.out.call b)
  have B7 := hid (below_call B6.out b)
  clear K6 B6 b w6 hu
  go_wp2_with fail
  refine (without_any7 kl 4 _ 4 4 rfl _ K7.out (by decide) kl_fit (by omega)).mono ?_
  rintro e w8 ⟨u, rfl, hu, b⟩
  rw [show dropL kl 4 1 = [2, 5, 9] by decide] at hu
  obtain ⟨uo2, uc2, rfl⟩ := hu.slice
  have K8 := hid (K7.out.call b)
  have B8 := hid (below_call B7.out b)
  clear K7 B7 b w7 hu
  have K9 := hid (K8.out.new (.cells #[.int .i64 1] 3))
  have B9 := hid (below_new B8.out (.cells #[.int .i64 1] 3))
  have R9 := hid (row_lit w8 [1] 1 rfl)
  clear K8 B8
  go_wp2_with fail
  refine (both_any kl [1] _ _ 4 1 4 1 rfl rfl _ K9.out R9.out (by decide)).mono ?_
  rintro e w10 ⟨u, rfl, hu, b⟩
  rw [show mergeL kl [1] = [1, 2, 4, 5, 9] by decide +kernel] at hu
  obtain ⟨uo3, uc3, rfl⟩ := hu.slice
  have K10 := hid (K9.out.call b)
  have B10 := hid (below_call B9.out b)
  clear K9 B9 R9 b hu
  go_wp2_with fail
  refine (drop_any7 kl 4 2 _ 4 4 rfl _ K10.out (by decide) kl_fit (by omega) (by omega)).mono ?_
  rintro e w11 ⟨u, rfl, hu, b⟩
  rw [show dropL kl 4 2 = [2, 9] by decide] at hu
  have B11 := hid (below_call B10.out b)
  obtain ⟨uo4, uc4, rfl, hr⟩ := RowAt.own hu
  clear K10 B10 b w10 hu
  have U12 := hid (hr.new (.cells #[.int .i64 2, .int .i64 9] 3))
  have B12 := hid (below_new B11.out (.cells #[.int .i64 2, .int .i64 9] 3))
  have R12 := hid (row_lit w11 [2, 9] 2 rfl)
  clear hr B11
  go_wp2_with fail
  refine (refSameInts_any [2, 9] [2, 9] _ _ _ (U12.out.at (by decide)) (R12.out.at (by decide))).mono ?_
  rw [decide_eq_true rfl]
  rintro e w13 ⟨rfl, b⟩
  have B13 := hid (below_call B12.out b)
  clear B12 U12 R12 b
  go_wp2
  go_ret
  exact ⟨rfl, B13.out⟩
end Go.Proofs.Ytdjhlgcbjdohiaa
