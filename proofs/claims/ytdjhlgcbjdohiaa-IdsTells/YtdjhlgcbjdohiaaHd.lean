/- Contracts of package ids' Both and With. -/
import Derived.Test.YtdjhlgcbjdohiaaHc
import Derived.RegionTactic
import Derived.OwnWalk
namespace Go.Proofs.Ytdjhlgcbjdohiaa
open Go.RowKit

theorem RowAt.get0 {w : World} {ao : Option Addr} {cap : Nat} {l : List Int} {n : Nat} (h : RowAt w ao cap l) (hn : l.length = n + 1) : ∃ a : Addr, (∀ W, (Instr.indexAt 22 (.slice ao (n + 1) cap) (.int .i64 0)).run Try.prog W = .ok (.pointer (some a)) W) ∧ w.cell? a = some (.int .i64 (l.getD 0 0)) ∧ a.block < w.heap.size := by
  have := h.get 0 (by omega)
  rwa [hn] at this
theorem RowAt.tail1 {w : World} {ao : Option Addr} {cap : Nat} {y : Int} {l : List Int} (h : RowAt w ao cap (y :: l)) : ∃ bo, (∀ W, (Instr.slice 22 (.slice ao (l.length + 1) cap) (some (.int .i64 1)) none none).run Try.prog W = .ok (.slice bo l.length (cap - 1)) W) ∧ RowAt w bo (cap - 1) l := by
  obtain ⟨bo, h1, h2⟩ := h.tail 1 (by simp)
  exact ⟨bo, fun W => by have := h1 W; simpa using this, h2⟩
theorem OwnInts.drew {w : World} {B : Nat} {v : Value} {l : List Int} (h : OwnInts w B v l) : OwnInts w.drew B v l := h
theorem below_drew {w0 w : World} {B : Nat} (h : Below B w0 w) : Below B w0 w.drew := ⟨h.os, h.tape, h.output, h.size, h.block⟩

set_option maxRecDepth 10000 in
set_option maxHeartbeats 4000000 in
theorem both_any (a b : List Int) (ao bo : Option Addr) (ca cb n m : Nat) (hn : n = a.length) (hm : m = b.length) (w : World) (ha : RowAt w ao ca a) (hb : RowAt w bo cb b) (hl : a.length + b.length ≤ 900) :
    Calls Try.prog 19 #[.slice ao n ca, .slice bo m cb] w fun e w' => ∃ u, e = .returned u ∧ OwnInts w' w.heap.size u (mergeL a b) ∧ Below w.heap.size w w' := by
  subst hn hm
  obtain ⟨i0, hi, hz0, hz1, hz2⟩ := info_parts Try.infoInt
  have HB := hid hb
  have HA := hid ha
  clear hb ha
  have hM0 : Hid (([] : List Int) ++ mergeL a (b.drop 0) = mergeL a b) := hid (by simp)
  generalize mergeL a b = M at *
  go_enter Try.func19, Try.ntmps19
  go_wp2_with (first
    | (at_make; refine wpList_make_own _ rfl _ _ 22 rfl w.heap.size 3 i0 (.int .i64 0) 1 Try.underlying22 hi hz0 hz1 .i64 .i64 _ (a.length + b.length) rfl rfl (by simp) (by rw [hz2]; omega) (by unfold maxLen; omega) (Nat.le_refl _) ?_; intro w0 hown0 hgrow0)
    | fail)
  have hbel0 : Below w.heap.size w w0 := (Below.refl _ _).grown hgrow0 (Nat.le_refl _) (fun r hr => by cases hr)
  replace hown0 : Hid (OwnInts w0 w.heap.size (.slice (some ⟨w.heap.size, 0, none⟩) 0 (a.length + b.length)) []) := hid hown0
  replace hbel0 := hid hbel0
  clear hgrow0
  go_wp2
  go_loopg [0, 5, 16] b.length (fun g va vr j wr => ∃ (k : Nat) (A R : List Int) (ao' ro : Option Addr) (ca' cr : Nat), k + g = b.length ∧ va = .slice ao' A.length ca' ∧ vr = .slice ro R.length cr ∧ j = .int .i64 (k : Int) ∧ R.length + A.length ≤ a.length + k ∧ Hid (RowAt w ao' ca' A) ∧ Hid (OwnInts wr w.heap.size (.slice ro R.length cr) R) ∧ Hid (R ++ mergeL A (b.drop k) = M) ∧ Hid (Below w.heap.size w wr))
  case atStart => exact ⟨0, a, [], ao, _, _, _, by omega, rfl, rfl, rfl, by simp, HA, hown0, hM0, hbel0⟩
  case round =>
    obtain ⟨k, A, R, ao', ro, ca', cr, hk, rfl, rfl, rfl, hlen, hA, hR, hM, hbel⟩ := hrel
    clear HA hown0 hM0 hbel0
    cases gk with
    | zero =>
      have hke : k = b.length := by omega
      subst hke
      have hM2 := hM.out
      rw [List.drop_length, mergeL_none] at hM2
      replace hM2 := hid hM2
      clear hM HB
      have A1 := hid (append_row i0 hi hz0 hz1 hz2 (w0 := w) _ R hR.out (hA.out.below hbel.out (Nat.le_refl _)) hbel.out hbel.out.size (by omega) A.length rfl)
      go_wp2_with (first
        | (at_builtin; refine wpList_append_any rfl (.tmp 55) (.tmp 56) 22 rfl _ _ rfl rfl (A1.out _) ?_; rintro v1 w1 ⟨h1, b1, _⟩; replace h1 := hid h1; replace b1 := hid b1)
        | fail)
      go_ret
      refine ⟨_, rfl, ?_, b1.out⟩
      rw [← hM2.out]
      exact h1.out
    | succ g =>
      have hkb : k < b.length := by omega
      obtain ⟨pa, hx, hc, hpa⟩ := HB.out.get k hkb
      have hcell : wr.cell? pa = some (Value.int .i64 (b.getD k 0)) := (hbel.out.cell (p := pa) hpa).trans hc
      have hM2 := hM.out
      rw [List.drop_eq_getElem_cons hkb, show b[k] = b.getD k 0 by simp [List.getD, hkb]] at hM2
      replace hM2 := hid hM2
      generalize b.getD k 0 = y at *
      clear hc hM HB
      replace hpa := hid hpa
      go_wp2_with fail
      go_loopg [0, 5] A.length (fun gg va vr wq => ∃ (A' R' : List Int) (ao2 ro2 : Option Addr) (ca2 cr2 : Nat), A'.length = gg ∧ va = .slice ao2 A'.length ca2 ∧ vr = .slice ro2 R'.length cr2 ∧ R'.length + A'.length ≤ a.length + k ∧ Hid (RowAt w ao2 ca2 A') ∧ Hid (OwnInts wq w.heap.size (.slice ro2 R'.length cr2) R') ∧ Hid (R' ++ mergeL A' (y :: b.drop (k + 1)) = M) ∧ Hid (Below w.heap.size w wq))
      case atStart => exact ⟨A, R, ao', ro, ca', cr, rfl, rfl, rfl, hlen, hA, hR, hM2, hbel⟩
      case round =>
        obtain ⟨A', R', ao2, ro2, ca2, cr2, hAg, rfl, rfl, hlen2, hA2, hR2, hM3, hbel2⟩ := hrel
        clear hA hR hM2 hbel hcell
        have hsz := hbel2.out.size
        match A', hAg, hlen2, hA2, hR2, hM3 with
        | [], hAg, hlen2, hA2, hR2, hM3 =>
          have hg0 : gk = 0 := by simpa using hAg.symm
          subst hg0
          clear hAg
          have hM4 := hM3.out
          rw [mergeL_nil] at hM4
          replace hM4 := hid hM4
          clear hM3
          have bA := hid (hbel2.out.alloc hsz (.cells #[.int .i64 y] 3))
          have A1 := hid (append_one i0 hi hz0 hz1 hz2 (w0 := w) _ R' y (hR2.out.alloc (.cells #[.int .i64 y] 3)) _ (heap_newL _ _) bA.out (by simp; omega) (by omega))
          go_wp2_with (first
            | (at_builtin; refine wpList_append_any rfl (.tmp 50) (.tmp 52) 22 rfl _ _ rfl rfl (A1.out _) ?_; rintro v1 w1 ⟨⟨ra, rc, rfl⟩, h1, b1⟩; replace h1 := hid h1; replace b1 := hid b1)
            | fail)
          go_roundg g
          case rel => exact ⟨k + 1, [], R' ++ [y], ao2, ra, ca2, rc, by omega, rfl, by simp, by go_num, by simp at hlen2 ⊢; omega, hA2, by simpa using h1, by simpa [mergeL_nil] using hM4, b1⟩
          case measure => omega
        | z :: A2, hAg, hlen2, hA2, hR2, hM3 =>
          obtain ⟨pz, hxz, hcz, hpz⟩ := hA2.out.get0 (n := A2.length) rfl
          obtain ⟨bo2, hsl, hA3⟩ := hA2.out.tail1
          rw [show (z :: A2).getD 0 0 = z from rfl, ← hbel2.out.cell (p := pz) hpz] at hcz
          clear hpz
          rw [List.length_cons] at hAg hlen2 ⊢
          subst hAg
          replace hA3 := hid hA3
          rcases Int.lt_trichotomy z y with hzy | hzy | hzy
          · have hd : decide (z < y) = true := by simpa using hzy
            have hM4 := hM3.out
            rw [mergeL_lt hzy] at hM4
            replace hM4 := hid hM4
            have bA := hid ((below_drew hbel2.out).alloc hsz (.cells #[.int .i64 z] 3))
            have A1 := hid (append_one i0 hi hz0 hz1 hz2 (w0 := w) _ R' z (hR2.out.drew.alloc (.cells #[.int .i64 z] 3)) _ (heap_newL _ _) bA.out (by simp; omega) (by omega))
            go_wp2_with fail
            go_region_law (first
              | (refine step_append_any rfl (.tmp 30) (.tmp 34) 22 rfl _ _ rfl rfl (A1.out _) ?_; rintro v1 w1 ⟨⟨ra, rc, rfl⟩, h1, b1⟩; replace h1 := hid h1; replace b1 := hid b1))
            all_goals go_wp2
            all_goals go_roundg A2.length
            all_goals first
              | exact ⟨A2, R' ++ [z], bo2, ra, ca2 - 1, rc, rfl, rfl, by simp, by simp at hlen2 ⊢; omega, hA3, by simpa using h1, by simpa using hM4, b1⟩
              | omega
          · subst hzy
            have hM4 := hM3.out
            rw [mergeL_eq] at hM4
            replace hM4 := hid hM4
            have bA := hid (hbel2.out.alloc hsz (.cells #[.int .i64 z] 3))
            have A1 := hid (append_one i0 hi hz0 hz1 hz2 (w0 := w) _ R' z (hR2.out.alloc (.cells #[.int .i64 z] 3)) _ (heap_newL _ _) bA.out (by simp; omega) (by omega))
            go_wp2_with (first
              | (at_builtin; refine wpList_append_any rfl (.tmp 50) (.tmp 52) 22 rfl _ _ rfl rfl (A1.out _) ?_; rintro v1 w1 ⟨⟨ra, rc, rfl⟩, h1, b1⟩; replace h1 := hid h1; replace b1 := hid b1)
              | fail)
            go_roundg g
            case rel => exact ⟨k + 1, A2, R' ++ [z], bo2, ra, (ca2 - 1), rc, by omega, rfl, by simp, by go_num, by simp at hlen2 ⊢; omega, hA3, by simpa using h1, by simpa using hM4, b1⟩
            case measure => omega
          · have hM4 := hM3.out
            rw [mergeL_gt hzy] at hM4
            replace hM4 := hid hM4
            have hd : decide (z < y) = false := by simp; omega
            have hd2 : (z == y) = false := by simp; omega
            have bA := hid (hbel2.out.alloc hsz (.cells #[.int .i64 y] 3))
            have A1 := hid (append_one i0 hi hz0 hz1 hz2 (w0 := w) _ R' y (hR2.out.alloc (.cells #[.int .i64 y] 3)) _ (heap_newL _ _) bA.out (by simp; omega) (by omega))
            go_wp2_with (first
              | (at_builtin; refine wpList_append_any rfl (.tmp 50) (.tmp 52) 22 rfl _ _ rfl rfl (A1.out _) ?_; rintro v1 w1 ⟨⟨ra, rc, rfl⟩, h1, b1⟩; replace h1 := hid h1; replace b1 := hid b1)
              | fail)
            go_roundg g
            case rel => exact ⟨k + 1, z :: A2, R' ++ [y], ao2, ra, ca2, rc, by omega, rfl, by simp, by go_num, by simp at hlen2 ⊢; omega, hA2, by simpa using h1, by simpa using hM4, b1⟩
            case measure => omega
end Go.Proofs.Ytdjhlgcbjdohiaa
