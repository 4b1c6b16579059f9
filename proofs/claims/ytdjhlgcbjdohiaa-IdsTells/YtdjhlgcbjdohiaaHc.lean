/- Contracts of package ids' Is and of the reference's IsRow. -/
import Derived.Test.YtdjhlgcbjdohiaaHb
import Derived.Deep.QuietTactic
import Derived.BigQuiet
import Derived.Deep.LoopGhost
namespace Go.Proofs.Ytdjhlgcbjdohiaa
open Go.RowKit

theorem wrap_i (x : Int) (h0 : -9223372036854775808 ≤ x) (h1 : x < 9223372036854775808) : IntKind.i64.wrap x = x := by rw [IntKind.wrap_i64]; omega
theorem RowAt.getS {w : World} {ao : Option Addr} {cap : Nat} {l : List Int} (h : RowAt w ao cap l) (k : Nat) (hk : k + 1 < l.length) : ∃ a : Addr, (∀ W, (Instr.indexAt 22 (.slice ao l.length cap) (.int .i64 ((k : Int) + 1))).run Try.prog W = .ok (.pointer (some a)) W) ∧ w.cell? a = some (.int .i64 (l.getD (k + 1) 0)) ∧ a.block < w.heap.size := by
  have := h.get (k + 1) hk
  rwa [Int.natCast_add, Int.natCast_one] at this
theorem isUp_short {l : List Int} (h : l.length ≤ 1) : isUp l = true := isUp_true.2 (up_short h)

set_option maxRecDepth 10000 in
set_option maxHeartbeats 1000000 in
theorem is_any (l : List Int) (ao : Option Addr) (cap n : Nat) (hn : n = l.length) (w : World) (h : RowAt w ao cap l) (hl : l.length ≤ 1000) :
    Calls Try.prog 8 #[.slice ao n cap] w fun e w' => e = .returned (.bool (isUp l)) ∧ Below w.heap.size w w' := by
  subst hn
  have HC := hid h
  clear h
  have hS := hid (fun k (h0 : 0 < k) (hk : k < l.length) => up_take_succ h0 hk)
  have hF : Hid (∀ k, ¬ Up (l.take k) → isUp l = false) := hid (fun k hk => isUp_false.2 (fun hu => hk (List.Pairwise.sublist (List.take_sublist _ _) hu)))
  have hT : Hid (Up (l.take l.length) → isUp l = true) := hid (fun hu => isUp_true.2 (by rwa [List.take_length] at hu))
  have hT0 : Hid (l.length ≤ 1 → isUp l = true) := hid isUp_short
  have hT1 : Hid (Up (l.take 1)) := hid (up_short (by simp; omega))
  generalize isUp l = R at *
  go_enter Try.func8, Try.ntmps8
  go_wp2
  go_loopg [3] (l.length - 1) (fun g i wr => ∃ (k : Nat), k + g = l.length - 1 ∧ i = .int .i64 ((k : Int) + 1) ∧ Hid (Up (l.take (k + 1))) ∧ Hid (Below w.heap.size w wr))
  case atStart => exact ⟨0, by omega, rfl, hT1, Below.refl _ _⟩
  case round =>
    obtain ⟨k, hk, rfl, hu, hb⟩ := hrel
    cases gk with
    | zero =>
      have hR : R = true := by
        by_cases h1 : l.length ≤ 1
        · exact hT0.out h1
        · refine hT.out ?_
          have := hu.out
          rwa [show k + 1 = l.length by omega] at this
      subst hR
      clear hF hT hT0 hS HC
      have hlt : decide ((k : Int) + 1 < (l.length : Int)) = false := by simp; omega
      go_wp2
      go_ret
      exact ⟨rfl, hb.out⟩
    | succ g =>
      have hk1 : k + 1 < l.length := by omega
      have hlt : decide ((k : Int) + 1 < (l.length : Int)) = true := by simp; omega
      obtain ⟨a, hx, hc, ha⟩ := HC.out.getS k hk1
      obtain ⟨a2, hx2, hc2, ha2⟩ := HC.out.get k (by omega)
      have hcell : wr.cell? a = some (Value.int .i64 (l.getD (k + 1) 0)) := (hb.out.cell (p := a) ha).trans hc
      have hcell2 : wr.cell? a2 = some (Value.int .i64 (l.getD k 0)) := (hb.out.cell (p := a2) ha2).trans hc2
      have hst := hS.out (k + 1) (by omega) hk1
      rw [Nat.add_sub_cancel] at hst
      generalize l.getD (k + 1) 0 = x at *
      generalize l.getD k 0 = y at *
      have hw1 : IntKind.i64.wrap ((k : Int) + 1 - 1) = (k : Int) := by rw [wrap_i _ (by omega) (by omega)]; omega
      clear hc hc2 ha ha2 HC
      by_cases hle : x ≤ y
      · have hR : R = false := hF.out (k + 1 + 1) (fun h => by have := (hst.1 h).2; omega)
        subst hR
        have hd : decide (x ≤ y) = true := by simpa using hle
        replace hst := hid hst
        go_wp2_with fail
        go_quiet (fail)
        go_wp2
        go_ret
        exact ⟨rfl, hb.out.trans ((below_draws wr nq).mono hb.out.size)⟩
      · have hd : decide (x ≤ y) = false := by simpa using hle
        have hu2 := hid (hst.2 ⟨hu.out, by omega⟩)
        clear hst
        go_wp2_with fail
        go_quiet (fail)
        go_wp2
        go_roundg g
        case rel => exact ⟨k + 1, by omega, by go_num, hu2, hid (hb.out.trans ((below_draws wr nq).mono hb.out.size))⟩
        case measure => omega
set_option maxRecDepth 10000 in
set_option maxHeartbeats 1000000 in
theorem rIs_any (l : List Int) (ao : Option Addr) (cap n : Nat) (hn : n = l.length) (w : World) (h : RowAt w ao cap l) (hl : l.length ≤ 1000) :
    Calls Try.prog 9 #[.slice ao n cap] w fun e w' => e = .returned (.bool (isUp l)) ∧ Below w.heap.size w w' := by
  subst hn
  have HC := hid h
  clear h
  have hS := hid (fun k (h0 : 0 < k) (hk : k < l.length) => up_take_succ h0 hk)
  have hF : Hid (∀ k, ¬ Up (l.take k) → isUp l = false) := hid (fun k hk => isUp_false.2 (fun hu => hk (List.Pairwise.sublist (List.take_sublist _ _) hu)))
  have hT : Hid (Up (l.take l.length) → isUp l = true) := hid (fun hu => isUp_true.2 (by rwa [List.take_length] at hu))
  have hT0 : Hid (l.length ≤ 1 → isUp l = true) := hid isUp_short
  have hT1 : Hid (Up (l.take 1)) := hid (up_short (by simp; omega))
  generalize isUp l = R at *
  go_enter Try.func9, Try.ntmps9
  go_wp2
  go_loopg [3] (l.length - 1) (fun g i wr => ∃ (k : Nat), k + g = l.length - 1 ∧ i = .int .i64 ((k : Int) + 1) ∧ Hid (Up (l.take (k + 1))) ∧ Hid (Below w.heap.size w wr))
  case atStart => exact ⟨0, by omega, rfl, hT1, Below.refl _ _⟩
  case round =>
    obtain ⟨k, hk, rfl, hu, hb⟩ := hrel
    cases gk with
    | zero =>
      have hR : R = true := by
        by_cases h1 : l.length ≤ 1
        · exact hT0.out h1
        · refine hT.out ?_
          have := hu.out
          rwa [show k + 1 = l.length by omega] at this
      subst hR
      clear hF hT hT0 hS HC
      have hlt : decide ((k : Int) + 1 < (l.length : Int)) = false := by simp; omega
      go_wp2
      go_ret
      exact ⟨rfl, hb.out⟩
    | succ g =>
      have hk1 : k + 1 < l.length := by omega
      have hlt : decide ((k : Int) + 1 < (l.length : Int)) = true := by simp; omega
      obtain ⟨a, hx, hc, ha⟩ := HC.out.getS k hk1
      obtain ⟨a2, hx2, hc2, ha2⟩ := HC.out.get k (by omega)
      have hcell : wr.cell? a = some (Value.int .i64 (l.getD (k + 1) 0)) := (hb.out.cell (p := a) ha).trans hc
      have hcell2 : wr.cell? a2 = some (Value.int .i64 (l.getD k 0)) := (hb.out.cell (p := a2) ha2).trans hc2
      have hst := hS.out (k + 1) (by omega) hk1
      rw [Nat.add_sub_cancel] at hst
      generalize l.getD (k + 1) 0 = x at *
      generalize l.getD k 0 = y at *
      have hw1 : IntKind.i64.wrap ((k : Int) + 1 - 1) = (k : Int) := by rw [wrap_i _ (by omega) (by omega)]; omega
      clear hc hc2 ha ha2 HC
      by_cases hle : x ≤ y
      · have hR : R = false := hF.out (k + 1 + 1) (fun h => by have := (hst.1 h).2; omega)
        subst hR
        have hd : decide (x ≤ y) = true := by simpa using hle
        replace hst := hid hst
        go_wp2_with fail
        go_quiet (fail)
        go_wp2
        go_ret
        exact ⟨rfl, hb.out.trans ((below_draws wr nq).mono hb.out.size)⟩
      · have hd : decide (x ≤ y) = false := by simpa using hle
        have hu2 := hid (hst.2 ⟨hu.out, by omega⟩)
        clear hst
        go_wp2_with fail
        go_quiet (fail)
        go_wp2
        go_roundg g
        case rel => exact ⟨k + 1, by omega, by go_num, hu2, hid (hb.out.trans ((below_draws wr nq).mono hb.out.size))⟩
        case measure => omega
end Go.Proofs.Ytdjhlgcbjdohiaa
