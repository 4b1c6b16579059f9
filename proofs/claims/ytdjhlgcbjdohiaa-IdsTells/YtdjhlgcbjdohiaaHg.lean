/- Contract of package ids' Run. -/
import Derived.Test.YtdjhlgcbjdohiaaHf
namespace Go.Proofs.Ytdjhlgcbjdohiaa
open Go.RowKit

theorem run_none {l : List Int} {n : Nat} (h : l.length < n) : ∀ i, ¬ RunI l n i := fun i hr => by have := hr.2.1; omega
theorem RowAt.gets {w : World} {ao : Option Addr} {cap : Nat} {l : List Int} (h : RowAt w ao cap l) (k i : Nat) (hk : k + i < l.length) : ∃ a : Addr, (∀ W, (Instr.indexAt 22 (.slice ao l.length cap) (.int .i64 ((k : Int) + (i : Int)))).run Try.prog W = .ok (.pointer (some a)) W) ∧ w.cell? a = some (.int .i64 (l.getD (k + i) 0)) ∧ a.block < w.heap.size := by
  have := h.get (k + i) hk
  rwa [Int.natCast_add] at this

set_option maxRecDepth 10000 in
set_option maxHeartbeats 4000000 in
theorem run_any7 (l : List Int) (n0 : Int) (ao : Option Addr) (cap len : Nat) (hlen : len = l.length) (w : World) (h : RowAt w ao cap l) (hl : l.length ≤ 900) (hfit : Fit l) (hup : Up l) (hn0 : n0 < 9223372036854775808) :
    Calls Try.prog 10 #[.slice ao len cap, .int .i64 n0] w fun e w' => ∃ x ok, e = .returned (.tuple #[.int .i64 x, .bool ok]) ∧ RunIs l n0.toNat x ok ∧ Below w.heap.size w w' := by
  subst hlen
  have HC := hid h
  clear h
  by_cases hn1 : n0 < 1
  · clear hn0 hfit
    go_enter Try.func10, Try.ntmps10
    go_wp2
    go_step3
    go_wp2
    rw [Exit.noGoto_ret]
    go_ret2
    exact ⟨0, false, rfl, .inr ⟨rfl, rfl, fun i hr => by have := hr.1; omega⟩, Below.refl _ _⟩
  obtain ⟨n, hn⟩ : ∃ n : Nat, n0 = (n : Int) := ⟨n0.toNat, by omega⟩
  subst hn
  rw [Int.toNat_natCast]
  have hn1' : 1 ≤ n := by omega
  have hfar : Hid (∀ k i, k + i < l.length → IntKind.i64.wrap (l.getD k 0 + (i : Int)) = l.getD k 0 + (i : Int)) := hid (by
    intro k i hki
    have h1 := up_far hup k i hki
    have h2 := hfit.get (k + i) hki
    have h3 := hfit.get k (by omega)
    exact wrap_i _ (by omega) (by omega))
  have hsub : IntKind.i64.wrap ((l.length : Int) - (n : Int)) = (l.length : Int) - (n : Int) := wrap_i _ (by omega) (by omega)
  clear hup hfit hn0 hn1
  go_enter Try.func10, Try.ntmps10
  go_wp2
  go_step3
  go_wp2
  go_step3
  go_wp2
  go_loopg [6] l.length (fun g j wr => ∃ (k : Nat), k + g = l.length ∧ j = .int .i64 (k : Int) ∧ Hid (∀ i, i < k → ¬ RunI l n i) ∧ Hid (Below w.heap.size w wr))
  case atStart => exact ⟨0, by omega, rfl, hid (fun i hi => absurd hi (by omega)), hid (Below.refl _ _)⟩
  case round =>
    obtain ⟨k, hk, rfl, hno, hbel⟩ := hrel
    by_cases hend : k + n ≤ l.length
    · have hd : decide ((k : Int) ≤ (l.length : Int) - (n : Int)) = true := by simp; omega
      go_wp2_with fail
      go_loopg [6, 7] (n - 1) (fun gg q j wq => ∃ (i : Nat), i + 1 + gg = n ∧ q = .int .i64 (k : Int) ∧ j = .int .i64 ((i : Int) + 1) ∧ Hid (∀ j, j < i + 1 → l.getD (k + j) 0 = l.getD k 0 + (j : Int)) ∧ Hid (Below w.heap.size w wq))
      case atStart => exact ⟨0, by omega, rfl, rfl, hid (fun j hj => by (obtain rfl : j = 0 := (by omega)); simp), hbel⟩
      case round =>
        obtain ⟨i, hi, rfl, rfl, hall, hbel2⟩ := hrel
        obtain ⟨pa, hx, hc, hpa⟩ := HC.out.get k (by omega)
        have hcell : wr.cell? pa = some (Value.int .i64 (l.getD k 0)) := (hbel2.out.cell (p := pa) hpa).trans hc
        cases gk with
        | zero =>
          have hin : i + 1 = n := by omega
          have hall2 : Hid (∀ j, j < n → l.getD (k + j) 0 = l.getD k 0 + (j : Int)) := hid (fun j hj => hall.out j (by omega))
          have hd3 : decide ((i : Int) + 1 < (n : Int)) = false := by simp; omega
          replace hin := hid hin
          clear hall hc hpa
          generalize hy : l.getD k 0 = y at *
          replace hy := hid hy
          go_wp2
          rw [Exit.noGoto_ret]
          go_ret2
          refine ⟨y, true, rfl, .inl ⟨rfl, k, ⟨hn1', hend, ?_⟩, hy.out.symm, hno.out⟩, hbel2.out⟩
          rw [hy.out]
          exact hall2.out
        | succ gg =>
          have hin : i + 1 < n := by omega
          have hd3 : decide ((i : Int) + 1 < (n : Int)) = true := by simp; omega
          obtain ⟨pb, hx2, hc2, hpb⟩ := HC.out.gets k (i + 1) (by omega)
          have hcell2 : wr.cell? pb = some (Value.int .i64 (l.getD (k + (i + 1)) 0)) := (hbel2.out.cell (p := pb) hpb).trans hc2
          have hw2 := hfar.out k (i + 1) (by omega)
          have hw3 : IntKind.i64.wrap ((k : Int) + ((i : Int) + 1)) = (k : Int) + ((i : Int) + 1) := wrap_i _ (by omega) (by omega)
          rw [Int.natCast_add, Int.natCast_one] at hw2 hx2
          have hbr := fun hne => run_break (n := n) (a := k) (i := i + 1) hall.out hin hne hno.out
          have hnx : l.getD (k + (i + 1)) 0 = l.getD k 0 + ((i : Int) + 1) → ∀ j, j < i + 1 + 1 → l.getD (k + j) 0 = l.getD k 0 + (j : Int) := by
            intro he j hj
            by_cases hj2 : j < i + 1
            · exact hall.out j hj2
            · (obtain rfl : j = i + 1 := (by omega))
              rw [he, Int.natCast_add, Int.natCast_one]
          rw [Int.natCast_add, Int.natCast_one] at hbr
          replace hnx := hid hnx
          replace hbr := hid hbr
          clear hc hc2 hpa hpb hall
          generalize l.getD (k + (i + 1)) 0 = z at *
          generalize l.getD k 0 = y at *
          by_cases he : z = y + ((i : Int) + 1)
          · have hd4 : (z != y + ((i : Int) + 1)) = false := by simpa using he
            have hall3 := hid (hnx.out he)
            clear hnx hbr he hfar
            go_wp2_with fail
            go_quiet (fail)
            go_wp2
            go_roundg gg
            case rel => exact ⟨i + 1, by omega, rfl, by go_num, hall3, hid (hbel2.out.trans ((below_draws wr nq).mono hbel2.out.size))⟩
            case measure => omega
          · have hd4 : (z != y + ((i : Int) + 1)) = true := by simpa using he
            have hno3 := hid (hbr.out he)
            clear hnx hbr he hfar
            go_wp2_with fail
            go_quiet (fail)
            go_wp2
            go_roundg (l.length - (k + (i + 1)))
            case rel => exact ⟨k + (i + 1), by omega, by go_num, hno3, hid (hbel2.out.trans ((below_draws wr nq).mono hbel2.out.size))⟩
            case measure => omega
    · have hd : decide ((k : Int) ≤ (l.length : Int) - (n : Int)) = false := by simp; omega
      have hno2 : Hid (∀ i, ¬ RunI l n i) := hid (fun i hr => by have := hr.2.1; exact hno.out i (by omega) hr)
      clear hno
      go_wp2
      rw [Exit.noGoto_ret]
      go_ret2
      exact ⟨0, false, rfl, .inr ⟨rfl, rfl, hno2.out⟩, hbel.out⟩
end Go.Proofs.Ytdjhlgcbjdohiaa
