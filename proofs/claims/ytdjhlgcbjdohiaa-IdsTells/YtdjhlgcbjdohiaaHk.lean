/- Contracts of the reference's Run and Drop. -/
import Derived.Test.YtdjhlgcbjdohiaaHh
namespace Go.Proofs.Ytdjhlgcbjdohiaa
open Go.RowKit

set_option maxRecDepth 10000 in
set_option maxHeartbeats 4000000 in
theorem rrun_any7 (l : List Int) (n0 : Int) (ao : Option Addr) (cap len : Nat) (hlen : len = l.length) (w : World) (h : RowAt w ao cap l) (hl : l.length ≤ 900) (hfit : Fit l) (hup : Up l) :
    Calls Try.prog 11 #[.slice ao len cap, .int .i64 n0] w fun e w' => ∃ x ok, e = .returned (.tuple #[.int .i64 x, .bool ok]) ∧ RunIs l n0.toNat x ok ∧ Below w.heap.size w w' := by
  subst hlen
  have HC := hid h
  clear h
  by_cases hn1 : n0 < 1
  · clear hfit
    have hd1 : decide (0 < n0) = false := by simp; omega
    have hno : Hid (∀ i, ¬ RunI l n0.toNat i) := hid (fun i hr => by have := hr.1; omega)
    go_enter Try.func11, Try.ntmps11
    go_wp2
    go_loopg [6] 0 (fun g j wr => j = .int .i64 0 ∧ wr = w)
    case atStart => exact ⟨rfl, rfl⟩
    case round =>
      obtain ⟨rfl, rfl⟩ := hrel
      by_cases h0 : 0 < l.length
      · have hd : decide ((0 : Int) < (l.length : Int)) = true := decide_eq_true (by omega)
        go_wp2
        go_ret2
        exact ⟨0, false, rfl, .inr ⟨rfl, rfl, hno.out⟩, Below.refl _ _⟩
      · have hd : decide ((0 : Int) < (l.length : Int)) = false := decide_eq_false (by omega)
        go_wp2
        go_ret2
        exact ⟨0, false, rfl, .inr ⟨rfl, rfl, hno.out⟩, Below.refl _ _⟩
  obtain ⟨n, hn⟩ : ∃ n : Nat, n0 = (n : Int) := ⟨n0.toNat, by omega⟩
  subst hn
  rw [Int.toNat_natCast]
  have hn1' : 1 ≤ n := by omega
  have hn0 : decide (0 < n) = true := by simp; omega
  have hfar : Hid (∀ k i, k + i < l.length → IntKind.i64.wrap (l.getD (k + i) 0 - (i : Int)) = l.getD (k + i) 0 - (i : Int)) := hid (by
    intro k i hki
    have h1 := up_far hup k i hki
    have h2 := hfit.get (k + i) hki
    have h3 := hfit.get k (by omega)
    exact wrap_i _ (by omega) (by omega))
  clear hup hfit hn1
  go_enter Try.func11, Try.ntmps11
  go_wp2
  go_loopg [6] l.length (fun g j wr => ∃ (k : Nat), k + g = l.length ∧ j = .int .i64 (k : Int) ∧ Hid (∀ i, i < k → ¬ RunI l n i) ∧ Hid (Below w.heap.size w wr))
  case atStart => exact ⟨0, by omega, rfl, hid (fun i hi => absurd hi (by omega)), hid (Below.refl _ _)⟩
  case round =>
    obtain ⟨k, hk, rfl, hno, hbel⟩ := hrel
    by_cases hend : k < l.length
    · have hd : decide ((k : Int) < (l.length : Int)) = true := by simp; omega
      have hgo : gk = (gk - 1) + 1 := by omega
      go_wp2_with fail
      go_loopg [7] l.length (fun gg j wq => ∃ (i : Nat), i + gg = l.length ∧ i < n ∧ k + i < l.length ∧ j = .int .i64 ((i : Int) + 1) ∧ Hid (∀ j, j < i + 1 → l.getD (k + j) 0 = l.getD k 0 + (j : Int)) ∧ Hid (Below w.heap.size w wq))
      case atStart => exact ⟨0, by omega, by omega, by omega, rfl, hid (fun j hj => by (obtain rfl : j = 0 := (by omega)); simp), hbel⟩
      case round =>
        obtain ⟨i, hi, hin, hki, rfl, hall, hbel2⟩ := hrel
        have hsz := hbel2.out.size
        obtain ⟨pa, hx, hc, hpa⟩ := HC.out.get k (by omega)
        have hcell : ∀ q, (wr.drewN q).cell? pa = some (Value.int .i64 (l.getD k 0)) := fun q => (hbel2.out.cell (p := pa) hpa).trans hc
        have hcell0 : wr.cell? pa = some (Value.int .i64 (l.getD k 0)) := hcell 0
        by_cases hi1 : i + 1 < n
        · have hd3 : decide ((i : Int) + 1 < (n : Int)) = true := by simp; omega
          by_cases hki1 : k + (i + 1) < l.length
          · obtain ⟨pb, hx2, hc2, hpb⟩ := HC.out.gets k (i + 1) hki1
            have hcell2 : ∀ q, (wr.drewN q).cell? pb = some (Value.int .i64 (l.getD (k + (i + 1)) 0)) := fun q => (hbel2.out.cell (p := pb) hpb).trans hc2
            have hcell3 : wr.cell? pb = some (Value.int .i64 (l.getD (k + (i + 1)) 0)) := hcell2 0
            have hw2 := hfar.out k (i + 1) hki1
            have hw3 : IntKind.i64.wrap ((k : Int) + ((i : Int) + 1)) = (k : Int) + ((i : Int) + 1) := wrap_i _ (by omega) (by omega)
            have hd5 : decide ((k : Int) + ((i : Int) + 1) < (l.length : Int)) = true := by simp; omega
            rw [Int.natCast_add, Int.natCast_one] at hw2 hx2
            have hbr : l.getD (k + (i + 1)) 0 ≠ l.getD k 0 + ((i : Int) + 1) → ∀ q, q < k + 1 → ¬ RunI l n q := by
              intro hne q hq hr
              by_cases hqk : q < k
              · exact hno.out q hqk hr
              · (obtain rfl : q = k := (by omega))
                have := hr.2.2 (i + 1) hi1
                rw [Int.natCast_add, Int.natCast_one] at this
                exact hne this
            have hnx : l.getD (k + (i + 1)) 0 = l.getD k 0 + ((i : Int) + 1) → ∀ j, j < i + 1 + 1 → l.getD (k + j) 0 = l.getD k 0 + (j : Int) := by
              intro he j hj
              by_cases hj2 : j < i + 1
              · exact hall.out j hj2
              · (obtain rfl : j = i + 1 := (by omega))
                rw [he, Int.natCast_add, Int.natCast_one]
            replace hnx := hid hnx
            replace hbr := hid hbr
            clear hc hc2 hpa hpb hall
            generalize l.getD (k + (i + 1)) 0 = z at *
            generalize l.getD k 0 = y at *
            by_cases he : z = y + ((i : Int) + 1)
            · have hd4 : (z - ((i : Int) + 1) == y) = true := by simp; omega
              have hall3 := hid (hnx.out he)
              clear hnx hbr he hfar
              go_wp2_with fail
              go_quiet (fail)
              go_wp2
              go_roundg (gk - 1)
              case rel => exact ⟨i + 1, by omega, by omega, by omega, by go_num, hall3, hid (hbel2.out.trans ((below_draws wr nq).mono hsz))⟩
              case measure => omega
            · have hd4 : (z - ((i : Int) + 1) == y) = false := by simp; omega
              have hno3 := hid (hbr.out he)
              have hd6 : decide ((n : Int) ≤ (i : Int) + 1) = false := by simp; omega
              clear hnx hbr he hfar
              go_wp2_with fail
              go_quiet (fail)
              go_wp2
              go_roundg (l.length - (k + 1))
              case rel => exact ⟨k + 1, by omega, by go_num, hno3, hid (hbel2.out.trans ((below_draws wr nq).mono hsz))⟩
              case measure => omega
          · have hw3 : IntKind.i64.wrap ((k : Int) + ((i : Int) + 1)) = (k : Int) + ((i : Int) + 1) := wrap_i _ (by omega) (by omega)
            have hd5 : decide ((k : Int) + ((i : Int) + 1) < (l.length : Int)) = false := by simp; omega
            have hd6 : decide ((n : Int) ≤ (i : Int) + 1) = false := by simp; omega
            have hno3 : Hid (∀ q, q < k + 1 → ¬ RunI l n q) := hid (by
              intro q hq hr
              by_cases hqk : q < k
              · exact hno.out q hqk hr
              · have := hr.2.1
                omega)
            clear hall hc hpa hfar
            generalize l.getD k 0 = y at *
            go_wp2_with fail
            go_quiet (fail)
            go_wp2
            go_roundg (l.length - (k + 1))
            case rel => exact ⟨k + 1, by omega, by go_num, hno3, hid (hbel2.out.trans ((below_draws wr nq).mono hsz))⟩
            case measure => omega
        · have hd3 : decide ((i : Int) + 1 < (n : Int)) = false := by simp; omega
          have hd4 : decide ((n : Int) ≤ (i : Int) + 1) = true := by simp; omega
          have hall2 : Hid (∀ j, j < n → l.getD (k + j) 0 = l.getD k 0 + (j : Int)) := hid (fun j hj => hall.out j (by omega))
          clear hall hc hpa
          generalize hy : l.getD k 0 = y at *
          replace hy := hid hy
          go_wp2_with fail
          go_quiet (fail)
          go_wp2
          go_ret2
          refine ⟨y, true, rfl, .inl ⟨rfl, k, ⟨hn1', by omega, ?_⟩, hy.out.symm, hno.out⟩, (hbel2.out.trans ((below_draws wr nq).mono hbel2.out.size))⟩
          rw [hy.out]
          exact hall2.out
    · have hd : decide ((k : Int) < (l.length : Int)) = false := by simp; omega
      have hno2 : Hid (∀ i, ¬ RunI l n i) := hid (fun i hr => by have := hr.2.1; have := hr.1; exact hno.out i (by omega) hr)
      clear hno
      go_wp2
      go_ret2
      exact ⟨0, false, rfl, .inr ⟨rfl, rfl, hno2.out⟩, hbel.out⟩
end Go.Proofs.Ytdjhlgcbjdohiaa
