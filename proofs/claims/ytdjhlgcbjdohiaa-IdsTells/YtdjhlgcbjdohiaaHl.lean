/- Contract of the reference's Drop. -/
import Derived.Test.YtdjhlgcbjdohiaaHh
namespace Go.Proofs.Ytdjhlgcbjdohiaa
open Go.RowKit

theorem drop_end (y f m : Int) (h1 : f ≤ y) (h2 : 1 ≤ m) (hf0 : -9223372036854775808 ≤ f) (hy1 : y < 9223372036854775808) (hm1 : m < 9223372036854775808) : (IntKind.i64.wrap (f + (m - 1)) < y ∧ f ≤ IntKind.i64.wrap (f + (m - 1))) ↔ m ≤ y - f := by
  rw [IntKind.wrap_i64]
  omega
set_option maxRecDepth 10000 in
set_option maxHeartbeats 4000000 in
theorem rdrop_any7 (l : List Int) (f m : Int) (ao : Option Addr) (cap n : Nat) (hn : n = l.length) (w : World) (h : RowAt w ao cap l) (hl : l.length ≤ 900) (hfit : Fit l) (hf : -9223372036854775808 ≤ f) (hm : m < 9223372036854775808) :
    Calls Try.prog 23 #[.slice ao n cap, .int .i64 f, .int .i64 m] w fun e w' => ∃ u, e = .returned u ∧ OwnInts w' w.heap.size u (dropL l f m) ∧ Below w.heap.size w w' := by
  subst hn
  obtain ⟨i0, hi, hz0, hz1, hz2⟩ := info_parts Try.infoInt
  have HC := hid h
  have hD := hid (dropL_take l f m)
  have hd0 : Hid (dropL (l.take 0) f m = []) := hid (by simp [dropL])
  have hdN : Hid (dropL (l.take l.length) f m = dropL l f m) := hid (by rw [List.take_length])
  have hkey : Hid (∀ k, k < l.length → f ≤ l.getD k 0 → 1 ≤ m → ((IntKind.i64.wrap (f + (m - 1)) < l.getD k 0 ∧ f ≤ IntKind.i64.wrap (f + (m - 1))) ↔ m ≤ l.getD k 0 - f)) := hid (fun k hk hle hm1 => drop_end _ _ _ hle hm1 hf (hfit.get k hk).2 hm)
  have hwm : Hid (1 ≤ m → IntKind.i64.wrap (m - 1) = m - 1) := hid (fun h => wrap_i _ (by omega) (by omega))
  clear hfit hf hm h
  generalize dropL l f m = D at *
  go_enter Try.func23, Try.ntmps23
  go_wp2
  go_loopg [7, 8] l.length (fun g vr j wr => ∃ (k : Nat) (R : List Int) (ro : Option Addr) (cr : Nat), k + g = l.length ∧ vr = .slice ro R.length cr ∧ j = .int .i64 (k : Int) ∧ R.length ≤ k ∧ Hid (OwnInts wr w.heap.size (.slice ro R.length cr) R) ∧ Hid (dropL (l.take k) f m = R) ∧ Hid (Below w.heap.size w wr))
  case atStart => exact ⟨0, [], none, 0, by omega, rfl, rfl, by simp, hid (OwnInts.nil _ _), hd0, hid (Below.refl _ _)⟩
  case round =>
    obtain ⟨k, R, ro, cr, hk, rfl, rfl, hlen, hR, hM, hbel⟩ := hrel
    cases gk with
    | zero =>
      have hke : k = l.length := by omega
      subst hke
      have hM2 := hM.out
      rw [hdN.out] at hM2
      replace hM2 := hid hM2
      clear hM HC
      go_wp2
      go_ret
      refine ⟨_, rfl, ?_, hbel.out⟩
      rw [hM2.out]
      exact hR.out
    | succ g =>
      have hkl : k < l.length := by omega
      obtain ⟨pa, hx, hc, hpa⟩ := HC.out.get k hkl
      have hcell : wr.cell? pa = some (Value.int .i64 (l.getD k 0)) := (hbel.out.cell (p := pa) hpa).trans hc
      have hM2 := hD.out k hkl
      rw [show l[k] = l.getD k 0 by simp [List.getD, hkl], hM.out] at hM2
      have hky := hkey.out k hkl
      generalize l.getD k 0 = y at *
      clear hc HC hD hd0 hdN hpa hkey hM
      have hsz := hbel.out.size
      have bA := hid (hbel.out.alloc hsz (.cells #[.int .i64 y] 3))
      have A1 := hid (append_one i0 hi hz0 hz1 hz2 (w0 := w) _ R y (hR.out.alloc (.cells #[.int .i64 y] 3)) _ (heap_newL _ _) bA.out (by simp; omega) (by omega))
      by_cases hlt : y < f
      · rw [if_pos (.inl hlt)] at hM2
        replace hM2 := hid hM2
        have hd : decide (y < f) = true := by simpa using hlt
        clear hky hwm
        go_wp2_with (first
          | (at_builtin; refine wpList_append_any rfl (.tmp 44) (.tmp 49) 22 rfl _ _ rfl rfl (A1.out _) ?_; rintro v1 w1 ⟨⟨ra, rc, rfl⟩, h1, b1⟩; replace h1 := hid h1; replace b1 := hid b1)
          | fail)
        go_roundg g
        case rel => exact ⟨k + 1, R ++ [y], ra, rc, by omega, by simp, by go_num, by simp; omega, by simpa using h1, hM2, b1⟩
        case measure => omega
      · have hd : decide (y < f) = false := by simpa using hlt
        by_cases hm0 : m ≤ 0
        · rw [if_pos (.inr (by omega))] at hM2
          replace hM2 := hid hM2
          have hd2 : decide (m ≤ 0) = true := by simpa using hm0
          clear hky hwm
          go_wp2_with (first
            | (at_builtin; refine wpList_append_any rfl (.tmp 44) (.tmp 49) 22 rfl _ _ rfl rfl (A1.out _) ?_; rintro v1 w1 ⟨⟨ra, rc, rfl⟩, h1, b1⟩; replace h1 := hid h1; replace b1 := hid b1)
            | fail)
          go_roundg g
          case rel => exact ⟨k + 1, R ++ [y], ra, rc, by omega, by simp, by go_num, by simp; omega, by simpa using h1, hM2, b1⟩
          case measure => omega
        · have hd2 : decide (m ≤ 0) = false := by simpa using hm0
          have hw1 := hwm.out (by omega)
          have hky2 := hky (by omega) (by omega)
          clear hky hwm
          obtain ⟨e, he⟩ : ∃ e, IntKind.i64.wrap (f + (m - 1)) = e := ⟨_, rfl⟩
          rw [he] at hky2
          by_cases he1 : e < y
          · have hd3 : decide (e < y) = true := by simpa using he1
            by_cases he2 : f ≤ e
            · have hge := hky2.1 ⟨he1, he2⟩
              rw [if_pos (.inr (by omega))] at hM2
              replace hM2 := hid hM2
              have hd4 : decide (f ≤ e) = true := by simpa using he2
              clear hky2 hge
              go_wp2_with (first
                | (at_builtin; refine wpList_append_any rfl (.tmp 44) (.tmp 49) 22 rfl _ _ rfl rfl (A1.out _) ?_; rintro v1 w1 ⟨⟨ra, rc, rfl⟩, h1, b1⟩; replace h1 := hid h1; replace b1 := hid b1)
                | fail)
              go_roundg g
              case rel => exact ⟨k + 1, R ++ [y], ra, rc, by omega, by simp, by go_num, by simp; omega, by simpa using h1, hM2, b1⟩
              case measure => omega
            · have hge : ¬ m ≤ y - f := fun hh => he2 (hky2.2 hh).2
              rw [if_neg (by omega)] at hM2
              replace hM2 := hid hM2
              have hd4 : decide (f ≤ e) = false := by simpa using he2
              clear hky2 hge A1 bA
              go_wp2
              go_roundg g
              case rel => exact ⟨k + 1, R, ro, cr, by omega, rfl, by go_num, by omega, hR, hM2, hbel⟩
              case measure => omega
          · have hge : ¬ m ≤ y - f := fun hh => he1 (hky2.2 hh).1
            rw [if_neg (by omega)] at hM2
            replace hM2 := hid hM2
            have hd3 : decide (e < y) = false := by simpa using he1
            clear hky2 hge A1 bA
            go_wp2
            go_roundg g
            case rel => exact ⟨k + 1, R, ro, cr, by omega, rfl, by go_num, by omega, hR, hM2, hbel⟩
            case measure => omega
end Go.Proofs.Ytdjhlgcbjdohiaa
