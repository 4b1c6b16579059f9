/- Contracts of package ids' Has, Drop and Without. -/
import Derived.Test.YtdjhlgcbjdohiaaHe
import Derived.Test.YtdjhlgcbjdohiaaSl
namespace Go.Proofs.Ytdjhlgcbjdohiaa
open Go.RowKit

theorem search_any7 (w : World) (l : List Int) (x : Int) (ao : Option Addr) (cap : Nat) (h : RowAt w ao cap l) (hl : l.length ≤ 1000) (hp : Up l) :
    Calls Try.prog 24 #[.slice ao l.length cap, .int .i64 x] w fun e w' => e = .returned (.tuple #[.int .i64 (l.countP (· < x) : Nat), .bool (l.contains x)]) ∧ ∃ q, w' = w.drewN q := by
  by_cases h0 : l = []
  · subst h0
    refine (Try.slices_BinarySearch_int_empty ao cap x w).mono ?_
    rintro e w' ⟨rfl, rfl⟩
    exact ⟨by simp, 0, rfl⟩
  · have hpos : 0 < l.length := List.length_pos_iff.2 h0
    obtain ⟨b, o, rfl, _⟩ := h.cells 0 hpos
    have hc : ∀ j, j < l.length → w.cell? ⟨b, o + j, none⟩ = some (.int .i64 (l.getD j 0)) := by
      intro j hj
      obtain ⟨b', o', e1, e2⟩ := h.cells j hj
      simp only [Option.some.injEq, Addr.mk.injEq, and_true] at e1
      obtain ⟨rfl, rfl⟩ := e1
      exact e2
    have := Try.slices_BinarySearch_int b o l.length cap l x w (Nat.le_refl _) (by omega) hc (by rw [List.take_length]; exact List.Pairwise.imp (fun h => Int.le_of_lt h) hp)
    rw [List.take_length] at this
    exact this
set_option maxHeartbeats 1000000 in
theorem has_any7 (l : List Int) (x : Int) (ao : Option Addr) (cap n : Nat) (hn : n = l.length) (w : World) (h : RowAt w ao cap l) (hl : l.length ≤ 1000) (hp : Up l) :
    Calls Try.prog 12 #[.slice ao n cap, .int .i64 x] w fun e w' => e = .returned (.bool (l.contains x)) ∧ Below w.heap.size w w' := by
  subst hn
  have HS := hid (search_any7 w l x ao cap h hl hp)
  clear h hp
  generalize l.contains x = c at *
  generalize l.countP (· < x) = c2 at *
  go_enter Try.func12, Try.ntmps12
  go_wp2_with (go_at_call 24; refine HS.out.mono ?_; rintro e w1 ⟨rfl, q, rfl⟩; have hb := hid (below_draws w q); generalize w.drewN q = X at *)
  go_ret
  exact ⟨rfl, hb.out⟩

theorem wrap_u (x : Int) (h0 : 0 ≤ x) (h1 : x < 18446744073709551616) : IntKind.u64.wrap x = x := by rw [IntKind.wrap_u64]; omega
/-- A distance, told unsigned. -/
theorem dist_u (x f : Int) (h : f ≤ x) (h1 : -9223372036854775808 ≤ f) (h2 : x < 9223372036854775808) : IntKind.u64.wrap (IntKind.u64.wrap x - IntKind.u64.wrap f) = x - f := by
  simp only [IntKind.wrap_u64]
  omega
/-- Numbers that an int holds. -/
def Fit (l : List Int) : Prop := ∀ x ∈ l, -9223372036854775808 ≤ x ∧ x < 9223372036854775808
theorem Fit.get {l : List Int} (h : Fit l) (k : Nat) (hk : k < l.length) : -9223372036854775808 ≤ l.getD k 0 ∧ l.getD k 0 < 9223372036854775808 := h _ (get_mem hk)

set_option maxRecDepth 10000 in
set_option maxHeartbeats 4000000 in
theorem drop_any7 (l : List Int) (f m : Int) (ao : Option Addr) (cap n : Nat) (hn : n = l.length) (w : World) (h : RowAt w ao cap l) (hl : l.length ≤ 900) (hfit : Fit l) (hf : -9223372036854775808 ≤ f) (hm : m < 9223372036854775808) :
    Calls Try.prog 22 #[.slice ao n cap, .int .i64 f, .int .i64 m] w fun e w' => ∃ u, e = .returned u ∧ OwnInts w' w.heap.size u (dropL l f m) ∧ Below w.heap.size w w' := by
  subst hn
  obtain ⟨i0, hi, hz0, hz1, hz2⟩ := info_parts Try.infoInt
  have HC := hid h
  have hD := hid (dropL_take l f m)
  have hDl : Hid (∀ k, (dropL (l.take k) f m).length ≤ k) := hid (fun k => Nat.le_trans (dropL_length _ _ _) (by simp; omega))
  have hd0 : Hid (dropL (l.take 0) f m = []) := hid (by simp [dropL])
  have hdN : Hid (dropL (l.take l.length) f m = dropL l f m) := hid (by rw [List.take_length])
  have hwm : IntKind.u64.wrap (max m 0) = max m 0 := wrap_u _ (by omega) (by omega)
  have hdist : Hid (∀ k, k < l.length → f ≤ l.getD k 0 → IntKind.u64.wrap (IntKind.u64.wrap (l.getD k 0) - IntKind.u64.wrap f) = l.getD k 0 - f) := hid (fun k hk hle => dist_u _ _ hle hf (hfit.get k hk).2)
  clear hfit hf hm h
  generalize dropL l f m = D at *
  go_enter Try.func22, Try.ntmps22
  go_wp2
  go_loopg [8, 16] l.length (fun g vr j wr => ∃ (k : Nat) (R : List Int) (ro : Option Addr) (cr : Nat), k + g = l.length ∧ vr = .slice ro R.length cr ∧ j = .int .i64 (k : Int) ∧ R.length ≤ k ∧ Hid (OwnInts wr w.heap.size (.slice ro R.length cr) R) ∧ Hid (dropL (l.take k) f m = R) ∧ Hid (Below w.heap.size w wr))
  case atStart => exact ⟨0, [], none, 0, by omega, rfl, rfl, by simp, hid (OwnInts.nil _ _), hd0, hid (Below.refl _ _)⟩
  case round =>
    obtain ⟨k, R, ro, cr, hk, rfl, rfl, hlen, hR, hM, hbel⟩ := hrel
    cases gk with
    | zero =>
      have hke : k = l.length := by omega
      subst hke
      have hM2 := hM.out
      rw [hdN.out] at hM2
      replace hM2 := hid hM2
      clear hM HC
      go_wp2
      go_ret
      refine ⟨_, rfl, ?_, hbel.out⟩
      rw [hM2.out]
      exact hR.out
    | succ g =>
      have hkl : k < l.length := by omega
      obtain ⟨pa, hx, hc, hpa⟩ := HC.out.get k hkl
      have hcell : wr.cell? pa = some (Value.int .i64 (l.getD k 0)) := (hbel.out.cell (p := pa) hpa).trans hc
      have hM2 := hD.out k hkl
      rw [show l[k] = l.getD k 0 by simp [List.getD, hkl], hM.out] at hM2
      have hdi := hdist.out k hkl
      generalize l.getD k 0 = y at *
      clear hc HC hD hDl hd0 hdN hpa hdist hM
      have hsz := hbel.out.size
      have bA := hid (hbel.out.alloc hsz (.cells #[.int .i64 y] 3))
      have A1 := hid (append_one i0 hi hz0 hz1 hz2 (w0 := w) _ R y (hR.out.alloc (.cells #[.int .i64 y] 3)) _ (heap_newL _ _) bA.out (by simp; omega) (by omega))
      by_cases hlt : y < f
      · rw [if_pos (.inl hlt)] at hM2
        replace hM2 := hid hM2
        have hd : decide (y < f) = true := by simpa using hlt
        clear hdi
        go_wp2_with (first
          | (at_builtin; refine wpList_append_any rfl (.tmp 32) (.tmp 34) 22 rfl _ _ rfl rfl (A1.out _) ?_; rintro v1 w1 ⟨⟨ra, rc, rfl⟩, h1, b1⟩; replace h1 := hid h1; replace b1 := hid b1)
          | fail)
        go_roundg g
        case rel => exact ⟨k + 1, R ++ [y], ra, rc, by omega, by simp, by go_num, by simp; omega, by simpa using h1, hM2, b1⟩
        case measure => omega
      · have hdi2 := hdi (by omega)
        have hd : decide (y < f) = false := by simpa using hlt
        by_cases hge : max m 0 ≤ y - f
        · rw [if_pos (.inr hge)] at hM2
          replace hM2 := hid hM2
          have hd2 : decide (y - f ≥ max m 0) = true := by simpa using hge
          clear hdi
          go_wp2_with (first
            | (at_builtin; refine wpList_append_any rfl (.tmp 32) (.tmp 34) 22 rfl _ _ rfl rfl (A1.out _) ?_; rintro v1 w1 ⟨⟨ra, rc, rfl⟩, h1, b1⟩; replace h1 := hid h1; replace b1 := hid b1)
            | fail)
          go_roundg g
          case rel => exact ⟨k + 1, R ++ [y], ra, rc, by omega, by simp, by go_num, by simp; omega, by simpa using h1, hM2, b1⟩
          case measure => omega
        · rw [if_neg (by omega)] at hM2
          replace hM2 := hid hM2
          clear hdi
          go_wp2
          go_roundg g
          case rel => exact ⟨k + 1, R, ro, cr, by omega, rfl, by go_num, by omega, hR, hM2, hbel⟩
          case measure => omega
set_option maxHeartbeats 1000000 in
theorem without_any7 (l : List Int) (x : Int) (ao : Option Addr) (cap n : Nat) (hn : n = l.length) (w : World) (h : RowAt w ao cap l) (hl : l.length ≤ 900) (hfit : Fit l) (hf : -9223372036854775808 ≤ x) :
    Calls Try.prog 17 #[.slice ao n cap, .int .i64 x] w fun e w' => ∃ u, e = .returned u ∧ OwnInts w' w.heap.size u (dropL l x 1) ∧ Below w.heap.size w w' := by
  subst hn
  have HS := hid (drop_any7 l x 1 ao cap _ rfl w h hl hfit hf (by omega))
  clear h hfit hf
  go_enter Try.func17, Try.ntmps17
  go_wp2_with (go_at_call 22; refine HS.out.mono ?_; rintro e w1 ⟨u, rfl, h1, hb⟩; replace h1 := hid h1; replace hb := hid hb)
  go_ret
  exact ⟨_, rfl, h1.out, hb.out⟩
end Go.Proofs.Ytdjhlgcbjdohiaa
