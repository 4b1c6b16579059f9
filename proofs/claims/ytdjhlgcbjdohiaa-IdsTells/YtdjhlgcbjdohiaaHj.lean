/- Contract of the reference's Both, of slices that are read. -/
import Derived.Test.YtdjhlgcbjdohiaaHi
namespace Go.Proofs.Ytdjhlgcbjdohiaa
open Go.RowKit

/-- The reference's Both, as a list. -/
def foldW (a b : List Int) : List Int := b.foldl withL a
theorem foldW_succ (a b : List Int) (k : Nat) (h : k < b.length) : foldW a (b.take (k + 1)) = withL (foldW a (b.take k)) (b.getD k 0) := by
  rw [List.take_succ_eq_append_getElem h, foldW, List.foldl_append]
  simp [foldW, List.getD, h]
theorem foldW_length (a b : List Int) (k : Nat) : (foldW a (b.take k)).length ≤ a.length + k := by
  induction k with
  | zero => simp [foldW]
  | succ k ih =>
    by_cases h : k < b.length
    · rw [foldW_succ a b k h]
      have := withL_length (foldW a (b.take k)) (b.getD k 0)
      omega
    · rw [List.take_of_length_le (by omega)] at ih ⊢
      omega
theorem foldW_mem (a b : List Int) (x : Int) : x ∈ foldW a b ↔ x ∈ a ∨ x ∈ b := by
  induction b generalizing a with
  | nil => simp [foldW]
  | cons y b ih =>
    rw [foldW, List.foldl_cons]
    rw [show b.foldl withL (withL a y) = foldW (withL a y) b from rfl, ih, withL_merge, mergeL_mem]
    simp [or_assoc]
theorem foldW_up (a b : List Int) (ha : Up a) : Up (foldW a b) := by
  induction b generalizing a with
  | nil => simpa [foldW] using ha
  | cons y b ih =>
    rw [foldW, List.foldl_cons]
    rw [show b.foldl withL (withL a y) = foldW (withL a y) b from rfl, withL_merge]
    exact ih _ (mergeL_up _ _ ha (up_short (by simp)))
theorem foldW_merge (a b : List Int) (ha : Up a) (hb : Up b) : foldW a b = mergeL a b :=
  up_ext _ _ (foldW_up a b ha) (mergeL_up a b ha hb) (fun x => by rw [foldW_mem, mergeL_mem])
set_option maxRecDepth 10000 in
set_option maxHeartbeats 4000000 in
theorem rboth_any7 (a b : List Int) (ao bo : Option Addr) (ca cb n m : Nat) (hn : n = a.length) (hm : m = b.length) (w : World) (ha : RowAt w ao ca a) (hb : RowAt w bo cb b) (hl : a.length + b.length ≤ 800) :
    Calls Try.prog 20 #[.slice ao n ca, .slice bo m cb] w fun e w' => ∃ uo uc, e = .returned (.slice uo (foldW a b).length uc) ∧ RowAt w' uo uc (foldW a b) ∧ Below w.heap.size w w' := by
  subst hn hm
  obtain ⟨i0, hi, hz0, hz1, hz2⟩ := info_parts Try.infoInt
  have HB := hid hb
  have A1 := hid (append_row i0 hi hz0 hz1 hz2 (w0 := w) (.slice none 0 0) [] (OwnInts.nil w w.heap.size) ha (Below.refl _ _) (Nat.le_refl _) (by simp; omega) a.length rfl)
  have hF0 : Hid (foldW a (b.take 0) = a) := hid (by simp [foldW])
  have hFN : Hid (foldW a (b.take b.length) = foldW a b) := hid (by rw [List.take_length])
  have hFS := hid (foldW_succ a b)
  have hFL := hid (foldW_length a b)
  generalize foldW a b = D at *
  clear ha hb
  go_enter Try.func20, Try.ntmps20
  go_wp2_with (first
    | (at_builtin; refine wpList_append_any rfl (.const (.slice none 0 0)) (.tmp 7) 22 rfl _ _ rfl rfl (A1.out _) ?_; rintro v1 w1 ⟨h1, b1, _⟩; rw [List.nil_append] at h1; obtain ⟨uo, uc, rfl, hr1⟩ := RowAt.own h1; clear h1; replace hr1 := hid hr1; replace b1 := hid b1)
    | fail)
  go_loopg [5, 6] b.length (fun g vr j wr => ∃ (k : Nat) (R : List Int) (ro : Option Addr) (cr : Nat), k + g = b.length ∧ vr = .slice ro R.length cr ∧ j = .int .i64 (k : Int) ∧ Hid (R = foldW a (b.take k)) ∧ Hid (RowAt wr ro cr R) ∧ Hid (Below w.heap.size w wr))
  case atStart => exact ⟨0, a, uo, uc, by omega, rfl, rfl, hid hF0.out.symm, hr1, b1⟩
  case round =>
    obtain ⟨k, R, ro, cr, hk, rfl, rfl, hM, hR, hbel⟩ := hrel
    clear hr1 b1 A1
    cases gk with
    | zero =>
      have hke : k = b.length := by omega
      subst hke
      have hM2 := hid (hM.out.trans hFN.out)
      clear hM HB
      have hM3 := hM2.out
      subst hM3
      clear hM2
      go_wp2
      go_ret
      exact ⟨ro, cr, rfl, hR.out, hbel.out⟩
    | succ g =>
      have hkb : k < b.length := by omega
      obtain ⟨pa, hx, hc, hpa⟩ := HB.out.get k hkb
      have hcell : wr.cell? pa = some (Value.int .i64 (b.getD k 0)) := (hbel.out.cell (p := pa) hpa).trans hc
      have hM2 := hFS.out k hkb
      rw [← hM.out] at hM2
      have hlR := hFL.out k
      rw [← hM.out] at hlR
      generalize b.getD k 0 = y at *
      clear hc HB hpa hM hFS hFL hF0 hFN
      replace hM2 := hid hM2
      go_wp2_with fail
      refine (rwith_any7 R y ro cr _ rfl wr hR.out (by omega)).mono ?_
      rintro e w2 ⟨uo2, uc2, rfl, h2, b2⟩
      have hb2 := hid (hbel.out.trans (b2.mono hbel.out.size))
      replace h2 := hid h2
      clear b2 hbel hR hcell hlR
      generalize withL R y = R2 at *
      go_wp2
      go_roundg g
      case rel => exact ⟨k + 1, R2, uo2, uc2, by omega, rfl, by go_num, hid hM2.out.symm, h2, hb2⟩
      case measure => omega
end Go.Proofs.Ytdjhlgcbjdohiaa
