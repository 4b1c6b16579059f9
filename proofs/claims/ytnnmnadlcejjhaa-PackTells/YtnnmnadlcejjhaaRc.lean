/- Contracts of the functions Num, Text and Sum of the reference, package copyholdref1. -/
import Derived.Test.YtnnmnadlcejjhaaRb
namespace Go.Proofs.Ytnnmnadlcejjhaa
open Go.RowKit

set_option maxHeartbeats 400000 in
theorem refNumS_any (n : Int) (w : World) (_hn0 : 0 ≤ n) (_hn : n < 18446744073709551616) :
    Calls Try.prog 9 #[.int .u64 n] w fun e w' => e = .returned (.string (lowS n 8)) ∧ Below w.heap.size w w' := by
  obtain ⟨i0, hi, hz0, hz1, hz2⟩ := info_parts Try.info5
  go_enter Try.func9, Try.ntmps9
  go_wp2_with (first
    | (at_make; refine wpList_make_full _ rfl _ _ 42 rfl w.heap.size 5 i0 (.int .u8 0) 1 Try.underlying42 hi hz0 hz1 .i64 .i64 _ _ 8 rfl rfl rfl rfl (by rw [hz2]; omega) (by unfold maxLen; omega) (Nat.le_refl _) ?_)
    | fail)
  intro w1 hown hg
  have hown0 : w1.ownsRow w.heap.size 5 1 (Value.slice (some { block := w.heap.size, off := 0 }) 8 8) 8 (lowRow n 8 0) := by
    rw [lowRow_zero, ← toList_madeCells_one]; exact hown
  have hb1 : Below w.heap.size w w1 := (Below.refl _ w).grown hg (Nat.le_refl _) (by simp)
  clear hown hg
  go_wp2
  go_loopw [4] (fun i wr => ∃ j : Nat, j ≤ 8 ∧ i = .int .i64 j ∧ wr.ownsRow w.heap.size 5 1 (Value.slice (some { block := w.heap.size, off := 0 }) 8 8) 8 (lowRow n 8 j) ∧ Below w.heap.size w wr) (fun i _ => 8 - (intOf i).toNat)
  case atStart => exact ⟨0, Nat.zero_le _, rfl, hown0, hb1⟩
  case round =>
    obtain ⟨j, hj, rfl, hown, hb⟩ := hrel
    by_cases hlt : j < 8
    · have hfz := hown.frozenAt j
      have hce : wr.cell? ⟨w.heap.size, j, none⟩ = some (.int .u8 0) := by rw [hown.cellAt j (by omega)]; exact lowRow_at n 8 j hlt
      have HS := hown.stored j (.int .u8 (n / 2 ^ (8 * j) % 256))
      rw [lowRow_set] at HS
      have H1 : Hid _ := HS.1
      clear HS hown
      go_wp2
      go_roundw
      case rel => exact ⟨j + 1, by omega, by go_num, H1.out, hb.setCell (Nat.le_refl _) _⟩
      case measure => simp [intOf]; omega
    · have ej : j = 8 := by omega
      subst ej
      rw [lowRow_full] at hown
      have hcv := conv_own hown
      clear hown
      go_wp2
      go_ret
      exact ⟨rfl, hb⟩

set_option maxHeartbeats 400000 in
theorem refSum_any (s : ByteArray) (w : World) (hs : s.size ≤ maxLen) :
    Calls Try.prog 13 #[.string s] w fun e w' => e = .returned (.int .u64 (sumN s.data.toList)) ∧ w' = w := by
  unfold maxLen at hs
  go_enter Try.func13, Try.ntmps13
  go_wp2
  go_loop [3, 4] (fun a i => ∃ j : Nat, j ≤ s.size ∧ i = .int .i64 j ∧ a = .int .u64 (sumN (s.data.toList.take j))) (fun _ i => s.size - (intOf i).toNat)
  case atStart => exact ⟨0, Nat.zero_le _, rfl, rfl⟩
  case round =>
    obtain ⟨j, hj, rfl, rfl⟩ := hrel
    by_cases hlt : j < s.size
    · have HS : Hid (sumN (s.data.toList.take (j + 1)) = (sumN (s.data.toList.take j) * 33 + s[j].toNat) % 18446744073709551616) := by
        rw [List.take_succ_eq_append_getElem (by simpa using hlt)]; exact sumN_snoc _ _
      go_wp2
      go_roundw
      case rel => exact ⟨j + 1, by omega, by go_num, by rw [HS.out, wrap_sum]⟩
      case measure => simp [intOf]; omega
    · go_wp2
      go_ret
      exact ⟨ret_int (by rw [List.take_of_length_le (by simp; omega)]), rfl⟩

/-- 'string([]byte{a, b})'. -/
theorem conv_two (w : World) (a b n : Int) (ha : a = byteAt n 0) (hb : b = byteAt n 1) :
    (convert 42 9 (.slice (some ⟨w.heap.size, 0, none⟩) 2 2)).run Try.prog (w.alloc (.cells #[.int .u8 a, .int .u8 b] 5)).drew = .ok (.string (lowS n 2)) (w.alloc (.cells #[.int .u8 a, .int .u8 b] 5)).drew := by
  rw [run_convert_bytes_arg (P := Try.prog) _ 42 5 Try.underlying42 Try.underlying5 w.heap.size 0 2 2 [a, b] rfl (fun i hi => ?_) 9 Try.underlying9]
  · subst ha hb
    rfl
  · have : i = 0 ∨ i = 1 := by omega
    rcases this with rfl | rfl <;> simp

set_option maxHeartbeats 400000 in
theorem refTextS_short (s : ByteArray) (w : World) (_hs : s.size ≤ 65535) :
    Calls Try.prog 11 #[.string s] w fun e w' => e = .returned (.string (lowS s.size 2 ++ s)) ∧ Below w.heap.size w w' := by
  have hz := lowS_size
  have hcv := conv_two w ((s.size : Int) % 256) ((s.size : Int) / 256) s.size (by simp [byteAt]) (by simp [byteAt]; omega)
  go_enter Try.func11, Try.ntmps11
  go_wp2
  go_region
  all_goals (go_wp2; go_ret; exact ⟨rfl, Below.drew ((Below.refl _ _).alloc (Nat.le_refl _) _)⟩)

set_option maxHeartbeats 400000 in
theorem refTextS_long (s : ByteArray) (w : World) (hs : 65535 < s.size) (hm : s.size ≤ maxLen) :
    Calls Try.prog 11 #[.string s] w fun e w' => e = .returned (.string (lowS 65535 2 ++ s.extract 0 65535)) ∧ Below w.heap.size w w' := by
  unfold maxLen at hm
  have hz := lowS_size
  have hcv := conv_two w 255 255 65535 (by decide) (by decide)
  go_enter Try.func11, Try.ntmps11
  go_wp2
  go_region
  all_goals (go_wp2; go_ret; exact ⟨rfl, Below.drew ((Below.refl _ _).alloc (Nat.le_refl _) _)⟩)
end Go.Proofs.Ytnnmnadlcejjhaa
