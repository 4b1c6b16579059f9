/- Contract of Sum of package pack. -/
import Derived.Test.YtgnmjdcmaahlnaaWd
namespace Go.Proofs.Ytgnmjdcmaahlnaa
open Go.RowKit
/-- Sum's number. -/
def sumN (l : List UInt8) : Nat := l.foldl (fun h b => (h * 33 + b.toNat) % 18446744073709551616) 5381
theorem sumN_snoc (l : List UInt8) (b : UInt8) : sumN (l ++ [b]) = (sumN l * 33 + b.toNat) % 18446744073709551616 := by simp [sumN, List.foldl_append]
theorem wrap_sum (a b : Nat) : IntKind.u64.wrap (IntKind.u64.wrap ((a : Int) * 33) + IntKind.u64.wrap (b : Int)) = (((a * 33 + b) % 18446744073709551616 : Nat) : Int) := by
  simp only [IntKind.wrap_u64]
  omega
set_option maxHeartbeats 400000 in
theorem sum_any (s : ByteArray) (w : World) (hs : s.size ≤ maxLen) :
    Calls Try.prog 21 #[.string s] w fun e w' => e = .returned (.int .u64 (sumN s.data.toList)) ∧ w' = w := by
  unfold maxLen at hs
  go_enter Try.func21, Try.ntmps21
  go_wp2
  go_loop [3, 7] (fun a i => ∃ j : Nat, j ≤ s.size ∧ i = .int .i64 j ∧ a = .int .u64 (sumN (s.data.toList.take j))) (fun _ i => s.size - (intOf i).toNat)
  case atStart => exact ⟨0, Nat.zero_le _, rfl, rfl⟩
  case round =>
    obtain ⟨j, hj, rfl, rfl⟩ := hrel
    by_cases hlt : j < s.size
    · have HS : Hid (sumN (s.data.toList.take (j + 1)) = (sumN (s.data.toList.take j) * 33 + s[j].toNat) % 18446744073709551616) := by
        rw [List.take_succ_eq_append_getElem (by simpa using hlt)]; exact sumN_snoc _ _
      go_wp2
      go_roundw
      case rel => exact ⟨j + 1, by omega, by go_num, by rw [HS.out, wrap_sum]⟩
      case measure => simp [intOf]; omega
    · go_wp2
      go_ret
      exact ⟨ret_int (by rw [List.take_of_length_le (by simp; omega)]), rfl⟩
end Go.Proofs.Ytgnmjdcmaahlnaa
