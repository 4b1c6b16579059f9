/- Contract of PackOrder: it returns true and leaves what was there. -/
import Derived.Test.YtnnmnadlcejjhaaWg
import Derived.Lib.QuietBelow
import Derived.BigQuiet
namespace Go.Proofs.Ytnnmnadlcejjhaa
open Go.RowKit Go.Sort
theorem lowS_at (n : Int) (k i : Nat) (h' : i < (lowS n k).size) : (((lowS n k)[i]'h').toNat : Int) = byteAt n i := by
  have : (lowS n k)[i]'h' = UInt8.ofNat (byteAt n i).toNat := by
    show (lowB n k).toArray[i]'_ = _
    simp [lowB]
  rw [this, toNat_ofNat_byte _ (byteAt_lo n i) (byteAt_hi n i)]
theorem idx_low (n : Int) (k i : Nat) (h : i < k) (w : World) : (Instr.index 9 (.string (lowS n k)) (.int .i64 (i : Int))).run Try.prog w = .ok (.int .u8 (byteAt n i)) w := by
  have hs := lowS_size n k
  have hi : i < (lowS n k).size := by omega
  have := lowS_at n k i hi
  go_simp

/-- What the j lowest bytes of n are as a number. -/
def lowN (n : Int) (j : Nat) : Int := n % ((256 ^ j : Nat) : Int)
theorem lowN_one (n : Int) : lowN n 1 = byteAt n 0 := by simp [lowN, byteAt]
theorem lowN_eight (n : Int) (h0 : 0 ≤ n) (h1 : n < 18446744073709551616) : lowN n 8 = n := by
  unfold lowN
  exact Int.emod_eq_of_lt h0 h1
theorem wrap_byte (n : Int) (j : Nat) : IntKind.u64.wrap (byteAt n j) = byteAt n j := by
  have h0 := byteAt_lo n j
  have h1 := byteAt_hi n j
  rw [IntKind.wrap_u64]
  omega
theorem or_low (n : Int) (j : Nat) (m : Int) (h0 : 0 ≤ n) (hj : j < 8) (hm : (2 : Int) ^ (8 * j) = m) : bits .or .u64 (lowN n j) (IntKind.u64.wrap (byteAt n j * m)) = lowN n (j + 1) := by
  subst hm
  obtain ⟨N, rfl⟩ := Int.eq_ofNat_of_zero_le h0
  have e1 : lowN (N : Int) j = ((N % 256 ^ j : Nat) : Int) := by simp [lowN]
  have e2 : byteAt (N : Int) j = ((N / 256 ^ j % 256 : Nat) : Int) := by
    unfold byteAt
    rw [show ((2 : Int) ^ (8 * j)) = ((256 ^ j : Nat) : Int) by rw [← two_pow_eight]; simp]
    omega
  have hp : 0 < 256 ^ j := Nat.pow_pos (by omega)
  rw [e1, e2, or_byte _ _ j (Nat.mod_lt _ hp) (Nat.mod_lt _ (by omega)) hj]
  unfold lowN
  rw [Nat.pow_succ, ← Int.natCast_emod, Nat.mod_mul, Nat.mul_comm (256 ^ j)]

set_option maxHeartbeats 1000000 in
theorem order_any (n : Int) (k : Int) (w : World) (hn0 : 0 ≤ n) (hn : n < 18446744073709551616) (hk0 : 0 ≤ k) (hk : k < 256) :
    Calls Try.prog 6 #[.int .u64 n, .int .u8 k] w fun e w' => e = .returned (.bool true) ∧ Below w.heap.size w w' := by
  go_enter Try.func6, Try.ntmps6
  go_wp2_with fail
  refine (known_any _).mono ?_
  rintro e w1 ⟨rfl, hb1⟩
  go_wp2_with fail
  refine (num_any n _ hn0 hn).mono ?_
  rintro e w2 ⟨rfl, hb2⟩
  have hsz : (lowS n 8).size = 8 := lowS_size _ _
  obtain ⟨i, hi⟩ := Int.eq_ofNat_of_zero_le (show 0 ≤ k % 8 by omega)
  have hi8 : i < 8 := by omega
  have xi := idx_low n 8 i hi8
  have x0 := idx_low n 8 0 (by omega)
  have x1 := idx_low n 8 1 (by omega)
  have x2 := idx_low n 8 2 (by omega)
  have x3 := idx_low n 8 3 (by omega)
  have x4 := idx_low n 8 4 (by omega)
  have x5 := idx_low n 8 5 (by omega)
  have x6 := idx_low n 8 6 (by omega)
  have x7 := idx_low n 8 7 (by omega)
  simp only [Int.cast_ofNat_Int] at x0 x1 x2 x3 x4 x5 x6 x7
  have hbt : (byteAt n i == n / 2 ^ (8 * i) % 256) = true := by simp [byteAt]
  have hwr := wrap_byte n
  have o1 := or_low n 1 256 hn0 (by omega) (by decide)
  rw [lowN_one] at o1
  have o2 := or_low n 2 65536 hn0 (by omega) (by decide)
  have o3 := or_low n 3 16777216 hn0 (by omega) (by decide)
  have o4 := or_low n 4 4294967296 hn0 (by omega) (by decide)
  have o5 := or_low n 5 1099511627776 hn0 (by omega) (by decide)
  have o6 := or_low n 6 281474976710656 hn0 (by omega) (by decide)
  have o7 := or_low n 7 72057594037927936 hn0 (by omega) (by decide)
  have HC : Hid (∀ d os, Calls Try.prog 8 #[.int .u64 (lowN n 8)] (grow (redrawn w2 d) os) fun e w'' => e = .returned (.string (lowS n 8)) ∧ ∃ p : Regrown, w'' = grow (redrawn w2 p.d) p.os) := fun d os => by
    rw [lowN_eight n hn0 hn]
    exact Calls.regrown_of (num_any n _ hn0 hn)
  go_wp2_with fail
  refine wp_region_quiet_below (by kernel_rfl) (by kernel_rfl) ?_
  repeat (go_big_quiet_step (exact HC.out _ _))
  refine wpQuiet_nil ?_
  intro _ hw'
  obtain ⟨⟨dq, osq⟩, hw''⟩ := hw'
  subst hw''
  have HB : Hid (Below w.heap.size w (grow (redrawn w2 dq) osq)) := (hb1.trans (hb2.mono hb1.size)).trans ((below_regrown w2 dq osq).mono (Nat.le_trans hb1.size hb2.size))
  clear xi x0 x1 x2 x3 x4 x5 x6 x7 o1 o2 o3 o4 o5 o6 o7 hbt hwr hsz hb1 hb2
  go_wp2
  go_ret
  exact ⟨rfl, HB.out⟩
end Go.Proofs.Ytnnmnadlcejjhaa
