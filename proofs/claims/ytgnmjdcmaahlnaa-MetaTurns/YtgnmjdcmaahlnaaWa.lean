/- Contracts of the inner functions of package pack: numbers and texts as bytes. -/
import Derived.Test.YtgnmjdcmaahlnaaRows
import Derived.Test.YtgnmjdcmaahlnaaBytes
namespace Go.Proofs.Ytgnmjdcmaahlnaa
open Go.RowKit
theorem Try.info5 : (Try.prog.info? 5).map (fun i => (i.zero, i.size, i.bytes)) = some (some (.int .u8 0), 1, 1) := by kernel_rfl

/-- 'string(b)' where the call's own row b holds the bytes l. -/
theorem conv_own {w : World} {base g cap n : Nat} {l : List UInt8} (h : w.ownsRow base 5 1 (.slice (some ⟨g, 0, none⟩) n cap) n (l.map fun b => .int .u8 (b.toNat : Int))) :
    (convert 109 9 (.slice (some ⟨g, 0, none⟩) n cap)).run Try.prog w = .ok (.string ⟨l.toArray⟩) w := by
  have hl : n = l.length := by have := h.1; simpa using this.symm
  subst hl
  exact run_convert_bytes_back w 109 9 5 ⟨g, 0, none⟩ cap l Try.underlying109 Try.underlying5 Try.underlying9 (fun j hj => h.cells (g := g) rfl j _ (by simp [hj]))

set_option maxHeartbeats 400000 in
theorem lowest_any (n : Int) (k : Nat) (w : World) (_hn0 : 0 ≤ n) (_hn : n < 18446744073709551616) (hk : k ≤ 8) :
    Calls Try.prog 34 #[.int .u64 n, .int .i64 k] w fun e w' => e = .returned (.string (lowS n k)) ∧ Below w.heap.size w w' := by
  obtain ⟨i0, hi, hz0, hz1, hz2⟩ := info_parts Try.info5
  go_enter Try.func34, Try.ntmps34
  go_wp2_with (first
    | (at_make; refine wpList_make_full _ rfl _ _ 109 rfl w.heap.size 5 i0 (.int .u8 0) 1 Try.underlying109 hi hz0 hz1 .i64 .i64 _ _ k rfl rfl rfl rfl (by rw [hz2]; omega) (by unfold maxLen; omega) (Nat.le_refl _) ?_)
    | fail)
  intro w1 hown hg
  have hown0 : w1.ownsRow w.heap.size 5 1 (Value.slice (some { block := w.heap.size, off := 0 }) k k) k (lowRow n k 0) := by
    rw [lowRow_zero, ← toList_madeCells_one]; exact hown
  have hb1 : Below w.heap.size w w1 := (Below.refl _ w).grown hg (Nat.le_refl _) (by simp)
  clear hown hg
  go_wp2
  go_loopw [11] (fun i wr => ∃ j : Nat, j ≤ k ∧ i = .int .i64 j ∧ wr.ownsRow w.heap.size 5 1 (Value.slice (some { block := w.heap.size, off := 0 }) k k) k (lowRow n k j) ∧ Below w.heap.size w wr) (fun i _ => k - (intOf i).toNat)
  case atStart => exact ⟨0, Nat.zero_le _, rfl, hown0, hb1⟩
  case round =>
    obtain ⟨j, hj, rfl, hown, hb⟩ := hrel
    by_cases hlt : j < k
    · have hfz := hown.frozenAt j
      have hce : wr.cell? ⟨w.heap.size, j, none⟩ = some (.int .u8 0) := by rw [hown.cellAt j (by omega)]; exact lowRow_at n k j hlt
      have HS := hown.stored j (.int .u8 (n / 2 ^ (8 * j) % 256))
      rw [lowRow_set] at HS
      have H1 : Hid _ := HS.1
      clear HS hown
      go_wp2
      go_roundw
      case rel => exact ⟨j + 1, by omega, by go_num, H1.out, hb.setCell (Nat.le_refl _) _⟩
      case measure => simp [intOf]; omega
    · have ej : j = k := by omega
      subst ej
      rw [lowRow_full] at hown
      have hcv := conv_own hown
      clear hown
      go_wp2
      go_ret
      exact ⟨rfl, hb⟩

set_option maxHeartbeats 400000 in
theorem num_any (n : Int) (w : World) (hn0 : 0 ≤ n) (hn : n < 18446744073709551616) :
    Calls Try.prog 20 #[.int .u64 n] w fun e w' => e = .returned (.string (lowS n 8)) ∧ Below w.heap.size w w' := by
  go_enter Try.func20, Try.ntmps20
  go_wp2_with (go_at_call 34; refine (lowest_any n 8 _ hn0 hn (by omega)).mono ?_; rintro e w' ⟨rfl, hb⟩)
  go_ret
  exact ⟨rfl, hb⟩

set_option maxHeartbeats 400000 in
theorem text_short (s : ByteArray) (w : World) (_hs : s.size ≤ 65535) :
    Calls Try.prog 29 #[.string s] w fun e w' => e = .returned (.string (lowS s.size 2 ++ s)) ∧ Below w.heap.size w w' := by
  have hz := lowS_size
  go_enter Try.func29, Try.ntmps29
  go_wp2_with (go_at_call 34; refine (lowest_any _ 2 _ (by omega) (by omega) (by omega)).mono ?_; rintro e w' ⟨rfl, hb⟩)
  go_ret
  exact ⟨rfl, hb⟩

set_option maxHeartbeats 400000 in
theorem text_long (s : ByteArray) (w : World) (hs : 65535 < s.size) (hm : s.size ≤ maxLen) :
    Calls Try.prog 29 #[.string s] w fun e w' => e = .returned (.string (lowS 65535 2 ++ s.extract 0 65535)) ∧ Below w.heap.size w w' := by
  unfold maxLen at hm
  have hz := lowS_size
  go_enter Try.func29, Try.ntmps29
  go_wp2_with (go_at_call 34; refine (lowest_any _ 2 _ (by omega) (by omega) (by omega)).mono ?_; rintro e w' ⟨rfl, hb⟩)
  go_ret
  exact ⟨by rw [Nat.min_eq_left (by omega)]; rfl, hb⟩

set_option maxHeartbeats 400000 in
theorem number_own (l : List UInt8) (base g cap : Nat) (w : World) (hl : l.length ≤ 8) (ho : w.ownsRow base 5 1 (.slice (some ⟨g, 0, none⟩) l.length cap) l.length (l.map fun b => .int .u8 (b.toNat : Int))) :
    Calls Try.prog 70 #[.slice (some ⟨g, 0, none⟩) l.length cap] w fun e w' => e = .returned (.int .u64 (leN l)) ∧ w' = w := by
  have hc : ∀ j (h : j < l.length), w.cell? ⟨g, j, none⟩ = some (.int .u8 (l[j].toNat : Int)) := by
    intro j h; rw [ho.cellAt j (by omega)]; simp [h]
  clear ho
  go_enter Try.func70, Try.ntmps70
  go_wp2
  go_loop [3, 8] (fun a i => ∃ j : Nat, j ≤ l.length ∧ i = .int .i64 j ∧ a = .int .u64 (leN (l.take j))) (fun _ i => l.length - (intOf i).toNat)
  case atStart => exact ⟨0, Nat.zero_le _, rfl, rfl⟩
  case round =>
    obtain ⟨j, hj, rfl, rfl⟩ := hrel
    by_cases hlt : j < l.length
    · have hcj := hc j hlt
      have hbj : (l[j].toNat : Int) < 256 := by have := l[j].toNat_lt; omega
      have HS : Hid (leN (l.take (j + 1)) = leN (l.take j) + l[j].toNat * 256 ^ j) := leN_take_succ l j hlt
      have HO : Hid (bits .or .u64 (leN (l.take j) : Int) (IntKind.u64.wrap ((l[j].toNat : Int) * 2 ^ (8 * j))) = ((leN (l.take j) + l[j].toNat * 256 ^ j : Nat) : Int)) :=
        or_byte _ _ j (by have := leN_lt (l.take j); rwa [List.length_take, Nat.min_eq_left (by omega)] at this) (by have := l[j].toNat_lt; omega) (by omega)
      clear hc
      go_wp2
      go_roundw
      case rel => exact ⟨j + 1, by omega, by go_num, by rw [HO.out, HS.out]⟩
      case measure => simp [intOf]; omega
    · go_wp2
      go_ret
      exact ⟨ret_int (by rw [List.take_of_length_le (by omega)]), rfl⟩

set_option maxHeartbeats 400000 in
theorem number_none (ao : Option Addr) (cap : Nat) (w : World) :
    Calls Try.prog 70 #[.slice ao 0 cap] w fun e w' => e = .returned (.int .u64 0) ∧ w' = w := by
  go_enter Try.func70, Try.ntmps70
  go_wp2
  refine wp_loop_rounds 1 ?_
  rw [rounds_succ]
  go_wp2
  go_ret
  exact ⟨rfl, rfl⟩
end Go.Proofs.Ytgnmjdcmaahlnaa
