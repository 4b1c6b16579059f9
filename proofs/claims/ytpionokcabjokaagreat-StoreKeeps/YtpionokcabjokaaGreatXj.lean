/- Contracts of the reference Cut of package copyholdref1: Take and Num. Contract of the reference Cut of package copyholdref1: Text. Contracts of the functions Num, Text and Sum of the reference, package copyholdref1. -/
import Derived.Test.YtpionokcabjokaaGreatXa
import Derived.Deep.QuietTactic
import Derived.BigQuiet
namespace Go.Proofs.YtpionokcabjokaaGreat
open Go.RowKit

theorem arr_size (l : List UInt8) : (⟨l.toArray⟩ : ByteArray).size = l.length := by simp [ByteArray.size]
theorem arr_take (l : List UInt8) (n : Nat) : (⟨l.toArray⟩ : ByteArray).extract 0 n = ⟨(l.take n).toArray⟩ := by
  apply ByteArray.ext
  apply Array.toList_inj.1
  rw [extract_list]
theorem arr_drop (l : List UInt8) (n k : Nat) (h : l.length ≤ k) : (⟨l.toArray⟩ : ByteArray).extract n k = ⟨(l.drop n).toArray⟩ := by
  apply ByteArray.ext
  apply Array.toList_inj.1
  rw [ByteArray.data_extract]
  simp
  exact List.take_of_length_le (by simp; omega)

theorem or_high (a b : Nat) (ha : a < 256 ^ 7) (hb : b < 256) : bits .or .u64 (IntKind.u64.wrap ((a : Int) * 256)) (IntKind.u64.wrap (b : Int)) = ((b + 256 * a : Nat) : Int) := by
  have ha' : a < 72057594037927936 := ha
  rw [IntKind.wrap_u64, IntKind.wrap_u64, show (a : Int) * 256 % 18446744073709551616 = ((a * 256 : Nat) : Int) by omega, show (b : Int) % 18446744073709551616 = ((b : Nat) : Int) by omega]
  rw [u64_or_nat _ _ (by omega) (by omega), nat_join 8 (a * 256) b (by simp) (by omega), Nat.add_comm, Nat.mul_comm]
theorem leN_step (f : List UInt8) (j : Nat) (h : j < f.length) : leN (f.drop j) = f[j].toNat + 256 * leN (f.drop (j + 1)) := by
  rw [List.drop_eq_getElem_cons h, leN]

end Go.Proofs.YtpionokcabjokaaGreat

namespace Go.Proofs.YtpionokcabjokaaGreat
open Go.RowKit

theorem or_two (a b : Nat) (ha : a < 256) (hb : b < 256) : bits .or .i64 (a : Int) ((b : Int) * 256) = ((a + 256 * b : Nat) : Int) := by
  rw [show (b : Int) * 256 = ((b * 256 : Nat) : Int) by omega]
  show IntKind.i64.wrap ((BitVec.ofInt 64 (a : Int) ||| BitVec.ofInt 64 ((b * 256 : Nat) : Int)).toNat : Int) = _
  rw [BitVec.toNat_or, ofInt_u64 a (by omega), ofInt_u64 (b * 256) (by omega), Nat.or_comm, nat_join 8 (b * 256) a (by simp) (by omega), IntWalk.i64_in _ (by omega)]
  omega
theorem textN_two (l : List UInt8) (h : 2 ≤ l.length) : textN l = l[0].toNat + 256 * l[1].toNat := by
  match l, h with
  | a :: b :: r, _ => simp [textN, leN]
theorem idx_list (l : List UInt8) (i : Nat) (h : i < l.length) (w : World) : (Instr.index 9 (.string ⟨l.toArray⟩) (.int .i64 (i : Int))).run Tryz.prog w = .ok (.int .u8 (l[i].toNat : Int)) w := by
  have hs := arr_size l
  have hi : i < (⟨l.toArray⟩ : ByteArray).size := by omega
  have : (⟨l.toArray⟩ : ByteArray)[i] = l[i] := rfl
  go_simp

theorem below_drawsR (w : World) (n : Nat) : Below w.heap.size w (w.drewN n) := ⟨rfl, rfl, rfl, Nat.le_refl _, fun _ _ => rfl⟩
theorem grown_two {a b c : World} {k : Nat} (h : a.grownBy b (some k)) (g : b.grownBy c (some k)) : a.grownBy c (some k) :=
  ⟨g.os.trans h.os, g.tape.trans h.tape, g.output.trans h.output, Nat.le_trans h.size g.size, fun i hi hne => (g.block i (Nat.lt_of_lt_of_le hi h.size) hne).trans (h.block i hi hne)⟩

end Go.Proofs.YtpionokcabjokaaGreat

namespace Go.Proofs.YtpionokcabjokaaGreat
open Go.RowKit

set_option maxRecDepth 100000 in
set_option maxHeartbeats 1000000 in
theorem refNumS_any (n : Int) (w : World) (_hn0 : 0 ≤ n) (_hn : n < 18446744073709551616) :
    Calls Tryz.prog 33 #[.int .u64 n] w fun e w' => e = .returned (.string (lowS n 8)) ∧ Below w.heap.size w w' := by
  obtain ⟨i0, hi, hz0, hz1, hz2⟩ := info_parts Tryz.info5
  go_enter Tryz.func33, Tryz.ntmps33
  go_wp2_with (first
    | (at_make; refine wpList_make_full _ rfl _ _ 105 rfl w.heap.size 5 i0 (.int .u8 0) 1 Tryz.underlying105 hi hz0 hz1 .i64 .i64 _ _ 8 rfl rfl rfl rfl (by rw [hz2]; omega) (by unfold maxLen; omega) (Nat.le_refl _) ?_)
    | fail)
  intro w1 hown hg
  have hown0 : w1.ownsRow w.heap.size 5 1 (Value.slice (some { block := w.heap.size, off := 0 }) 8 8) 8 (lowRow n 8 0) := by
    rw [lowRow_zero, ← toList_madeCells_one]; exact hown
  have hb1 : Below w.heap.size w w1 := (Below.refl _ w).grown hg (Nat.le_refl _) (by simp)
  clear hown hg
  go_wp2
  go_loopw [4] (fun i wr => ∃ j : Nat, j ≤ 8 ∧ i = .int .i64 j ∧ wr.ownsRow w.heap.size 5 1 (Value.slice (some { block := w.heap.size, off := 0 }) 8 8) 8 (lowRow n 8 j) ∧ Below w.heap.size w wr) (fun i _ => 8 - (intOf i).toNat)
  case atStart => exact ⟨0, Nat.zero_le _, rfl, hown0, hb1⟩
  case round =>
    obtain ⟨j, hj, rfl, hown, hb⟩ := hrel
    by_cases hlt : j < 8
    · have hfz := hown.frozenAt j
      have hce : wr.cell? ⟨w.heap.size, j, none⟩ = some (.int .u8 0) := by rw [hown.cellAt j (by omega)]; exact lowRow_at n 8 j hlt
      have HS := hown.stored j (.int .u8 (n / 2 ^ (8 * j) % 256))
      rw [lowRow_set] at HS
      have H1 : Hid _ := HS.1
      clear HS hown
      go_wp2
      go_roundw
      case rel => exact ⟨j + 1, by omega, by go_num, H1.out, hb.setCell (Nat.le_refl _) _⟩
      case measure => simp [intOf]; omega
    · have ej : j = 8 := by omega
      subst ej
      rw [lowRow_full] at hown
      have hcv := conv_own hown
      clear hown
      go_wp2
      go_ret
      exact ⟨rfl, hb⟩

set_option maxRecDepth 100000 in
set_option maxHeartbeats 1000000 in
theorem refSum_any (s : ByteArray) (w : World) (hs : s.size ≤ maxLen) :
    Calls Tryz.prog 35 #[.string s] w fun e w' => e = .returned (.int .u64 (sumN s.data.toList)) ∧ w' = w := by
  unfold maxLen at hs
  go_enter Tryz.func35, Tryz.ntmps35
  go_wp2
  go_loop [3, 4] (fun a i => ∃ j : Nat, j ≤ s.size ∧ i = .int .i64 j ∧ a = .int .u64 (sumN (s.data.toList.take j))) (fun _ i => s.size - (intOf i).toNat)
  case atStart => exact ⟨0, Nat.zero_le _, rfl, rfl⟩
  case round =>
    obtain ⟨j, hj, rfl, rfl⟩ := hrel
    by_cases hlt : j < s.size
    · have HS : Hid (sumN (s.data.toList.take (j + 1)) = (sumN (s.data.toList.take j) * 33 + s[j].toNat) % 18446744073709551616) := by
        rw [List.take_succ_eq_append_getElem (by simpa using hlt)]; exact sumN_snoc _ _
      go_wp2
      go_roundw
      case rel => exact ⟨j + 1, by omega, by go_num, by rw [HS.out, wrap_sum]⟩
      case measure => simp [intOf]; omega
    · go_wp2
      go_ret
      exact ⟨ret_int (by rw [List.take_of_length_le (by simp; omega)]), rfl⟩

/-- 'string([]byte{a, b})'. -/
theorem conv_two (w : World) (a b n : Int) (ha : a = byteAt n 0) (hb : b = byteAt n 1) :
    (convert 105 9 (.slice (some ⟨w.heap.size, 0, none⟩) 2 2)).run Tryz.prog (w.alloc (.cells #[.int .u8 a, .int .u8 b] 5)).drew = .ok (.string (lowS n 2)) (w.alloc (.cells #[.int .u8 a, .int .u8 b] 5)).drew := by
  rw [run_convert_bytes_arg (P := Tryz.prog) _ 105 5 Tryz.underlying105 Tryz.underlying5 w.heap.size 0 2 2 [a, b] rfl (fun i hi => ?_) 9 Tryz.underlying9]
  · subst ha hb
    rfl
  · have : i = 0 ∨ i = 1 := by omega
    rcases this with rfl | rfl <;> simp

set_option maxRecDepth 100000 in
set_option maxHeartbeats 1000000 in
theorem refTextS_short (s : ByteArray) (w : World) (_hs : s.size ≤ 65535) :
    Calls Tryz.prog 31 #[.string s] w fun e w' => e = .returned (.string (lowS s.size 2 ++ s)) ∧ Below w.heap.size w w' := by
  have hz := lowS_size
  have hcv := conv_two w ((s.size : Int) % 256) ((s.size : Int) / 256) s.size (by simp [byteAt]) (by simp [byteAt]; omega)
  go_enter Tryz.func31, Tryz.ntmps31
  go_wp2
  go_region
  all_goals (go_wp2; go_ret; exact ⟨rfl, Below.drew ((Below.refl _ _).alloc (Nat.le_refl _) _)⟩)

set_option maxRecDepth 100000 in
set_option maxHeartbeats 1000000 in
theorem refTextS_long (s : ByteArray) (w : World) (hs : 65535 < s.size) (hm : s.size ≤ maxLen) :
    Calls Tryz.prog 31 #[.string s] w fun e w' => e = .returned (.string (lowS 65535 2 ++ s.extract 0 65535)) ∧ Below w.heap.size w w' := by
  unfold maxLen at hm
  have hz := lowS_size
  have hcv := conv_two w 255 255 65535 (by decide) (by decide)
  go_enter Tryz.func31, Tryz.ntmps31
  go_wp2
  go_region
  all_goals (go_wp2; go_ret; exact ⟨rfl, Below.drew ((Below.refl _ _).alloc (Nat.le_refl _) _)⟩)
end Go.Proofs.YtpionokcabjokaaGreat
