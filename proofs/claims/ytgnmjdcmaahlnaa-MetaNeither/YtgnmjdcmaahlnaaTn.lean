/- MetaNeither, walked. -/
import Derived.Test.YtgnmjdcmaahlnaaTe
import Derived.Laws.Bits64b
namespace Go.Proofs.Ytgnmjdcmaahlnaa
open Go.RowKit Go.Sort

theorem or_one (b : Int) (h0 : 0 ≤ b) (h1 : b < 18446744073709551616) : ∃ o : Int, bits .or .u64 b 1 = o ∧ 0 ≤ o ∧ o < 18446744073709551616 ∧ o % 2 = 1 := by
  obtain ⟨n, rfl⟩ := Int.eq_ofNat_of_zero_le h0
  have hn : n < 18446744073709551616 := by omega
  refine ⟨((n ||| 1 : Nat) : Int), bits_or_u64_nat n 1 hn (by omega), by omega, ?_, ?_⟩
  · have : n ||| 1 < 2 ^ 64 := Nat.or_lt_two_pow (by omega) (by omega)
    omega
  · have : (n ||| 1) % 2 = 1 := by
      rw [Nat.mod_two_eq_one_iff_testBit_zero]
      simp
    omega
/-- One of four texts. -/
theorem idx4 (s0 s1 s2 s3 : ByteArray) (k : Int) (h0 : 0 ≤ k) (h1 : k < 4) :
    ∃ p, (∀ w, (Instr.index 41 (.agg #[.string s0, .string s1, .string s2, .string s3]) (.int .u8 k)).run Try.prog w = .ok (.string p) w) ∧ (p = s0 ∨ p = s1 ∨ p = s2 ∨ p = s3) := by
  have : k = 0 ∨ k = 1 ∨ k = 2 ∨ k = 3 := by omega
  rcases this with rfl | rfl | rfl | rfl
  · exact ⟨s0, fun w => by simp [Instr.index, go_sem], by simp⟩
  · exact ⟨s1, fun w => by simp [Instr.index, go_sem], by simp⟩
  · exact ⟨s2, fun w => by simp [Instr.index, go_sem], by simp⟩
  · exact ⟨s3, fun w => by simp [Instr.index, go_sem], by simp⟩

set_option maxRecDepth 100000 in
set_option maxHeartbeats 4000000 in
theorem neither_law (n a b : Int) (w : World) (hn0 : 0 ≤ n) (hn1 : n < 256) (ha0 : 0 ≤ a) (ha1 : a < 18446744073709551616) (hb0 : 0 ≤ b) (hb1 : b < 18446744073709551616) :
    Calls Try.prog 5 #[.int .u8 n, .int .u64 a, .int .u64 b] w fun e w' => e = .returned (.bool true) ∧ Below w.heap.size w w' := by
  obtain ⟨o, ho, ho0, ho1, ho2⟩ := or_one b hb0 hb1
  have HX := hid (fun W => bytes_plain (a - a % 2) 2 W (by omega) (by omega))
  have HY := hid (fun W => bytes_plain o 2 W ho0 ho1)
  have zx : (metaB (plainM (a - a % 2) 2)).length = 64 := metaB_len (is01 _)
  have zy : (metaB (plainM o 2)).length = 64 := metaB_len (is01 _)
  have sx : sentL (metaB (plainM (a - a % 2) 2)) 1 = [] := by
    rw [sent_meta (is01 _) (plain_ok (by omega) (by omega)), if_neg (by show ¬ (a - a % 2) % 2 = 1; omega)]
  have sy : sentL (metaB (plainM o 2)) 0 = [] := by
    rw [sent_meta (is01 _) (plain_ok (by omega) (by omega)), if_neg (by show ¬ o % 2 = 0; omega)]
  generalize metaB (plainM (a - a % 2) 2) = X at *
  generalize metaB (plainM o 2) = Y at *
  obtain ⟨p, hp, hpm⟩ := idx4 ⟨#[]⟩ ⟨#[120]⟩ (bs X ++ ⟨#[122]⟩) (bs Y) (n % 4) (by omega) (by omega)
  obtain ⟨q, hq, hqm⟩ := idx4 ⟨#[]⟩ ⟨#[120]⟩ (bs X) ((bs Y).extract 0 5) (n / 4 % 4) (by omega) (by omega)
  have hpp : sentL p.data.toList 0 = [] ∧ p.size ≤ 65 := by
    rcases hpm with rfl | rfl | rfl | rfl
    · exact ⟨sent_not (by simp) 0, by decide⟩
    · exact ⟨sent_not (by simp) 0, by decide⟩
    · have e : bs X ++ ⟨#[122]⟩ = bs (X ++ [122]) := bs_append X [122]
      rw [e, bs_list, bs_size]
      exact ⟨sent_not (by simp [zx]) 0, by simp [zx]⟩
    · rw [bs_list, bs_size]
      exact ⟨sy, by omega⟩
  have hqq : sentL q.data.toList 1 = [] ∧ q.size ≤ 65 := by
    rcases hqm with rfl | rfl | rfl | rfl
    · exact ⟨sent_not (by simp) 1, by decide⟩
    · exact ⟨sent_not (by simp) 1, by decide⟩
    · rw [bs_list, bs_size]
      exact ⟨sx, by omega⟩
    · have e : ((bs Y).extract 0 5).size = 5 := by rw [ByteArray.size_extract, bs_size]; omega
      refine ⟨sent_not ?_ 1, by omega⟩
      have e2 : ((bs Y).extract 0 5).data.toList.length = ((bs Y).extract 0 5).size := by simp
      omega
  have HC := hid (fun W => chose (a := p) (b := q) (l := []) (m := noMeta) (t := false) W (by have := hpp.2; unfold maxLen; omega) (by have := hqq.2; unfold maxLen; omega) (by rw [chooseL, hpp.1, hqq.1]; rfl) rfl)
  have zX : (bs X).size = 64 := by rw [bs_size, zx]
  have zY : (bs Y).size = 64 := by rw [bs_size, zy]
  clear hpp hqq hpm hqm sx sy zx zy
  go_enter Try.func5, Try.ntmps5
  go_wp2_with fail
  refine (known_any _).mono ?_
  rintro e w1 ⟨rfl, hb⟩
  have L1 := hid hb
  clear hb
  go_wp2_with fail
  refine (HX.out _).mono ?_
  rintro e w2 ⟨rfl, hb⟩
  have L2 := hid (bel L1.out hb)
  clear hb L1 HX
  go_wp2_with fail
  refine (HY.out _).mono ?_
  rintro e w3 ⟨rfl, hb⟩
  have L3 := hid (bel L2.out hb)
  clear hb L2 HY
  go_wp2_with fail
  refine (HC.out _).mono ?_
  rintro e w4 ⟨rfl, hb⟩
  have L4 := hid (belNew (bel L3.out hb) (.cells #[.int .u64 0, .int .i64 0, .int .i64 0, .int .i64 0, .int .i64 0, .int .i64 0] 26))
  clear hb L3 HC
  simp only [metaA, noMeta, errM]
  go_wp2_with fail
  refine (is_same _).mono ?_
  rintro e w5 ⟨rfl, rfl⟩
  go_wp2
  go_ret
  exact ⟨rfl, L4.out⟩
end Go.Proofs.Ytgnmjdcmaahlnaa
