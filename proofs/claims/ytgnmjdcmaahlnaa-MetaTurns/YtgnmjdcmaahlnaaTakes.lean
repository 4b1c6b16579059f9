/- Plain facts on what is taken of bytes that were put one behind the other. -/
import Derived.Test.YtgnmjdcmaahlnaaWd
import Derived.Test.YtgnmjdcmaahlnaaWf
namespace Go.Proofs.Ytgnmjdcmaahlnaa
open Go.RowKit

theorem lowB_succ (n : Int) (k : Nat) : lowB n (k + 1) = lowB n k ++ [UInt8.ofNat (byteAt n k).toNat] := by simp [lowB, List.range_succ]
theorem byteAt_nat (N j : Nat) : byteAt (N : Int) j = ((N / 256 ^ j % 256 : Nat) : Int) := by
  unfold byteAt
  rw [show ((2 : Int) ^ (8 * j)) = ((256 ^ j : Nat) : Int) by rw [← two_pow_eight]; simp]
  omega
theorem leN_lowB (N : Nat) : ∀ k, leN (lowB (N : Int) k) = N % 256 ^ k
  | 0 => by simp [lowB, leN, Nat.mod_one]
  | k + 1 => by
    rw [lowB_succ, leN_snoc, leN_lowB N k, lowB_length, byteAt_nat, Nat.pow_succ, Nat.mod_mul, Int.toNat_natCast, UInt8.toNat_ofNat', Nat.mod_mod, Nat.mul_comm (256 ^ k)]

theorem extract_list (s : ByteArray) (k : Nat) : (s.extract 0 k).data.toList = s.data.toList.take k := by simp [ByteArray.extract, ByteArray.copySlice]
theorem append_list (a b : ByteArray) : (a ++ b).data.toList = a.data.toList ++ b.data.toList := by simp
theorem lowS_list (n : Int) (k : Nat) : (lowS n k).data.toList = lowB n k := rfl

/-- What is cut off ahead of its number's end gives no number. -/
theorem num_lacks (l : List UInt8) (sh : Bool) (h : l.length < 8) : numV l sh = 0 ∧ numL l sh = l ∧ (!numOk l sh) = true := by
  have : numOk l sh = false := by simp [numOk]; omega
  simp [numV, numL, this]
theorem num_after (l : List UInt8) : numV l true = 0 ∧ numL l true = l ∧ (!numOk l true) = true := by simp [numV, numL, numOk]
theorem text_after (l : List UInt8) : textV l true = [] ∧ textL l true = l ∧ (!textOk l true) = true := by simp [textV, textL, textOk]
theorem num_there (n : Int) (h0 : 0 ≤ n) (h1 : n < 18446744073709551616) (r : List UInt8) : numV (lowB n 8 ++ r) false = n.toNat ∧ numL (lowB n 8 ++ r) false = r ∧ (!numOk (lowB n 8 ++ r) false) = false := by
  obtain ⟨N, rfl⟩ := Int.eq_ofNat_of_zero_le h0
  have hl := lowB_length (N : Int) 8
  have hok : numOk (lowB (N : Int) 8 ++ r) false = true := by simp [numOk, hl]
  have e : leN (lowB (N : Int) 8) = N := by rw [leN_lowB]; exact Nat.mod_eq_of_lt (by omega)
  refine ⟨?_, ?_, by simp [hok]⟩
  · simp only [numV, hok, if_true]
    rw [List.take_left' hl, e]
    rfl
  · simp only [numL, hok, if_true]
    exact List.drop_left' hl
theorem text_there (f r : List UInt8) (h : f.length ≤ 65535) : textV (lowB f.length 2 ++ (f ++ r)) false = f ∧ textL (lowB f.length 2 ++ (f ++ r)) false = r ∧ (!textOk (lowB f.length 2 ++ (f ++ r)) false) = false := by
  have hl := lowB_length (f.length : Int) 2
  have e : textN (lowB f.length 2 ++ (f ++ r)) = f.length := by
    unfold textN
    rw [List.take_left' hl, leN_lowB]
    exact Nat.mod_eq_of_lt (by omega)
  have hok : textOk (lowB f.length 2 ++ (f ++ r)) false = true := by simp [textOk, e, hl]
  refine ⟨?_, ?_, by simp [hok]⟩
  · simp only [textV, hok, if_true, e]
    rw [List.drop_left' hl, List.take_left' rfl]
  · simp only [textL, hok, if_true, e]
    rw [← List.append_assoc]
    exact List.drop_left' (by simp [hl])
/-- What is cut off ahead of its text's end gives no text. -/
theorem text_lacks (f : List UInt8) (k : Nat) (h : f.length ≤ 65535) (hk : k < 2 + f.length) : textV ((lowB f.length 2 ++ f).take k) false = [] ∧ textL ((lowB f.length 2 ++ f).take k) false = (lowB f.length 2 ++ f).take k ∧ (!textOk ((lowB f.length 2 ++ f).take k) false) = true := by
  have hl := lowB_length (f.length : Int) 2
  have hlen : ((lowB f.length 2 ++ f).take k).length = k := by simp [hl]; omega
  have hok : textOk ((lowB f.length 2 ++ f).take k) false = false := by
    simp only [textOk, hlen]
    by_cases h2 : k < 2
    · simp; omega
    · have e : textN ((lowB f.length 2 ++ f).take k) = f.length := by
        unfold textN
        rw [List.take_take, Nat.min_eq_left (by omega), List.take_left' hl, leN_lowB]
        exact Nat.mod_eq_of_lt (by omega)
      simp [e]; omega
  simp [textV, textL, hok]
end Go.Proofs.Ytgnmjdcmaahlnaa
