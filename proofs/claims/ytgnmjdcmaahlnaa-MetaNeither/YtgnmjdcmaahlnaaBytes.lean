/- Plain facts on numbers written as bytes, the lowest first; no program is named here. -/
import Derived.WalkKit
import Derived.WalkSpells
import Derived.WalkLawsBesides
namespace Go.Proofs.Ytgnmjdcmaahlnaa
open Go.RowKit

/-- A fact kept from the walk, under its own name for it. -/
theorem hid {p : Prop} (h : p) : Hid p := h
theorem ret_true {b : Bool} (h : b = true) : Ending.returned (.bool b) = .returned (.bool true) := by rw [h]
theorem ret_int {k : IntKind} {a b : Int} (h : a = b) : Ending.returned (.int k a) = .returned (.int k b) := by rw [h]
theorem ret_str {a b : ByteArray} (h : a = b) : Ending.returned (.string a) = .returned (.string b) := by rw [h]
/-- Byte i of n. -/
def byteAt (n : Int) (i : Nat) : Int := n / 2 ^ (8 * i) % 256
theorem byteAt_lo (n : Int) (i : Nat) : 0 ≤ byteAt n i := Int.emod_nonneg _ (by decide)
theorem byteAt_hi (n : Int) (i : Nat) : byteAt n i < 256 := Int.emod_lt_of_pos _ (by decide)
/-- The row that 'lowestFirst' has filled as far as j. -/
def lowRow (n : Int) (k j : Nat) : List Value := (List.range k).map fun i => .int .u8 (if i < j then byteAt n i else 0)
/-- The k lowest bytes of n. -/
def lowB (n : Int) (k : Nat) : List UInt8 := (List.range k).map fun i => UInt8.ofNat (byteAt n i).toNat
def lowS (n : Int) (k : Nat) : ByteArray := ⟨(lowB n k).toArray⟩
theorem lowB_length (n : Int) (k : Nat) : (lowB n k).length = k := by simp [lowB]
theorem lowS_size (n : Int) (k : Nat) : (lowS n k).size = k := by simp [lowS, ByteArray.size, lowB_length]
theorem lowRow_zero (n : Int) (k : Nat) : lowRow n k 0 = List.replicate k (.int .u8 0) := by
  apply List.ext_getElem?
  intro j
  by_cases hj : j < k <;> simp [lowRow, hj]
theorem lowRow_at (n : Int) (k j : Nat) (hj : j < k) : (lowRow n k j)[j]? = some (.int .u8 0) := by simp [lowRow, hj]
theorem lowRow_set (n : Int) (k j : Nat) : (lowRow n k j).set j (.int .u8 (n / 2 ^ (8 * j) % 256)) = lowRow n k (j + 1) := by
  apply List.ext_getElem?
  intro t
  by_cases ht : t < k
  · by_cases e : j = t
    · subst e; simp [lowRow, ht, byteAt]
    · have h1 : (t < j + 1) = (t < j) := by simp; omega
      simp [lowRow, e, ht, h1]
  · simp [lowRow, ht]
theorem toNat_ofNat_byte (x : Int) (h0 : 0 ≤ x) (h1 : x < 256) : ((UInt8.ofNat x.toNat).toNat : Int) = x := by
  have : x.toNat < 256 := by omega
  rw [UInt8.toNat_ofNat', Nat.mod_eq_of_lt (by omega)]
  omega
theorem lowRow_full (n : Int) (k : Nat) : lowRow n k k = (lowB n k).map fun b => .int .u8 (b.toNat : Int) := by
  apply List.ext_getElem?
  intro t
  by_cases ht : t < k
  · have h0 := byteAt_lo n t
    have h1 := byteAt_hi n t
    simp [lowRow, lowB, ht]
    omega
  · simp [lowRow, lowB, ht]

/-- The number that bytes are, the lowest first. -/
def leN : List UInt8 → Nat
  | [] => 0
  | b :: r => b.toNat + 256 * leN r
theorem leN_snoc : ∀ (l : List UInt8) (b : UInt8), leN (l ++ [b]) = leN l + b.toNat * 256 ^ l.length
  | [], b => by simp [leN]
  | c :: r, b => by
    simp only [List.cons_append, leN, leN_snoc r b, List.length_cons, Nat.pow_succ, Nat.mul_add]
    rw [Nat.mul_comm (256 ^ r.length) 256, Nat.mul_left_comm]
    omega
theorem leN_lt : ∀ (l : List UInt8), leN l < 256 ^ l.length
  | [] => by simp [leN]
  | b :: r => by
    have h1 := leN_lt r
    have h2 := b.toNat_lt
    simp only [leN, List.length_cons, Nat.pow_succ]
    omega
theorem two_pow_eight (j : Nat) : (2 : Nat) ^ (8 * j) = 256 ^ j := by rw [Nat.pow_mul]
theorem leN_take_succ (l : List UInt8) (j : Nat) (h : j < l.length) : leN (l.take (j + 1)) = leN (l.take j) + l[j].toNat * 256 ^ j := by
  rw [List.take_succ_eq_append_getElem h, leN_snoc, List.length_take, Nat.min_eq_left (by omega)]
/-- 'n |= uint64(b) << (8 * j)', n below that bit. -/
theorem or_byte (a b j : Nat) (ha : a < 256 ^ j) (hb : b < 256) (hj : j < 8) :
    bits .or .u64 (a : Int) (IntKind.u64.wrap ((b : Int) * 2 ^ (8 * j))) = ((a + b * 256 ^ j : Nat) : Int) := by
  have e2 : ((2 : Int) ^ (8 * j)) = ((256 ^ j : Nat) : Int) := by rw [← two_pow_eight]; simp
  have hle : 256 ^ j ≤ 256 ^ 7 := Nat.pow_le_pow_right (by omega) (by omega)
  have hle' : 256 ^ j ≤ 72057594037927936 := hle
  have hm : b * 256 ^ j ≤ 255 * 256 ^ j := Nat.mul_le_mul_right _ (by omega)
  have hlt : b * 256 ^ j < 18446744073709551616 := by omega
  rw [e2, ← Int.natCast_mul, IntKind.wrap_u64, show ((b * 256 ^ j : Nat) : Int) % 18446744073709551616 = ((b * 256 ^ j : Nat) : Int) by omega]
  rw [u64_or_nat _ _ (by omega) hlt, Nat.or_comm, nat_join (8 * j) (b * 256 ^ j) a (by rw [two_pow_eight]; exact Nat.mul_mod_left _ _) (by rw [two_pow_eight]; exact ha), Nat.add_comm]
end Go.Proofs.Ytgnmjdcmaahlnaa
