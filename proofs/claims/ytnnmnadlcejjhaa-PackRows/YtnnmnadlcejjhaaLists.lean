/- Plain facts on numbers and texts put one behind the other, and on a sum of bytes of which one is changed. -/
import Derived.Test.YtnnmnadlcejjhaaTakes
namespace Go.Proofs.Ytnnmnadlcejjhaa
open Go.RowKit
theorem hidL {p : Prop} (h : p) : Hid p := h
theorem ret_trueL {b : Bool} (h : b = true) : Ending.returned (.bool b) = .returned (.bool true) := by rw [h]

/-- The first k numbers' bytes. -/
def numsS (z : Nat → Int) : Nat → ByteArray
  | 0 => ⟨#[]⟩
  | k + 1 => numsS z k ++ lowS (z k) 8
/-- Behind them the first k texts'. -/
def textsS (b : ByteArray) (t : Nat → ByteArray) : Nat → ByteArray
  | 0 => b
  | k + 1 => textsS b t k ++ (lowS (t k).size 2 ++ t k)
/-- The bytes of m numbers from the one with the number k on. -/
def numsL (z : Nat → Int) : Nat → Nat → List UInt8
  | _, 0 => []
  | k, m + 1 => lowB (z k) 8 ++ numsL z (k + 1) m
def textsL (t : Nat → ByteArray) : Nat → Nat → List UInt8
  | _, 0 => []
  | k, m + 1 => lowB (t k).size 2 ++ ((t k).data.toList ++ textsL t (k + 1) m)
theorem numsS_size (z : Nat → Int) : ∀ k, (numsS z k).size = 8 * k
  | 0 => rfl
  | k + 1 => by rw [numsS, ByteArray.size_append, numsS_size z k, lowS_size]; omega
theorem textsS_size (b : ByteArray) (t : Nat → ByteArray) : ∀ k, (∀ i, i < k → (t i).size ≤ 200) → (textsS b t k).size ≤ b.size + 202 * k
  | 0, _ => Nat.le_refl _
  | k + 1, h => by
    have h1 := textsS_size b t k (fun i hi => h i (by omega))
    have h2 := h k (by omega)
    rw [textsS, ByteArray.size_append, ByteArray.size_append, lowS_size]
    omega
theorem numsL_snoc (z : Nat → Int) : ∀ m k, numsL z k (m + 1) = numsL z k m ++ lowB (z (k + m)) 8
  | 0, k => by simp [numsL]
  | m + 1, k => by
    rw [numsL, numsL_snoc z m (k + 1), numsL, List.append_assoc, show k + 1 + m = k + (m + 1) by omega]
theorem textsL_snoc (t : Nat → ByteArray) : ∀ m k, textsL t k (m + 1) = textsL t k m ++ (lowB (t (k + m)).size 2 ++ (t (k + m)).data.toList)
  | 0, k => by simp [textsL]
  | m + 1, k => by
    rw [textsL, textsL_snoc t m (k + 1), textsL, List.append_assoc, List.append_assoc, show k + 1 + m = k + (m + 1) by omega]
theorem numsS_list (z : Nat → Int) : ∀ k, (numsS z k).data.toList = numsL z 0 k
  | 0 => rfl
  | k + 1 => by rw [numsS, append_list, numsS_list z k, lowS_list, numsL_snoc, Nat.zero_add]
theorem textsS_list (b : ByteArray) (t : Nat → ByteArray) : ∀ k, (textsS b t k).data.toList = b.data.toList ++ textsL t 0 k
  | 0 => by simp [textsS, textsL]
  | k + 1 => by rw [textsS, append_list, append_list, textsS_list b t k, lowS_list, textsL_snoc, Nat.zero_add, List.append_assoc]
theorem numsL_at (z : Nat → Int) (k n : Nat) (h : k < n) : numsL z k (n - k) = lowB (z k) 8 ++ numsL z (k + 1) (n - (k + 1)) := by
  rw [show n - k = (n - (k + 1)) + 1 by omega, numsL]
theorem textsL_at (t : Nat → ByteArray) (k n : Nat) (h : k < n) : textsL t k (n - k) = lowB (t k).size 2 ++ ((t k).data.toList ++ textsL t (k + 1) (n - (k + 1))) := by
  rw [show n - k = (n - (k + 1)) + 1 by omega, textsL]

/-! One byte changed: the sum is changed. -/
theorem step_le (M x y b : Nat) (hM : Nat.Coprime M 33) (hx : x < M) (h : (x * 33 + b) % M = (y * 33 + b) % M) : x ≤ y := by
  have h1 := Nat.sub_mod_eq_zero_of_mod_eq h
  have h2 : (x * 33 + b) - (y * 33 + b) = (x - y) * 33 := by omega
  rw [h2] at h1
  have h3 : M ∣ (x - y) := hM.dvd_of_dvd_mul_right (Nat.dvd_of_mod_eq_zero h1)
  rcases Nat.eq_zero_or_pos (x - y) with h4 | h4
  · omega
  · have := Nat.le_of_dvd h4 h3
    omega
theorem step_inj (M x y b : Nat) (hM : Nat.Coprime M 33) (hx : x < M) (hy : y < M) (h : (x * 33 + b) % M = (y * 33 + b) % M) : x = y :=
  Nat.le_antisymm (step_le M x y b hM hx h) (step_le M y x b hM hy h.symm)
theorem cop33 : Nat.Coprime 18446744073709551616 33 := by decide +kernel
theorem byte_inj (M h c d : Nat) (hM : 256 ≤ M) (hc : c < 256) (hd : d < 256) (e : (h + c) % M = (h + d) % M) : c = d := by
  have key : ∀ c d : Nat, c < 256 → (h + c) % M = (h + d) % M → c ≤ d := by
    intro c d hc e
    have h1 := Nat.sub_mod_eq_zero_of_mod_eq e
    have h2 : (h + c) - (h + d) = c - d := by omega
    rw [h2] at h1
    rcases Nat.eq_zero_or_pos (c - d) with h4 | h4
    · omega
    · have := Nat.le_of_dvd h4 (Nat.dvd_of_mod_eq_zero h1)
      omega
  exact Nat.le_antisymm (key c d hc e) (key d c hd e.symm)
def sumFrom (h : Nat) (l : List UInt8) : Nat := l.foldl (fun h b => (h * 33 + b.toNat) % 18446744073709551616) h
theorem sumFrom_cons (x : Nat) (b : UInt8) (r : List UInt8) : sumFrom x (b :: r) = sumFrom ((x * 33 + b.toNat) % 18446744073709551616) r := by simp only [sumFrom, List.foldl_cons]
theorem sumFrom_inj (l : List UInt8) : ∀ (x y : Nat), x < 18446744073709551616 → y < 18446744073709551616 → sumFrom x l = sumFrom y l → x = y := by
  induction l with
  | nil => intro x y _ _ h; simpa [sumFrom] using h
  | cons b r ih =>
    intro x y hx hy h
    rw [sumFrom_cons, sumFrom_cons] at h
    exact step_inj _ _ _ _ cop33 hx hy (ih _ _ (Nat.mod_lt _ (by decide)) (Nat.mod_lt _ (by decide)) h)
theorem sumN_set (l : List UInt8) (i : Nat) (c : UInt8) (h : i < l.length) : sumN (l.set i c) = sumN l ↔ c = l[i] := by
  have e1 : l = l.take i ++ l[i] :: l.drop (i + 1) := by rw [← List.drop_eq_getElem_cons h, List.take_append_drop]
  have e2 : l.set i c = l.take i ++ c :: l.drop (i + 1) := by rw [List.set_eq_take_append_cons_drop, if_pos h]
  have f : ∀ (d : UInt8), sumN (l.take i ++ d :: l.drop (i + 1)) = sumFrom ((sumN (l.take i) * 33 + d.toNat) % 18446744073709551616) (l.drop (i + 1)) := by
    intro d
    simp [sumN, sumFrom, List.foldl_append]
  constructor
  · intro hs
    rw [e2] at hs
    have hs' : sumN (l.take i ++ c :: l.drop (i + 1)) = sumN (l.take i ++ l[i] :: l.drop (i + 1)) := by rw [← e1]; exact hs
    rw [f, f] at hs'
    have h3 := sumFrom_inj _ _ _ (Nat.mod_lt _ (by decide)) (Nat.mod_lt _ (by decide)) hs'
    exact UInt8.toNat_inj.1 (byte_inj _ _ _ _ (by decide) c.toNat_lt l[i].toNat_lt h3)
  · intro hc
    rw [hc, List.set_getElem_self]
end Go.Proofs.Ytnnmnadlcejjhaa
