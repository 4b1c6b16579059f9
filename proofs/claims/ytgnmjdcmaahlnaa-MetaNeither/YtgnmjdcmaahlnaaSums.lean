/- A sum of bytes of which one is changed is changed. -/
import Derived.Test.YtgnmjdcmaahlnaaWf
namespace Go.Proofs.Ytgnmjdcmaahlnaa
open Go.RowKit

/-! One byte changed: the sum is changed. -/
theorem step_le (M x y b : Nat) (hM : Nat.Coprime M 33) (hx : x < M) (h : (x * 33 + b) % M = (y * 33 + b) % M) : x ≤ y := by
  have h1 := Nat.sub_mod_eq_zero_of_mod_eq h
  have h2 : (x * 33 + b) - (y * 33 + b) = (x - y) * 33 := by omega
  rw [h2] at h1
  have h3 : M ∣ (x - y) := hM.dvd_of_dvd_mul_right (Nat.dvd_of_mod_eq_zero h1)
  rcases Nat.eq_zero_or_pos (x - y) with h4 | h4
  · omega
  · have := Nat.le_of_dvd h4 h3
    omega
theorem step_inj (M x y b : Nat) (hM : Nat.Coprime M 33) (hx : x < M) (hy : y < M) (h : (x * 33 + b) % M = (y * 33 + b) % M) : x = y :=
  Nat.le_antisymm (step_le M x y b hM hx h) (step_le M y x b hM hy h.symm)
theorem cop33 : Nat.Coprime 18446744073709551616 33 := by decide +kernel
theorem byte_inj (M h c d : Nat) (hM : 256 ≤ M) (hc : c < 256) (hd : d < 256) (e : (h + c) % M = (h + d) % M) : c = d := by
  have key : ∀ c d : Nat, c < 256 → (h + c) % M = (h + d) % M → c ≤ d := by
    intro c d hc e
    have h1 := Nat.sub_mod_eq_zero_of_mod_eq e
    have h2 : (h + c) - (h + d) = c - d := by omega
    rw [h2] at h1
    rcases Nat.eq_zero_or_pos (c - d) with h4 | h4
    · omega
    · have := Nat.le_of_dvd h4 (Nat.dvd_of_mod_eq_zero h1)
      omega
  exact Nat.le_antisymm (key c d hc e) (key d c hd e.symm)
def sumFrom (h : Nat) (l : List UInt8) : Nat := l.foldl (fun h b => (h * 33 + b.toNat) % 18446744073709551616) h
theorem sumFrom_cons (x : Nat) (b : UInt8) (r : List UInt8) : sumFrom x (b :: r) = sumFrom ((x * 33 + b.toNat) % 18446744073709551616) r := by simp only [sumFrom, List.foldl_cons]
theorem sumFrom_inj (l : List UInt8) : ∀ (x y : Nat), x < 18446744073709551616 → y < 18446744073709551616 → sumFrom x l = sumFrom y l → x = y := by
  induction l with
  | nil => intro x y _ _ h; simpa [sumFrom] using h
  | cons b r ih =>
    intro x y hx hy h
    rw [sumFrom_cons, sumFrom_cons] at h
    exact step_inj _ _ _ _ cop33 hx hy (ih _ _ (Nat.mod_lt _ (by decide)) (Nat.mod_lt _ (by decide)) h)
theorem sumN_set (l : List UInt8) (i : Nat) (c : UInt8) (h : i < l.length) : sumN (l.set i c) = sumN l ↔ c = l[i] := by
  have e1 : l = l.take i ++ l[i] :: l.drop (i + 1) := by rw [← List.drop_eq_getElem_cons h, List.take_append_drop]
  have e2 : l.set i c = l.take i ++ c :: l.drop (i + 1) := by rw [List.set_eq_take_append_cons_drop, if_pos h]
  have f : ∀ (d : UInt8), sumN (l.take i ++ d :: l.drop (i + 1)) = sumFrom ((sumN (l.take i) * 33 + d.toNat) % 18446744073709551616) (l.drop (i + 1)) := by
    intro d
    simp [sumN, sumFrom, List.foldl_append]
  constructor
  · intro hs
    rw [e2] at hs
    have hs' : sumN (l.take i ++ c :: l.drop (i + 1)) = sumN (l.take i ++ l[i] :: l.drop (i + 1)) := by rw [← e1]; exact hs
    rw [f, f] at hs'
    have h3 := sumFrom_inj _ _ _ (Nat.mod_lt _ (by decide)) (Nat.mod_lt _ (by decide)) hs'
    exact UInt8.toNat_inj.1 (byte_inj _ _ _ _ (by decide) c.toNat_lt l[i].toNat_lt h3)
  · intro hc
    rw [hc, List.set_getElem_self]
end Go.Proofs.Ytgnmjdcmaahlnaa
