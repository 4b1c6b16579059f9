/- A sum of bytes of which one is changed is changed. What was written and is no longer as it was is no page: one byte changed, one less, one more; unlike pages have unlike bytes. -/
import Derived.Test.YtpionokcabjokaaGreatXa
import Derived.Test.YtpionokcabjokaaGreatXh
namespace Go.Proofs.YtpionokcabjokaaGreat
open Go.RowKit

/-! One byte changed: the sum is changed. -/
theorem step_le (M x y b : Nat) (hM : Nat.Coprime M 33) (hx : x < M) (h : (x * 33 + b) % M = (y * 33 + b) % M) : x ≤ y := by
  have h1 := Nat.sub_mod_eq_zero_of_mod_eq h
  have h2 : (x * 33 + b) - (y * 33 + b) = (x - y) * 33 := by omega
  rw [h2] at h1
  have h3 : M ∣ (x - y) := hM.dvd_of_dvd_mul_right (Nat.dvd_of_mod_eq_zero h1)
  rcases Nat.eq_zero_or_pos (x - y) with h4 | h4
  · omega
  · have := Nat.le_of_dvd h4 h3
    omega
theorem step_inj (M x y b : Nat) (hM : Nat.Coprime M 33) (hx : x < M) (hy : y < M) (h : (x * 33 + b) % M = (y * 33 + b) % M) : x = y :=
  Nat.le_antisymm (step_le M x y b hM hx h) (step_le M y x b hM hy h.symm)
theorem cop33 : Nat.Coprime 18446744073709551616 33 := by decide +kernel
theorem byte_inj (M h c d : Nat) (hM : 256 ≤ M) (hc : c < 256) (hd : d < 256) (e : (h + c) % M = (h + d) % M) : c = d := by
  have key : ∀ c d : Nat, c < 256 → (h + c) % M = (h + d) % M → c ≤ d := by
    intro c d hc e
    have h1 := Nat.sub_mod_eq_zero_of_mod_eq e
    have h2 : (h + c) - (h + d) = c - d := by omega
    rw [h2] at h1
    rcases Nat.eq_zero_or_pos (c - d) with h4 | h4
    · omega
    · have := Nat.le_of_dvd h4 (Nat.dvd_of_mod_eq_zero h1)
      omega
  exact Nat.le_antisymm (key c d hc e) (key d c hd e.symm)
def sumFrom (h : Nat) (l : List UInt8) : Nat := l.foldl (fun h b => (h * 33 + b.toNat) % 18446744073709551616) h
theorem sumFrom_cons (x : Nat) (b : UInt8) (r : List UInt8) : sumFrom x (b :: r) = sumFrom ((x * 33 + b.toNat) % 18446744073709551616) r := by simp only [sumFrom, List.foldl_cons]
theorem sumFrom_inj (l : List UInt8) : ∀ (x y : Nat), x < 18446744073709551616 → y < 18446744073709551616 → sumFrom x l = sumFrom y l → x = y := by
  induction l with
  | nil => intro x y _ _ h; simpa [sumFrom] using h
  | cons b r ih =>
    intro x y hx hy h
    rw [sumFrom_cons, sumFrom_cons] at h
    exact step_inj _ _ _ _ cop33 hx hy (ih _ _ (Nat.mod_lt _ (by decide)) (Nat.mod_lt _ (by decide)) h)
theorem sumN_set (l : List UInt8) (i : Nat) (c : UInt8) (h : i < l.length) : sumN (l.set i c) = sumN l ↔ c = l[i] := by
  have e1 : l = l.take i ++ l[i] :: l.drop (i + 1) := by rw [← List.drop_eq_getElem_cons h, List.take_append_drop]
  have e2 : l.set i c = l.take i ++ c :: l.drop (i + 1) := by rw [List.set_eq_take_append_cons_drop, if_pos h]
  have f : ∀ (d : UInt8), sumN (l.take i ++ d :: l.drop (i + 1)) = sumFrom ((sumN (l.take i) * 33 + d.toNat) % 18446744073709551616) (l.drop (i + 1)) := by
    intro d
    simp [sumN, sumFrom, List.foldl_append]
  constructor
  · intro hs
    rw [e2] at hs
    have hs' : sumN (l.take i ++ c :: l.drop (i + 1)) = sumN (l.take i ++ l[i] :: l.drop (i + 1)) := by rw [← e1]; exact hs
    rw [f, f] at hs'
    have h3 := sumFrom_inj _ _ _ (Nat.mod_lt _ (by decide)) (Nat.mod_lt _ (by decide)) hs'
    exact UInt8.toNat_inj.1 (byte_inj _ _ _ _ (by decide) c.toNat_lt l[i].toNat_lt h3)
  · intro hc
    rw [hc, List.set_getElem_self]
end Go.Proofs.YtpionokcabjokaaGreat

namespace Go.Proofs.YtpionokcabjokaaGreat
open Go.RowKit Go.Sort

/-- Bytes that are a page's: that page's. -/
theorem okR_page {l : List UInt8} (h : okR l = true) : isPB (readV l) = true ∧ TxnOk (readV l) ∧ bytesD (readV l) = l := by
  unfold okR at h
  rw [Bool.and_eq_true, decide_eq_true_eq] at h
  obtain ⟨h1, h2⟩ := h
  refine ⟨?_, txnOk_pageV _, h2⟩
  cases hi : isPB (readV l)
  · have : bytesD (readV l) = [] := by simp [bytesD, hi]
    rw [this] at h2
    subst h2
    simp at h1
  · rfl
theorem bytes_inj {a b : PageD} (ha : isPB a = true) (hb : isPB b = true) (ta : TxnOk a) (tb : TxnOk b) : (bytesD b = bytesD a) ↔ a = b := by
  constructor
  · intro h
    have h1 := (okR_bytes a ha ta).2
    have h2 := (okR_bytes b hb tb).2
    rw [h, h1] at h2
    exact h2
  · rintro rfl
    rfl
theorem more_corrupt (p : PageD) (hi : isPB p = true) (ht : TxnOk p) (x : UInt8) : okR (bytesD p ++ [x]) = false := by
  cases h : okR (bytesD p ++ [x])
  · rfl
  · exfalso
    obtain ⟨_, _, h3⟩ := okR_page h
    have h4 : readV (bytesD p ++ [x]) = p := page_enc p hi ht [x]
    rw [h4] at h3
    have := congrArg List.length h3
    simp at this
theorem less_corrupt (p : PageD) (hi : isPB p = true) (ht : TxnOk p) : okR ((bytesD p).take ((bytesD p).length - 1)) = false := by
  have hlen := bytes_some p hi
  cases h : okR ((bytesD p).take ((bytesD p).length - 1))
  · rfl
  · exfalso
    obtain ⟨h1, h2, h3⟩ := okR_page h
    have e := List.take_append_drop ((bytesD p).length - 1) (bytesD p)
    have h4 := page_enc _ h1 h2 ((bytesD p).drop ((bytesD p).length - 1))
    rw [h3, e] at h4
    have h5 := (okR_bytes p hi ht).2
    have h6 : pageV (bytesD p, false) = p := h5
    rw [h6] at h4
    rw [← h4] at h3
    have := congrArg List.length h3
    simp at this
    omega
theorem low_inj (a b : Nat) (ha : a < 18446744073709551616) (hb : b < 18446744073709551616) (h : lowB (a : Int) 8 = lowB (b : Int) 8) : a = b := by
  have h1 := leN_lowB a 8
  have h2 := leN_lowB b 8
  rw [h] at h1
  rw [h1] at h2
  rw [Nat.mod_eq_of_lt (by omega), Nat.mod_eq_of_lt (by omega)] at h2
  exact h2
theorem changed_corrupt (p : PageD) (hi : isPB p = true) (k : Nat) (x : UInt8) (hk : k < (bytesD p).length) (hx : x ≠ (bytesD p)[k]) : okR ((bytesD p).set k x) = false := by
  cases h : okR ((bytesD p).set k x)
  · rfl
  · exfalso
    obtain ⟨h1, h2, h3⟩ := okR_page h
    generalize readV ((bytesD p).set k x) = q at *
    have e1 : bytesD p = lowB (sumN (bodyD p)) 8 ++ bodyD p := by simp [bytesD, hi]
    have e2 : bytesD q = lowB (sumN (bodyD q)) 8 ++ bodyD q := by simp [bytesD, h1]
    have l1 := lowB_length (sumN (bodyD p)) 8
    have l2 := lowB_length (sumN (bodyD q)) 8
    have s1 := sumN_lt (bodyD p)
    have s2 := sumN_lt (bodyD q)
    have hget : (bytesD p)[k] ≠ x := fun e => hx e.symm
    by_cases hk8 : k < 8
    · have e3 : ((bytesD p).set k x).drop 8 = (bytesD p).drop 8 := by rw [List.drop_set_of_lt hk8]
      have e4 : (bytesD q).drop 8 = bodyD q := by rw [e2]; exact List.drop_left' l2
      have e5 : (bytesD p).drop 8 = bodyD p := by rw [e1]; exact List.drop_left' l1
      rw [← h3, e4, e5] at e3
      have e6 : bytesD q = bytesD p := by rw [e2, e1, e3]
      rw [h3] at e6
      have e7 := congrArg (fun z => z[k]?) e6
      simp [hk] at e7
      exact hx e7
    · obtain ⟨j, rfl⟩ : ∃ j, k = j + 8 := ⟨k - 8, by omega⟩
      have hset : (bytesD p).set (j + 8) x = lowB (sumN (bodyD p)) 8 ++ (bodyD p).set j x := by
        rw [e1, List.set_append_right _ _ (by omega), l1]
        simp
      have hj : j < (bodyD p).length := by
        have := hk
        rw [e1] at this
        simp [l1] at this
        omega
      rw [hset, e2] at h3
      have e3 : lowB (sumN (bodyD q)) 8 = lowB (sumN (bodyD p)) 8 := by
        have := congrArg (fun z => z.take 8) h3
        simpa [List.take_left' l1, List.take_left' l2] using this
      have e4 : bodyD q = (bodyD p).set j x := by
        have := congrArg (fun z => z.drop 8) h3
        simpa [List.drop_left' l1, List.drop_left' l2] using this
      have e5 := low_inj _ _ s2 s1 e3
      rw [e4] at e5
      have e6 := (sumN_set (bodyD p) j x hj).1 e5
      apply hx
      rw [e6]
      have e7 : (bytesD p)[j + 8]? = (bodyD p)[j]? := by
        rw [e1, List.getElem?_append_right (by omega), l1]
        simp
      simp [hk, hj] at e7
      exact e7.symm
end Go.Proofs.YtpionokcabjokaaGreat
