/- What was written and is no longer as it was is no page: one byte changed, one less, one more; unlike pages have unlike bytes. -/
import Derived.Test.YtgnmjdcmaahlnaaOc
import Derived.Test.YtgnmjdcmaahlnaaSums
namespace Go.Proofs.Ytgnmjdcmaahlnaa
open Go.RowKit Go.Sort

/-- Bytes that are a page's: that page's. -/
theorem okR_page {l : List UInt8} (h : okR l = true) : isPB (readV l) = true ∧ TxnOk (readV l) ∧ bytesD (readV l) = l := by
  unfold okR at h
  rw [Bool.and_eq_true, decide_eq_true_eq] at h
  obtain ⟨h1, h2⟩ := h
  refine ⟨?_, txnOk_pageV _, h2⟩
  cases hi : isPB (readV l)
  · have : bytesD (readV l) = [] := by simp [bytesD, hi]
    rw [this] at h2
    subst h2
    simp at h1
  · rfl
theorem bytes_inj {a b : PageD} (ha : isPB a = true) (hb : isPB b = true) (ta : TxnOk a) (tb : TxnOk b) : (bytesD b = bytesD a) ↔ a = b := by
  constructor
  · intro h
    have h1 := (okR_bytes a ha ta).2
    have h2 := (okR_bytes b hb tb).2
    rw [h, h1] at h2
    exact h2
  · rintro rfl
    rfl
theorem more_corrupt (p : PageD) (hi : isPB p = true) (ht : TxnOk p) (x : UInt8) : okR (bytesD p ++ [x]) = false := by
  cases h : okR (bytesD p ++ [x])
  · rfl
  · exfalso
    obtain ⟨_, _, h3⟩ := okR_page h
    have h4 : readV (bytesD p ++ [x]) = p := page_enc p hi ht [x]
    rw [h4] at h3
    have := congrArg List.length h3
    simp at this
theorem less_corrupt (p : PageD) (hi : isPB p = true) (ht : TxnOk p) : okR ((bytesD p).take ((bytesD p).length - 1)) = false := by
  have hlen := bytes_some p hi
  cases h : okR ((bytesD p).take ((bytesD p).length - 1))
  · rfl
  · exfalso
    obtain ⟨h1, h2, h3⟩ := okR_page h
    have e := List.take_append_drop ((bytesD p).length - 1) (bytesD p)
    have h4 := page_enc _ h1 h2 ((bytesD p).drop ((bytesD p).length - 1))
    rw [h3, e] at h4
    have h5 := (okR_bytes p hi ht).2
    have h6 : pageV (bytesD p, false) = p := h5
    rw [h6] at h4
    rw [← h4] at h3
    have := congrArg List.length h3
    simp at this
    omega
theorem low_inj (a b : Nat) (ha : a < 18446744073709551616) (hb : b < 18446744073709551616) (h : lowB (a : Int) 8 = lowB (b : Int) 8) : a = b := by
  have h1 := leN_lowB a 8
  have h2 := leN_lowB b 8
  rw [h] at h1
  rw [h1] at h2
  rw [Nat.mod_eq_of_lt (by omega), Nat.mod_eq_of_lt (by omega)] at h2
  exact h2
theorem changed_corrupt (p : PageD) (hi : isPB p = true) (k : Nat) (x : UInt8) (hk : k < (bytesD p).length) (hx : x ≠ (bytesD p)[k]) : okR ((bytesD p).set k x) = false := by
  cases h : okR ((bytesD p).set k x)
  · rfl
  · exfalso
    obtain ⟨h1, h2, h3⟩ := okR_page h
    generalize readV ((bytesD p).set k x) = q at *
    have e1 : bytesD p = lowB (sumN (bodyD p)) 8 ++ bodyD p := by simp [bytesD, hi]
    have e2 : bytesD q = lowB (sumN (bodyD q)) 8 ++ bodyD q := by simp [bytesD, h1]
    have l1 := lowB_length (sumN (bodyD p)) 8
    have l2 := lowB_length (sumN (bodyD q)) 8
    have s1 := sumN_lt (bodyD p)
    have s2 := sumN_lt (bodyD q)
    have hget : (bytesD p)[k] ≠ x := fun e => hx e.symm
    by_cases hk8 : k < 8
    · have e3 : ((bytesD p).set k x).drop 8 = (bytesD p).drop 8 := by rw [List.drop_set_of_lt hk8]
      have e4 : (bytesD q).drop 8 = bodyD q := by rw [e2]; exact List.drop_left' l2
      have e5 : (bytesD p).drop 8 = bodyD p := by rw [e1]; exact List.drop_left' l1
      rw [← h3, e4, e5] at e3
      have e6 : bytesD q = bytesD p := by rw [e2, e1, e3]
      rw [h3] at e6
      have e7 := congrArg (fun z => z[k]?) e6
      simp [hk] at e7
      exact hx e7
    · obtain ⟨j, rfl⟩ : ∃ j, k = j + 8 := ⟨k - 8, by omega⟩
      have hset : (bytesD p).set (j + 8) x = lowB (sumN (bodyD p)) 8 ++ (bodyD p).set j x := by
        rw [e1, List.set_append_right _ _ (by omega), l1]
        simp
      have hj : j < (bodyD p).length := by
        have := hk
        rw [e1] at this
        simp [l1] at this
        omega
      rw [hset, e2] at h3
      have e3 : lowB (sumN (bodyD q)) 8 = lowB (sumN (bodyD p)) 8 := by
        have := congrArg (fun z => z.take 8) h3
        simpa [List.take_left' l1, List.take_left' l2] using this
      have e4 : bodyD q = (bodyD p).set j x := by
        have := congrArg (fun z => z.drop 8) h3
        simpa [List.drop_left' l1, List.drop_left' l2] using this
      have e5 := low_inj _ _ s2 s1 e3
      rw [e4] at e5
      have e6 := (sumN_set (bodyD p) j x hj).1 e5
      apply hx
      rw [e6]
      have e7 : (bytesD p)[j + 8]? = (bodyD p)[j]? := by
        rw [e1, List.getElem?_append_right (by omega), l1]
        simp
      simp [hk, hj] at e7
      exact e7.symm
end Go.Proofs.Ytgnmjdcmaahlnaa
