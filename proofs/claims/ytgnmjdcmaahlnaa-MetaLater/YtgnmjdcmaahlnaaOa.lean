/- What is written is taken again: numbers, texts, roots, items, free numbers. -/
import Derived.Test.YtgnmjdcmaahlnaaNe
namespace Go.Proofs.Ytgnmjdcmaahlnaa
open Go.RowKit Go.Sort

theorem num_enc (n : Int) (h0 : 0 ≤ n) (h1 : n < 9223372036854775808) (r : List UInt8) : nV (numB n ++ r, false) = n.toNat ∧ nS (numB n ++ r, false) = (r, false) ∧ iV (numB n ++ r, false) = n := by
  have hw : IntKind.u64.wrap n = n := by rw [IntKind.wrap_u64]; omega
  have e := num_there n h0 (by omega) r
  have h2 : nV (numB n ++ r, false) = n.toNat := by
    unfold nV numB
    rw [hw]
    exact e.1
  refine ⟨h2, ?_, ?_⟩
  · unfold nS numB
    rw [hw]
    exact Prod.ext e.2.1 e.2.2
  · unfold iV
    rw [h2]
    have : (n.toNat : Int) = n := Int.toNat_of_nonneg h0
    rw [this]
    unfold wrap64
    omega
theorem low_enc (n : Int) (h0 : 0 ≤ n) (h1 : n < 18446744073709551616) (r : List UInt8) : (nV (lowB n 8 ++ r, false) : Int) = n ∧ nS (lowB n 8 ++ r, false) = (r, false) := by
  have e := num_there n h0 h1 r
  refine ⟨?_, Prod.ext e.2.1 e.2.2⟩
  have : nV (lowB n 8 ++ r, false) = n.toNat := e.1
  rw [this]
  exact Int.toNat_of_nonneg h0
theorem text_enc (s : ByteArray) (h : s.size ≤ 65535) (r : List UInt8) : tV (textB s ++ r, false) = s ∧ tS (textB s ++ r, false) = (r, false) := by
  have hl : s.data.toList.length = s.size := by simp
  have e := text_there s.data.toList r (by omega)
  rw [hl] at e
  have e2 : textB s ++ r = lowB s.size 2 ++ (s.data.toList ++ r) := by simp [textB]
  refine ⟨?_, ?_⟩
  · unfold tV
    rw [e2]
    show bs (textV _ false) = s
    rw [e.1]
    rfl
  · unfold tS
    rw [e2]
    exact Prod.ext e.2.1 e.2.2
def RootSmall (r : RootD) : Prop := (0 ≤ r.page ∧ r.page < 9223372036854775808) ∧ (0 ≤ r.count ∧ r.count < 9223372036854775808) ∧ 0 ≤ r.flags ∧ r.flags < 9223372036854775808
theorem root_enc (x : RootD) (h : RootSmall x) (r : List UInt8) : rootV (rootBytesD x ++ r, false) = x ∧ rootS (rootBytesD x ++ r, false) = (r, false) := by
  obtain ⟨⟨a1, a2⟩, ⟨b1, b2⟩, c1, c2⟩ := h
  have e1 := num_enc x.page a1 a2 (numB x.count ++ (numB x.flags ++ r))
  have e2 := num_enc x.count b1 b2 (numB x.flags ++ r)
  have e3 := num_enc x.flags c1 c2 r
  have e0 : rootBytesD x ++ r = numB x.page ++ (numB x.count ++ (numB x.flags ++ r)) := by simp [rootBytesD]
  rw [e0]
  refine ⟨?_, ?_⟩
  · unfold rootV
    rw [e1.2.1, e2.2.1, e1.2.2, e2.2.2, e3.2.2]
  · unfold rootS
    rw [e1.2.1, e2.2.1, e3.2.1]
/-- Texts one behind the other are taken one by one. -/
theorem texts_enc : ∀ (l : List ByteArray) (r : List UInt8), (∀ x ∈ l, x.size ≤ 65535) → textsV l.length (joinB textB l ++ r, false) = l ∧ tSn l.length (joinB textB l ++ r, false) = (r, false) := by
  intro l r h
  have key : ∀ k, k ≤ l.length → textsV k (joinB textB l ++ r, false) = l.take k ∧ tSn k (joinB textB l ++ r, false) = (joinB textB (l.drop k) ++ r, false) := by
    intro k
    induction k with
    | zero => intro _; simp [textsV, tSn]
    | succ k ih =>
      intro hk
      obtain ⟨i1, i2⟩ := ih (by omega)
      have hd : l.drop k = l[k] :: l.drop (k + 1) := List.drop_eq_getElem_cons (by omega)
      have e := text_enc l[k] (h _ (List.getElem_mem _)) (joinB textB (l.drop (k + 1)) ++ r)
      have hs : joinB textB (l.drop k) ++ r = textB l[k] ++ (joinB textB (l.drop (k + 1)) ++ r) := by rw [hd]; simp [joinB]
      refine ⟨?_, ?_⟩
      · rw [textsV, i1, i2, hs, e.1, List.take_succ_eq_append_getElem (by omega)]
      · rw [tSn, i2, hs, e.2]
  have := key l.length (Nat.le_refl _)
  simpa [joinB] using this
theorem nums_enc : ∀ (l : List Int) (r : List UInt8), (∀ x ∈ l, 0 ≤ x ∧ x < 9223372036854775808) → numsV l.length (joinB numB l ++ r, false) = l ∧ nSn l.length (joinB numB l ++ r, false) = (r, false) := by
  intro l r h
  have key : ∀ k, k ≤ l.length → numsV k (joinB numB l ++ r, false) = l.take k ∧ nSn k (joinB numB l ++ r, false) = (joinB numB (l.drop k) ++ r, false) := by
    intro k
    induction k with
    | zero => intro _; simp [numsV, nSn]
    | succ k ih =>
      intro hk
      obtain ⟨i1, i2⟩ := ih (by omega)
      have hd : l.drop k = l[k] :: l.drop (k + 1) := List.drop_eq_getElem_cons (by omega)
      have hb := h l[k] (List.getElem_mem _)
      have e := num_enc l[k] hb.1 hb.2 (joinB numB (l.drop (k + 1)) ++ r)
      have hs : joinB numB (l.drop k) ++ r = numB l[k] ++ (joinB numB (l.drop (k + 1)) ++ r) := by rw [hd]; simp [joinB]
      refine ⟨?_, ?_⟩
      · rw [numsV, i1, i2, hs, e.2.2, List.take_succ_eq_append_getElem (by omega)]
      · rw [nSn, i2, hs, e.2.1]
  have := key l.length (Nat.le_refl _)
  simpa [joinB] using this
theorem kids_enc (l : List ByteArray) (m : List Int) (r : List UInt8) (hlen : l.length = m.length) (h1 : ∀ x ∈ l, x.size ≤ 65535) (h2 : ∀ x ∈ m, 0 ≤ x ∧ x < 9223372036854775808) :
    keysV m.length (joinB kidB (l.zip m) ++ r, false) = l ∧ kidsV m.length (joinB kidB (l.zip m) ++ r, false) = m ∧ kdSn m.length (joinB kidB (l.zip m) ++ r, false) = (r, false) := by
  have key : ∀ k, k ≤ m.length → keysV k (joinB kidB (l.zip m) ++ r, false) = l.take k ∧ kidsV k (joinB kidB (l.zip m) ++ r, false) = m.take k ∧ kdSn k (joinB kidB (l.zip m) ++ r, false) = (joinB kidB ((l.zip m).drop k) ++ r, false) := by
    intro k
    induction k with
    | zero => intro _; simp [keysV, kidsV, kdSn]
    | succ k ih =>
      intro hk
      obtain ⟨i1, i2, i3⟩ := ih (by omega)
      have hkl : k < l.length := by omega
      have hkm : k < m.length := by omega
      have hkz : k < (l.zip m).length := by simp; omega
      have hd : (l.zip m).drop k = (l[k], m[k]) :: (l.zip m).drop (k + 1) := by
        rw [List.drop_eq_getElem_cons hkz]
        simp
      have hb := h2 m[k] (List.getElem_mem _)
      have e1 := text_enc l[k] (h1 _ (List.getElem_mem _)) (numB m[k] ++ (joinB kidB ((l.zip m).drop (k + 1)) ++ r))
      have e2 := num_enc m[k] hb.1 hb.2 (joinB kidB ((l.zip m).drop (k + 1)) ++ r)
      have hs : joinB kidB ((l.zip m).drop k) ++ r = textB l[k] ++ (numB m[k] ++ (joinB kidB ((l.zip m).drop (k + 1)) ++ r)) := by rw [hd]; simp [joinB, kidB]
      refine ⟨?_, ?_, ?_⟩
      · rw [keysV, i1, i3, hs, e1.1, List.take_succ_eq_append_getElem hkl]
      · rw [kidsV, i2, i3, hs, e1.2, e2.2.2, List.take_succ_eq_append_getElem hkm]
      · rw [kdSn, i3, kdS, hs, e1.2, e2.2.1]
  obtain ⟨a, b, c⟩ := key m.length (Nat.le_refl _)
  rw [List.drop_of_length_le (by simp; omega)] at c
  exact ⟨by rw [a, ← hlen, List.take_length], by rw [b, List.take_length], c⟩
end Go.Proofs.Ytgnmjdcmaahlnaa
