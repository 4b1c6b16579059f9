/- FileSynced: what was synced stays, whatever is written behind it and lost. -/
import Derived.Test.YtehfhacghfagoaaFk
import Derived.Test.YtehfhacghfagoaaSa
namespace Go.Proofs.Ytehfhacghfagoaa
open Go.RowKit

def pB (s : ByteArray) : ByteArray := ⟨#[112]⟩ ++ s
theorem pB_ne (s : ByteArray) : ¬ pB s = ⟨#[]⟩ := by
  intro e
  have : (pB s).size = 0 := by rw [e]; rfl
  rw [pB, ByteArray.size_append] at this
  have h1 : (⟨#[112]⟩ : ByteArray).size = 1 := rfl
  omega
/-- The pages that were synced, changed and joined by others, whatever: page by page as it was synced. -/
def Back (l m : List Sh) : Prop := m.length ≤ 400 ∧ l.length ≤ m.length ∧ (∀ i (h : i < l.length) (h' : i < m.length), m[i].syn = l[i].now ∧ (m[i].loose = false → m[i].now = l[i].now)) ∧ (∀ i (h : i < m.length), l.length ≤ i → m[i].syn = ⟨#[]⟩ ∧ m[i].loose = true)
theorem pad_at (l : List Sh) (n i : Nat) (h : i < (padTo l n).length) : (padTo l n)[i] = if h' : i < l.length then l[i] else emptySh := by
  have e : (padTo l n)[i]? = some (if h' : i < l.length then l[i] else emptySh) := by
    rw [padTo_length] at h
    by_cases h' : i < l.length
    · rw [dif_pos h', padTo, List.getElem?_append_left h', List.getElem?_eq_getElem h']
    · rw [dif_neg h', padTo, List.getElem?_append_right (by omega), List.getElem?_replicate, if_pos (by omega)]
  rw [List.getElem?_eq_getElem h] at e
  exact Option.some.inj e
theorem back_pad {l m : List Sh} (h : Back l m) (n : Nat) (hn : n ≤ 400) : Back l (padTo m n) := by
  obtain ⟨h0, h1, h2, h3⟩ := h
  have hl := padTo_length m n
  refine ⟨by omega, by omega, fun i hi hi' => ?_, fun i hi hi' => ?_⟩
  · rw [pad_at, dif_pos (by omega)]
    exact h2 i hi (by omega)
  · rw [pad_at]
    split
    · exact h3 i (by assumption) hi'
    · exact ⟨rfl, rfl⟩
theorem back_write {l m : List Sh} (h : Back l m) (i : Nat) (s : ByteArray) (hi : i < 400) : Back l (writeL m i s) := by
  have hp := back_pad h (i + 1) (by omega)
  unfold writeL
  have hin : i < (padTo m (i + 1)).length := by rw [padTo_length]; omega
  generalize padTo m (i + 1) = q at *
  obtain ⟨h0, h1, h2, h3⟩ := hp
  refine ⟨by simpa using h0, by simpa using h1, fun j hj hj' => ?_, fun j hj hj' => ?_⟩
  · by_cases e : i = j
    · subst e
      simp only [List.getElem_set_self]
      refine ⟨?_, fun h => by cases h⟩
      have := (h2 i hj hin).1
      simpa [hin] using this
    · rw [List.getElem_set_ne e]
      exact h2 j hj (by simpa using hj')
  · by_cases e : i = j
    · subst e
      simp only [List.getElem_set_self]
      have := (h3 i hin hj').1
      exact ⟨by simpa [hin] using this, trivial⟩
    · rw [List.getElem_set_ne e]
      exact h3 j (by simpa using hj) hj'
theorem back_writeA {l m : List Sh} (h : Back l m) (i : Int) (s : ByteArray) : Back l (writeA m i s) := by
  unfold writeA
  split
  · exact back_write h _ _ (by omega)
  · exact h
/-- All is lost: each page as it was synced. -/
theorem lost_at : ∀ (m : List Sh) (i : Nat) (h : i < m.length) (h' : i < (keptP m []).length), (keptP m [])[i].now = if m[i].loose then m[i].syn else m[i].now
  | [], i, h, _ => absurd h (by simp)
  | x :: m, 0, h, h' => by
    cases hx : x.loose <;> simp [keptP, hx, nextL]
  | x :: m, i + 1, h, h' => by
    have ih := lost_at m i (by simpa using h) (by rw [keptP_length]; simpa using h)
    cases hx : x.loose
    · simp only [keptP, hx, Bool.false_eq_true, if_false, List.getElem_cons_succ]
      exact ih
    · simp only [keptP, hx, if_true, List.tail_nil, List.getElem_cons_succ]
      exact ih
theorem cutN_stop (m : List Sh) (k : Nat) : ∀ n, k ≤ n → (∀ i, k ≤ i → i < n → (m.getD i noSh).now = ⟨#[]⟩) → (k = 0 ∨ ¬ (m.getD (k - 1) noSh).now = ⟨#[]⟩) → cutN m n = k
  | 0, hk, _, _ => by simp [cutN]; omega
  | n + 1, hk, h, h0 => by
    by_cases e : k = n + 1
    · subst e
      rcases h0 with h0 | h0
      · omega
      · rw [cutN, if_neg (by simpa using h0)]
    · rw [cutN, if_pos (h n (by omega) (by omega))]
      exact cutN_stop m k n (by omega) (fun i h1 h2 => h i h1 (by omega)) h0
theorem back_power {l m : List Sh} (h : Back l m) (hne : ∀ i (hi : i < l.length), ¬ l[i].now = ⟨#[]⟩) : powerL m [] = l.map fun x => ⟨x.now, x.now, false⟩ := by
  obtain ⟨h0, h1, h2, h3⟩ := h
  have hk := keptP_length m []
  have hnow : ∀ i (hi : i < (keptP m []).length), (keptP m [])[i].now = if h' : i < l.length then l[i].now else ⟨#[]⟩ := by
    intro i hi
    rw [lost_at m i (by omega)]
    by_cases hl : i < l.length
    · rw [dif_pos hl]
      obtain ⟨e1, e2⟩ := h2 i hl (by omega)
      cases hx : m[i].loose
      · simpa using e2 hx
      · simpa using e1
    · rw [dif_neg hl]
      obtain ⟨e1, e2⟩ := h3 i (by omega) (by omega)
      rw [e2, e1]
      rfl
  unfold powerL
  rw [List.take_nil]
  have hcut : cutN (keptP m []) (keptP m []).length = l.length := by
    refine cutN_stop _ _ _ (by omega) (fun i ha hb => ?_) ?_
    · rw [List.getD_eq_getElem?_getD, List.getElem?_eq_getElem hb, Option.getD_some, hnow i hb, dif_neg (by omega)]
    · rcases Nat.eq_zero_or_pos l.length with e | e
      · exact .inl e
      · refine .inr ?_
        have hb : l.length - 1 < (keptP m []).length := by omega
        rw [List.getD_eq_getElem?_getD, List.getElem?_eq_getElem hb, Option.getD_some, hnow _ hb, dif_pos (by omega)]
        exact hne _ (by omega)
  unfold cutL
  rw [hcut]
  apply List.ext_getElem
  · simp [syncL]; omega
  · intro i ha hb
    have hi : i < l.length := by simpa using hb
    have := hnow i (by omega)
    rw [dif_pos hi] at this
    simp [syncL, syS, this]
theorem back_refl (ss : List ByteArray) (h : ss.length ≤ 400) : Back (newL ss) (newL ss) := by
  refine ⟨by rw [newL_length]; exact h, Nat.le_refl _, fun i hi hi' => ?_, fun i hi hi' => by omega⟩
  simp [newL]
end Go.Proofs.Ytehfhacghfagoaa
