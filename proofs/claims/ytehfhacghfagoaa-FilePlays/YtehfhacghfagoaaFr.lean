/- FileLoose: numbers that are loose rise, each once. -/
import Derived.Test.YtehfhacghfagoaaWt
namespace Go.Proofs.Ytehfhacghfagoaa
open Go.RowKit

theorem withL_last (l : List Int) (n : Int) (h : ∀ x ∈ l, x < n) : withL l n = l ++ [n] := by
  have := withL_skip l l.length n (by simpa using h)
  rw [this, List.take_length, List.drop_length, withL]
theorem withL_first (l : List Int) (n : Int) (h : ∀ x ∈ l, n < x) : withL l n = n :: l := by
  cases l with
  | nil => rfl
  | cons x l =>
    have := h x (by simp)
    rw [withL, if_neg (by omega), if_pos this]
theorem looseL_mem : ∀ (l : List Sh) (n : Nat) (x : Int), x ∈ looseL l n → (n : Int) ≤ x ∧ x < (n : Int) + l.length
  | [], n, x, h => by simp [looseL] at h
  | s :: l, n, x, h => by
    have ih := looseL_mem l (n + 1) x
    simp only [looseL] at h
    simp only [List.length_cons]
    split at h
    · rcases List.mem_cons.1 h with h | h
      · omega
      · have := ih h; omega
    · have := ih h; omega
theorem loose_set : ∀ (l : List Sh) (i : Nat) (_ : i < l.length) (n : Nat) (x : Sh), x.loose = true → looseL (l.set i x) n = withL (looseL l n) ((n + i : Nat) : Int)
  | [], i, h, _, _, _ => absurd h (by simp)
  | y :: l, 0, _, n, x, hx => by
    rw [List.set_cons_zero]
    simp only [looseL, hx, if_true, Nat.add_zero]
    cases hy : y.loose
    · simp only [Bool.false_eq_true, if_false]
      rw [withL_first _ _ (fun z hz => by have := looseL_mem l (n + 1) z hz; omega)]
    · simp only [if_true]
      rw [withL, if_pos rfl]
  | y :: l, i + 1, h, n, x, hx => by
    rw [List.set_cons_succ]
    have ih := loose_set l i (by simpa using h) (n + 1) x hx
    simp only [looseL]
    rw [ih, show n + 1 + i = n + (i + 1) by omega]
    cases hy : y.loose
    · simp
    · simp only [if_true]
      rw [withL, if_neg (by omega), if_neg (by omega)]
theorem loose_snoc (l : List Sh) (x : Sh) (hx : x.loose = true) : looseL (l ++ [x]) 0 = withL (looseL l 0) (l.length : Int) := by
  rw [looseL_append, withL_last _ _ (fun z hz => by have := looseL_mem l 0 z hz; omega)]
  simp [looseL, hx]
theorem pad_succ (l : List Sh) (k : Nat) (h : l.length ≤ k) : padTo l (k + 1) = padTo l k ++ [emptySh] := by
  simp only [padTo]
  rw [show k + 1 - l.length = (k - l.length) + 1 by omega, List.replicate_succ', List.append_assoc]
theorem loose_pad (l : List Sh) (j : Nat) (h : l.length ≤ j) : looseL (padTo l (j + 1)) 0 = withL (looseL (padTo l j) 0) (j : Int) := by
  have hl : (padTo l j).length = j := by rw [padTo_length]; omega
  have := loose_snoc (padTo l j) emptySh rfl
  rw [hl] at this
  rw [pad_succ l j h, this]
theorem loose_write (l : List Sh) (k : Nat) (s : ByteArray) : looseL (writeL l k s) 0 = withL (looseL (padTo l k) 0) (k : Int) := by
  unfold writeL
  rcases Nat.lt_or_ge k l.length with h | h
  · rw [padTo_le l (k + 1) (by omega), padTo_le l k (by omega)]
    have := loose_set l k h 0 ⟨s, (l.getD k noSh).syn, true⟩ rfl
    simpa using this
  · have hl : (padTo l k).length = k := by rw [padTo_length]; omega
    rw [pad_succ l k h]
    generalize padTo l k = P at *
    subst hl
    have := loose_snoc P ⟨s, ((P ++ [emptySh]).getD P.length noSh).syn, true⟩ rfl
    rw [← this]
    simp
theorem writeL_length (l : List Sh) (k : Nat) (s : ByteArray) : (writeL l k s).length = max l.length (k + 1) := by
  unfold writeL
  rw [List.length_set, padTo_length]
theorem sync_loose : ∀ (l : List Sh) (n : Nat), looseL (syncL l) n = []
  | [], _ => rfl
  | x :: l, n => by
    have := sync_loose l (n + 1)
    simp only [syncL, List.map_cons, looseL, syS, Bool.false_eq_true, if_false] at this ⊢
    exact this
theorem looseL_le40 (l : List Sh) (h : l.length ≤ 40) : (looseL l 0).length ≤ 40 := by have := looseL_le l 0; omega
theorem maxInt (ats : Array TypeId) (ty : TypeId) (a b : Nat) (w : World) : (Builtin.max_ ats ty #[.int .i64 (a : Int), .int .i64 (b : Int)]).run Try.prog w = .ok (.int .i64 ((max a b : Nat) : Int)) w := by
  by_cases h : a ≤ b
  · simp [Builtin.max_, Builtin.max2, Nat.max_eq_right h]
    omega
  · simp [Builtin.max_, Builtin.max2, Nat.max_eq_left (Nat.le_of_not_le h)]
    omega
/-- A slice of bytes. -/
def BytesAt (w : World) (v : Value) (l : List Int) : Prop :=
  ∃ ao cap, v = .slice ao l.length cap ∧ l.length ≤ maxLen ∧ ∀ i (h : i < l.length), ∃ a, ao = some a ∧ w.cell? (a.add i) = some (.int .u8 l[i]) ∧ 0 ≤ l[i] ∧ l[i] < 256
theorem Try.elemU8s : Try.prog.underlying 49 = some (.slice (Try.prog.elem 49)) := by kernel_rfl
theorem Try.sizeU8s (w : World) : (Go.sizeOf (Try.prog.elem 49)).run Try.prog w = .ok 1 w := by kernel_rfl
end Go.Proofs.Ytehfhacghfagoaa
