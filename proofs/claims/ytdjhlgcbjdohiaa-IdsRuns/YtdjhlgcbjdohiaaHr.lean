/- IdsRuns: where numbers stand side by side, as plain lists; no function is walked here. -/
import Derived.Test.YtdjhlgcbjdohiaaHn
namespace Go.Proofs.Ytdjhlgcbjdohiaa
open Go.RowKit

/-- m numbers from a on. -/
def upTo (a : Int) (m : Nat) : List Int := (List.range m).map fun (j : Nat) => a + (j : Int)
theorem upTo_succ (a : Int) (m : Nat) : upTo a (m + 1) = upTo a m ++ [a + (m : Int)] := by simp [upTo, List.range_succ]
theorem upTo_zero (a : Int) : upTo a 0 = [] := rfl
theorem upTo_mem (a : Int) (m : Nat) (x : Int) : x ∈ upTo a m ↔ a ≤ x ∧ x < a + (m : Int) := by
  simp only [upTo, List.mem_map, List.mem_range]
  constructor
  · rintro ⟨j, hj, rfl⟩
    omega
  · rintro ⟨h1, h2⟩
    exact ⟨(x - a).toNat, by omega, by omega⟩
theorem upTo_up (a : Int) (m : Nat) : Up (upTo a m) := by
  induction m with
  | zero => exact up_nil
  | succ m ih =>
    rw [upTo_succ, Up, List.pairwise_append]
    refine ⟨ih, by simp, fun x hx y hy => ?_⟩
    have h1 := (upTo_mem a m x).1 hx
    have h2 : y = a + (m : Int) := by simpa using hy
    omega
theorem upTo_length (a : Int) (m : Nat) : (upTo a m).length = m := by simp [upTo]
/-- What the first so many gaps have made: a row L below at - 1; want: the first run of k, or -1. -/
structure Runs (k : Nat) (L : List Int) (at0 want : Int) (r : Nat) : Prop where
  up : Up L
  two : 2 ≤ at0
  most : at0 ≤ 2 + 10 * r
  lo : ∀ x ∈ L, 0 ≤ x
  below : ∀ x ∈ L, x + 1 < at0
  len : L.length ≤ 5 * r
  no : want < 0 → want = -1 ∧ ∀ y, ¬ RunAt L k y
  yes : 0 ≤ want → RunAt L k want ∧ ∀ y, y < want → ¬ RunAt L k y
  wlt : want < at0
theorem runs_zero (k : Nat) (hk : 1 ≤ k) : Runs k [] 2 (-1) 0 := by
  refine ⟨up_nil, by omega, by omega, by simp, by simp, by simp, fun _ => ⟨rfl, fun y h => ?_⟩, fun h => by omega, by omega⟩
  have := h 0 (by omega)
  simp at this
theorem runAt_mono {L M : List Int} {k : Nat} {x : Int} (h : RunAt L k x) (hm : ∀ y ∈ L, y ∈ M) : RunAt M k x := fun j hj => hm _ (h j hj)
/-- A run of the longer row lies in the elder one, or in what is new. -/
theorem run_split {k : Nat} {L : List Int} {at0 : Int} {m : Nat} (hk : 1 ≤ k) (hb : ∀ x ∈ L, x + 1 < at0) {y : Int} (h : RunAt (L ++ upTo at0 m) k y) : RunAt L k y ∨ (at0 ≤ y ∧ y + (k : Int) ≤ at0 + (m : Int)) := by
  have mem : ∀ j, j < k → y + (j : Int) ∈ L ∨ (at0 ≤ y + (j : Int) ∧ y + (j : Int) < at0 + (m : Int)) := by
    intro j hj
    have := h j hj
    rw [List.mem_append, upTo_mem] at this
    exact this
  by_cases hy : y < at0
  · left
    have key : ∀ j, j < k → y + (j : Int) ∈ L := by
      intro j
      induction j with
      | zero =>
        intro hj
        rcases mem 0 hj with h1 | h1
        · exact h1
        · omega
      | succ j ih =>
        intro hj
        have h1 := hb _ (ih (by omega))
        rcases mem (j + 1) hj with h2 | h2
        · exact h2
        · omega
    exact key
  · right
    have h1 := mem (k - 1) (by omega)
    refine ⟨by omega, ?_⟩
    rcases h1 with h1 | h1
    · have := hb _ h1
      omega
    · omega
theorem runAt_new {k : Nat} {L : List Int} {at0 : Int} {m : Nat} {y : Int} (h1 : at0 ≤ y) (h2 : y + (k : Int) ≤ at0 + (m : Int)) : RunAt (L ++ upTo at0 m) k y := by
  intro j hj
  rw [List.mem_append, upTo_mem]
  right
  omega
theorem Runs.next {k : Nat} {L : List Int} {at0 want : Int} {r : Nat} (h : Runs k L at0 want r) (hk : 1 ≤ k) (m q : Nat) (hm : m < 6) (hq : q < 4) :
    Runs k (L ++ upTo at0 m) (at0 + (m : Int) + 1 + (q : Int)) (if k ≤ m ∧ want < 0 then at0 else want) (r + 1) := by
  have h2 := h.two
  have h3 := h.most
  have hw := h.wlt
  refine ⟨?_, by omega, by omega, ?_, ?_, ?_, ?_, ?_, ?_⟩
  · rw [Up, List.pairwise_append]
    refine ⟨h.up, upTo_up _ _, fun x hx y hy => ?_⟩
    have := h.below x hx
    have := (upTo_mem _ _ _).1 hy
    omega
  · intro x hx
    rw [List.mem_append, upTo_mem] at hx
    rcases hx with hx | hx
    · exact h.lo x hx
    · omega
  · intro x hx
    rw [List.mem_append, upTo_mem] at hx
    rcases hx with hx | hx
    · have := h.below x hx
      omega
    · omega
  · have := h.len
    rw [List.length_append, upTo_length]
    omega
  · intro hw0
    by_cases hc : k ≤ m ∧ want < 0
    · rw [if_pos hc] at hw0
      omega
    · rw [if_neg hc] at hw0 ⊢
      obtain ⟨e1, e2⟩ := h.no hw0
      refine ⟨e1, fun y hy => ?_⟩
      rcases run_split hk h.below hy with h4 | h4
      · exact e2 y h4
      · exact hc ⟨by omega, hw0⟩
  · intro hw0
    by_cases hc : k ≤ m ∧ want < 0
    · rw [if_pos hc] at hw0 ⊢
      obtain ⟨e1, e2⟩ := h.no hc.2
      refine ⟨runAt_new (Int.le_refl _) (by omega), fun y hy hr => ?_⟩
      rcases run_split hk h.below hr with h4 | h4
      · exact e2 y h4
      · omega
    · rw [if_neg hc] at hw0 ⊢
      obtain ⟨e1, e2⟩ := h.yes hw0
      refine ⟨runAt_mono e1 (fun y hy => List.mem_append_left _ hy), fun y hy hr => ?_⟩
      rcases run_split hk h.below hr with h4 | h4
      · exact e2 y hy h4
      · omega
  · by_cases hc : k ≤ m ∧ want < 0
    · rw [if_pos hc]
      omega
    · rw [if_neg hc]
      omega
theorem split_len (l : List Int) (p : Int → Bool) : (l.filter p).length + (l.filter (fun x => !p x)).length = l.length := by
  induction l with
  | nil => rfl
  | cons x l ih =>
    by_cases h : p x = true
    · simp [h]
      omega
    · simp [h]
      omega
/-- A run taken away. -/
theorem run_gone {k : Nat} {L : List Int} {x : Int} (hu : Up L) (h : RunAt L k x) : (dropL L x (k : Int)).length + k = L.length := by
  have h1 := split_len L (fun y => decide (y < x) || decide (max (k : Int) 0 ≤ y - x))
  have h2 : L.filter (fun y => !(decide (y < x) || decide (max (k : Int) 0 ≤ y - x))) = upTo x k := by
    apply up_ext
    · exact List.Pairwise.filter _ hu
    · exact upTo_up _ _
    · intro y
      rw [List.mem_filter, upTo_mem]
      simp only [Bool.not_eq_true', Bool.or_eq_false_iff, decide_eq_false_iff_not]
      constructor
      · rintro ⟨_, h3, h4⟩
        omega
      · rintro ⟨h3, h4⟩
        refine ⟨?_, by omega, by omega⟩
        have := h (y - x).toNat (by omega)
        rwa [show x + (((y - x).toNat : Nat) : Int) = y by omega] at this
  rw [h2, upTo_length] at h1
  exact h1
theorem run_gone_has {k : Nat} (L : List Int) (x : Int) (hk : 1 ≤ k) : (dropL L x (k : Int)).contains x = false := by
  simp only [List.contains_eq_mem, decide_eq_false_iff_not]
  rw [dropL_mem]
  omega
end Go.Proofs.Ytdjhlgcbjdohiaa
