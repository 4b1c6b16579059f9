/- Rows as plain lists: rising lists, what is in them, runs; no function is walked here. -/
import Derived.Test.YtdjhlgcbjdohiaaYa
namespace Go.Proofs.Ytdjhlgcbjdohiaa
open Go.RowKit

/-- Rising. -/
def Up (l : List Int) : Prop := l.Pairwise (· < ·)
theorem up_cons {x : Int} {l : List Int} : Up (x :: l) ↔ (∀ y ∈ l, x < y) ∧ Up l := List.pairwise_cons
theorem up_nil : Up [] := List.Pairwise.nil
theorem up_ext : ∀ (l m : List Int), Up l → Up m → (∀ x, x ∈ l ↔ x ∈ m) → l = m
  | [], [], _, _, _ => rfl
  | [], y :: m, _, _, h => absurd ((h y).2 (by simp)) (by simp)
  | x :: l, [], _, _, h => absurd ((h x).1 (by simp)) (by simp)
  | x :: l, y :: m, hl, hm, h => by
    rw [up_cons] at hl hm
    have hxy : x = y := by
      have h1 := (h x).1 (by simp)
      have h2 := (h y).2 (by simp)
      rcases List.mem_cons.1 h1 with e | e
      · exact e
      · rcases List.mem_cons.1 h2 with e2 | e2
        · exact e2.symm
        · have := hl.1 y e2
          have := hm.1 x e
          omega
    subst hxy
    rw [up_ext l m hl.2 hm.2 ?_]
    intro z
    constructor
    · intro hz
      have hne : z ≠ x := by have := hl.1 z hz; omega
      exact (List.mem_cons.1 ((h z).1 (List.mem_cons_of_mem _ hz))).resolve_left hne
    · intro hz
      have hne : z ≠ x := by have := hm.1 z hz; omega
      exact (List.mem_cons.1 ((h z).2 (List.mem_cons_of_mem _ hz))).resolve_left hne

/-- A row without its first number, if that is n. -/
def skipOne (n : Int) : List Int → List Int
  | [] => []
  | y :: a => if y = n then a else y :: a
/-- Two rows put together. -/
def mergeL : List Int → List Int → List Int
  | a, [] => a
  | a, n :: b => a.takeWhile (fun y => decide (y < n)) ++ n :: mergeL (skipOne n (a.dropWhile (fun y => decide (y < n)))) b
theorem mergeL_nil (b : List Int) : mergeL [] b = b := by
  induction b with
  | nil => rfl
  | cons n b ih => simp [mergeL, skipOne, ih]
theorem mergeL_none (a : List Int) : mergeL a [] = a := rfl
theorem mergeL_lt {y n : Int} {a b : List Int} (h : y < n) : mergeL (y :: a) (n :: b) = y :: mergeL a (n :: b) := by simp [mergeL, h]
theorem mergeL_eq {n : Int} {a b : List Int} : mergeL (n :: a) (n :: b) = n :: mergeL a b := by simp [mergeL, skipOne]
theorem mergeL_gt {y n : Int} {a b : List Int} (h : n < y) : mergeL (y :: a) (n :: b) = n :: mergeL (y :: a) b := by
  have h1 : ¬ y < n := by omega
  have h2 : ¬ y = n := by omega
  simp [mergeL, skipOne, h1, h2]
/-- By which of two first numbers is the lesser. -/
theorem merge_ind {P : List Int → List Int → Prop} (c1 : ∀ b, P [] b) (c2 : ∀ y a, P (y :: a) []) (c3 : ∀ y a n b, y < n → P a (n :: b) → P (y :: a) (n :: b)) (c4 : ∀ a n b, P a b → P (n :: a) (n :: b)) (c5 : ∀ y a n b, n < y → P (y :: a) b → P (y :: a) (n :: b)) (a b : List Int) : P a b := by
  induction a generalizing b with
  | nil => exact c1 b
  | cons y a iha =>
    induction b with
    | nil => exact c2 y a
    | cons n b ihb =>
      rcases Int.lt_trichotomy y n with h | h | h
      · exact c3 y a n b h (iha (n :: b))
      · subst h
        exact c4 a y b (iha b)
      · exact c5 y a n b h ihb
theorem mergeL_mem (a b : List Int) (x : Int) : x ∈ mergeL a b ↔ x ∈ a ∨ x ∈ b := by
  induction a, b using merge_ind with
  | c1 b => simp [mergeL_nil]
  | c2 y a => simp [mergeL_none]
  | c3 y a n b h ih => rw [mergeL_lt h, List.mem_cons, ih]; simp [or_assoc]
  | c4 a n b ih =>
    rw [mergeL_eq, List.mem_cons, ih]
    simp only [List.mem_cons]
    grind
  | c5 y a n b h ih =>
    rw [mergeL_gt h, List.mem_cons, ih]
    simp only [List.mem_cons]
    grind
theorem mergeL_length (a b : List Int) : (mergeL a b).length ≤ a.length + b.length := by
  induction a, b using merge_ind with
  | c1 b => simp [mergeL_nil]
  | c2 y a => simp [mergeL_none]
  | c3 y a n b h ih => rw [mergeL_lt h]; simp at ih ⊢; omega
  | c4 a n b ih => rw [mergeL_eq]; simp at ih ⊢; omega
  | c5 y a n b h ih => rw [mergeL_gt h]; simp at ih ⊢; omega
theorem mergeL_up (a b : List Int) (ha : Up a) (hb : Up b) : Up (mergeL a b) := by
  induction a, b using merge_ind with
  | c1 b => simpa [mergeL_nil] using hb
  | c2 y a => simpa [mergeL_none] using ha
  | c3 y a n b h ih =>
    rw [mergeL_lt h, up_cons]
    rw [up_cons] at ha
    refine ⟨fun z hz => ?_, ih ha.2 hb⟩
    rw [mergeL_mem, List.mem_cons] at hz
    rw [up_cons] at hb
    rcases hz with hz | rfl | hz
    · exact ha.1 z hz
    · exact h
    · have := hb.1 z hz
      omega
  | c4 a n b ih =>
    rw [mergeL_eq, up_cons]
    rw [up_cons] at ha hb
    refine ⟨fun z hz => ?_, ih ha.2 hb.2⟩
    rw [mergeL_mem] at hz
    rcases hz with hz | hz
    · exact ha.1 z hz
    · exact hb.1 z hz
  | c5 y a n b h ih =>
    rw [mergeL_gt h, up_cons]
    rw [up_cons] at hb
    refine ⟨fun z hz => ?_, ih ha hb.2⟩
    rw [up_cons] at ha
    rw [mergeL_mem, List.mem_cons] at hz
    rcases hz with (rfl | hz) | hz
    · exact h
    · have := ha.1 z hz
      omega
    · exact hb.1 z hz

/-- Without so many from one on. -/
def dropL (l : List Int) (f n : Int) : List Int := l.filter fun x => decide (x < f) || decide (max n 0 ≤ x - f)
theorem dropL_mem (l : List Int) (f n x : Int) : x ∈ dropL l f n ↔ x ∈ l ∧ (x < f ∨ max n 0 ≤ x - f) := by simp [dropL]
theorem dropL_up (l : List Int) (f n : Int) (h : Up l) : Up (dropL l f n) := List.Pairwise.filter _ h
theorem dropL_length (l : List Int) (f n : Int) : (dropL l f n).length ≤ l.length := List.length_filter_le _ _
theorem dropL_take (l : List Int) (f n : Int) (k : Nat) (h : k < l.length) : dropL (l.take (k + 1)) f n = if l[k] < f ∨ max n 0 ≤ l[k] - f then dropL (l.take k) f n ++ [l[k]] else dropL (l.take k) f n := by
  rw [List.take_succ_eq_append_getElem h, dropL, List.filter_append]
  by_cases e : l[k] < f ∨ max n 0 ≤ l[k] - f
  · rw [if_pos e]
    rcases e with e | e <;> simp [dropL, e]
  · rw [if_neg e]
    have e1 : ¬ l[k] < f := fun h => e (.inl h)
    have e2 : ¬ max n 0 ≤ l[k] - f := fun h => e (.inr h)
    simp only [List.filter_cons, e1, e2, decide_false, Bool.or_self, List.filter_nil]
    simp [dropL]

/-- At place i a run of n begins. -/
def RunI (l : List Int) (n i : Nat) : Prop := 1 ≤ n ∧ i + n ≤ l.length ∧ ∀ j, j < n → l.getD (i + j) 0 = l.getD i 0 + (j : Int)
/-- What Run tells. -/
def RunIs (l : List Int) (n : Nat) (x : Int) (ok : Bool) : Prop := (ok = true ∧ ∃ i, RunI l n i ∧ x = l.getD i 0 ∧ ∀ k, k < i → ¬ RunI l n k) ∨ (ok = false ∧ x = 0 ∧ ∀ i, ¬ RunI l n i)
theorem RunIs.one {l : List Int} {n : Nat} {x y : Int} {a b : Bool} (h : RunIs l n x a) (g : RunIs l n y b) : x = y ∧ a = b := by
  rcases h with ⟨rfl, i, h1, rfl, h2⟩ | ⟨rfl, rfl, h1⟩
  · rcases g with ⟨rfl, j, g1, rfl, g2⟩ | ⟨rfl, rfl, g1⟩
    · have : i = j := by
        rcases Nat.lt_trichotomy i j with e | e | e
        · exact absurd h1 (g2 i e)
        · exact e
        · exact absurd g1 (h2 j e)
      subst this
      exact ⟨rfl, rfl⟩
    · exact absurd h1 (g1 i)
  · rcases g with ⟨rfl, j, g1, rfl, g2⟩ | ⟨rfl, rfl, g1⟩
    · exact absurd g1 (h1 j)
    · exact ⟨rfl, rfl⟩
/-- Where a run breaks off none that is long enough begins ahead of it. -/
theorem run_break {l : List Int} {n a i : Nat} (hall : ∀ j, j < i → l.getD (a + j) 0 = l.getD a 0 + (j : Int)) (hin : i < n) (hne : l.getD (a + i) 0 ≠ l.getD a 0 + (i : Int)) (h : ∀ k, k < a → ¬ RunI l n k) : ∀ k, k < a + i → ¬ RunI l n k := by
  intro k hk hr
  by_cases hka : k < a
  · exact h k hka hr
  · obtain ⟨d, rfl⟩ : ∃ d, k = a + d := ⟨k - a, by omega⟩
    have h1 := hr.2.2 (i - d) (by omega)
    rw [show a + d + (i - d) = a + i by omega] at h1
    have h2 := hall d (by omega)
    apply hne
    rw [h1, h2]
    omega
theorem up_get {l : List Int} (h : Up l) {i j : Nat} (hij : i < j) (hj : j < l.length) : l.getD i 0 < l.getD j 0 := by
  have := List.pairwise_iff_getElem.1 h i j (by omega) hj hij
  simpa [List.getD, hj, show i < l.length by omega] using this
theorem up_far {l : List Int} (h : Up l) (i : Nat) : ∀ j, i + j < l.length → l.getD i 0 + (j : Int) ≤ l.getD (i + j) 0
  | 0, _ => by simp
  | j + 1, hj => by
    have h1 := up_far h i j (by omega)
    have h2 := up_get h (i := i + j) (j := i + (j + 1)) (by omega) hj
    omega
theorem mem_get {l : List Int} {x : Int} (h : x ∈ l) : ∃ i, i < l.length ∧ l.getD i 0 = x := by
  obtain ⟨i, hi, he⟩ := List.mem_iff_getElem.1 h
  exact ⟨i, hi, by simpa [List.getD, hi] using he⟩
theorem get_mem {l : List Int} {i : Nat} (h : i < l.length) : l.getD i 0 ∈ l := by
  simp [List.getD, h]
/-- From x on n numbers are in l. -/
def RunAt (l : List Int) (n : Nat) (x : Int) : Prop := ∀ j, j < n → x + (j : Int) ∈ l
theorem runAt_of {l : List Int} {n i : Nat} (h : RunI l n i) : RunAt l n (l.getD i 0) := by
  intro j hj
  rw [← h.2.2 j hj]
  exact get_mem (by have := h.2.1; omega)
theorem runI_of {l : List Int} {n : Nat} {x : Int} (hu : Up l) (hn : 1 ≤ n) (h : RunAt l n x) : ∃ i, RunI l n i ∧ l.getD i 0 = x := by
  obtain ⟨i, hi, hx⟩ := mem_get (h 0 (by omega))
  simp only [Int.natCast_zero, Int.add_zero] at hx
  have key : ∀ j, j < n → i + j < l.length ∧ l.getD (i + j) 0 = x + (j : Int) := by
    intro j
    induction j with
    | zero => intro _; exact ⟨hi, by simpa using hx⟩
    | succ j ih =>
      intro hj
      obtain ⟨h1, h2⟩ := ih (by omega)
      obtain ⟨m, hm, hmx⟩ := mem_get (h (j + 1) hj)
      have hm2 : i + j < m := by
        rcases Nat.lt_trichotomy m (i + j) with e | e | e
        · have := up_get hu e h1
          omega
        · subst e
          omega
        · exact e
      refine ⟨by omega, ?_⟩
      have h3 := up_get hu (i := i + j) (j := i + (j + 1)) (by omega) (by omega)
      by_cases e : m = i + (j + 1)
      · subst e
        exact hmx
      · have := up_get hu (i := i + (j + 1)) (j := m) (by omega) hm
        omega
  refine ⟨i, ⟨hn, ?_, fun j hj => by rw [(key j hj).2, hx]⟩, hx⟩
  have := (key (n - 1) (by omega)).1
  omega
/-- Run, by what is in a row. -/
theorem RunIs.sets {l : List Int} {n : Nat} {x : Int} {ok : Bool} (hu : Up l) (hn : 1 ≤ n) (h : RunIs l n x ok) : (ok = true ∧ RunAt l n x ∧ ∀ y, y < x → ¬ RunAt l n y) ∨ (ok = false ∧ ∀ y, ¬ RunAt l n y) := by
  rcases h with ⟨rfl, i, h1, rfl, h2⟩ | ⟨rfl, rfl, h1⟩
  · refine .inl ⟨rfl, runAt_of h1, fun y hy hr => ?_⟩
    obtain ⟨k, hk, rfl⟩ := runI_of hu hn hr
    refine h2 k ?_ hk
    rcases Nat.lt_trichotomy k i with e | e | e
    · exact e
    · subst e
      omega
    · have := up_get hu e (by have := hk.2.1; omega)
      omega
  · refine .inr ⟨rfl, fun y hr => ?_⟩
    obtain ⟨k, hk, _⟩ := runI_of hu hn hr
    exact h1 k hk

theorem up_take_succ {l : List Int} {k : Nat} (h0 : 0 < k) (hk : k < l.length) : Up (l.take (k + 1)) ↔ Up (l.take k) ∧ l.getD (k - 1) 0 < l.getD k 0 := by
  constructor
  · intro h
    refine ⟨List.Pairwise.sublist (List.take_sublist_take_left (by omega)) h, ?_⟩
    have := up_get h (i := k - 1) (j := k) (by omega) (by simp; omega)
    simpa [List.getD, List.getElem?_take, show k - 1 < k + 1 by omega] using this
  · rintro ⟨h1, h2⟩
    rw [List.take_succ_eq_append_getElem hk, Up, List.pairwise_append]
    refine ⟨h1, by simp, fun a ha b hb => ?_⟩
    simp only [List.mem_singleton] at hb
    subst hb
    obtain ⟨i, hi, hx⟩ := mem_get ha
    have hi2 : i < k := by simp at hi; omega
    have hle : l.getD i 0 ≤ l.getD (k - 1) 0 := by
      by_cases e : i = k - 1
      · subst e
        exact Int.le_refl _
      · have := up_get h1 (i := i) (j := k - 1) (by omega) (by simp; omega)
        have h3 : l.getD i 0 < l.getD (k - 1) 0 := by simpa [List.getD, List.getElem?_take, hi2, show k - 1 < k by omega] using this
        omega
    have h4 : l.getD i 0 = a := by simpa [List.getD, List.getElem?_take, hi2] using hx
    have h5 : l.getD k 0 = l[k] := by simp [List.getD, hk]
    omega
theorem up_short {l : List Int} (h : l.length ≤ 1) : Up l := by
  match l, h with
  | [], _ => exact up_nil
  | [x], _ => exact up_cons.2 ⟨by simp, up_nil⟩
/-- Rising, as a Bool. -/
def isUp (l : List Int) : Bool := decide (l.Pairwise (· < ·))
theorem isUp_true {l : List Int} : isUp l = true ↔ Up l := by simp [isUp, Up]
theorem isUp_false {l : List Int} : isUp l = false ↔ ¬ Up l := by simp [isUp, Up]
end Go.Proofs.Ytdjhlgcbjdohiaa
