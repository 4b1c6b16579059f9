/- LockDeath: the dead hold neither the lock nor a slot, and the living lose neither. -/
import Derived.Test.YtnfnaefjginnmaaJo
import Derived.Lib.QuietBelow
import Derived.BigQuiet
namespace Go.Proofs.Ytnfnaefjginnmaa
open Go.RowKit Go.Conc

/-- The versions that are published. -/
def vers : List Int := [11, 12, 13, 14, 15, 16, 17, 18]
theorem vers_at (k : Nat) (hk : k < 8) : vers.getD k 0 = 10 + ((k : Int) + 1) := by
  rcases lt8 hk with rfl | rfl | rfl | rfl | rfl | rfl | rfl | rfl <;> rfl
/-- Whether the i-th dies, by the bits of d. -/
def dieB (d i : Nat) : Bool := decide (d / 2 ^ (i % 8) % 2 = 1)
def goneN (d : Nat) : Nat → Nat
  | 0 => 0
  | k + 1 => goneN d k + if dieB d (k + 1) then 1 else 0
theorem goneN_le (d k : Nat) : goneN d k ≤ k := by
  induction k with
  | zero => simp [goneN]
  | succ k ih => simp only [goneN]; split <;> omega
/-- Who lives when the first j have been asked, of K + 1. -/
def LiveTo (d K j : Nat) (L : List Int) : Prop := ∀ x : Int, x ∈ L ↔ 1 ≤ x ∧ x ≤ (K : Int) + 1 ∧ ¬ (x ≤ (j : Int) ∧ dieB d x.toNat = true)
theorem liveTo_zero (d K : Nat) : LiveTo d K 0 (upL (K + 1)) := by
  intro x
  rw [upL_mem]
  constructor
  · rintro ⟨h1, h2⟩; exact ⟨h1, by omega, fun h => by omega⟩
  · rintro ⟨h1, h2, _⟩; exact ⟨h1, by omega⟩
theorem LiveTo.kill {d K j : Nat} {L : List Int} (h : LiveTo d K j L) (_hj : j < K) (hd : dieB d (j + 1) = true) : LiveTo d K (j + 1) (killL L ((j : Int) + 1)) := by
  intro x
  rw [killL_mem, h x]
  constructor
  · rintro ⟨⟨h1, h2, h3⟩, h4⟩
    refine ⟨h1, h2, fun h => h3 ⟨?_, h.2⟩⟩
    have := h.1
    omega
  · rintro ⟨h1, h2, h3⟩
    refine ⟨⟨h1, h2, fun h => h3 ⟨by have := h.1; omega, h.2⟩⟩, ?_⟩
    rintro rfl
    exact h3 ⟨by omega, by rw [show ((j : Int) + 1).toNat = j + 1 by omega]; exact hd⟩
theorem LiveTo.keep {d K j : Nat} {L : List Int} (h : LiveTo d K j L) (hd : dieB d (j + 1) = false) : LiveTo d K (j + 1) L := by
  intro x
  rw [h x]
  constructor
  · rintro ⟨h1, h2, h3⟩
    refine ⟨h1, h2, fun h => ?_⟩
    by_cases hx : x ≤ (j : Int)
    · exact h3 ⟨hx, h.2⟩
    · have h5 : x = (j : Int) + 1 := by have := h.1; omega
      have h4 := h.2
      rw [h5, show ((j : Int) + 1).toNat = j + 1 by omega, hd] at h4
      simp at h4
  · rintro ⟨h1, h2, h3⟩
    exact ⟨h1, h2, fun h => h3 ⟨by have := h.1; omega, h.2⟩⟩
theorem LiveTo.has {d K : Nat} {L : List Int} (h : LiveTo d K K L) (i : Nat) (h0 : 0 < i) (h1 : i ≤ K) : L.contains (i : Int) = !dieB d i := by
  have h2 := h (i : Int)
  rw [Int.toNat_natCast] at h2
  cases hd : dieB d i with
  | true =>
    have : ¬ (i : Int) ∈ L := by rw [h2, hd]; rintro ⟨_, _, h3⟩; exact h3 ⟨by omega, rfl⟩
    simpa using this
  | false =>
    have : (i : Int) ∈ L := by rw [h2, hd]; exact ⟨by omega, by omega, fun h => by simp at h⟩
    simpa using this
theorem LiveTo.mem {d K j : Nat} {L : List Int} (h : LiveTo d K j L) (hj : j < K) : ((j : Int) + 1) ∈ L := (h _).2 ⟨by omega, by omega, fun h => by have := h.1; omega⟩
/-- Behind the sweep. -/
theorem pidAt_pub (l : List Int) (K i : Nat) (hi : i < K) (_hK : K ≤ 8) : pidAt (pubS l K) i = (i : Int) + 1 ∧ txnAt (pubS l K) i = l.getD i 0 := by
  have h : (pubS l K)[i]? = some ((i : Int) + 1, l.getD i 0) := by
    rw [pubS, List.getElem?_append_left (by rw [pubA_length]; exact hi), pubA]
    simp [hi]
  simp [pidAt, txnAt, List.getD, h]
theorem sweep_at (L : List Int) (S : List SlotD) (i : Nat) (hi : i < S.length) : pidAt (sweepS L S) i = (if deadB L (atD S i) then 0 else pidAt S i) ∧ txnAt (sweepS L S) i = (if deadB L (atD S i) then 0 else txnAt S i) := by
  have h : (sweepS L S)[i]? = some (if deadB L (atD S i) then (0, 0) else atD S i) := by
    rw [sweepS, List.getElem?_map, List.getElem?_eq_getElem hi, atD_get S i hi]
    rfl
  have e1 : pidAt (sweepS L S) i = (if deadB L (atD S i) then ((0, 0) : SlotD) else atD S i).1 := by rw [pidAt, List.getD, h]; rfl
  have e2 : txnAt (sweepS L S) i = (if deadB L (atD S i) then ((0, 0) : SlotD) else atD S i).2 := by rw [txnAt, List.getD, h]; rfl
  rw [e1, e2]
  cases deadB L (atD S i) <;> exact ⟨rfl, rfl⟩
theorem sweep_gone {d K : Nat} {L : List Int} (h : LiveTo d K K L) : ∀ k, k ≤ K → (pubA vers k).countP (deadB L) = goneN d k
  | 0, _ => by simp [pubA, goneN]
  | k + 1, hk => by
    rw [pubA_succ, List.countP_append, sweep_gone h k (by omega), goneN]
    have h1 := h.has (k + 1) (by omega) hk
    rw [show (((k + 1 : Nat)) : Int) = (k : Int) + 1 by omega] at h1
    have h2 : ((k : Int) + 1 ≠ 0) := by omega
    simp only [List.countP_cons, List.countP_nil, deadB, h1]
    cases dieB d (k + 1) <;> simp [h2]
theorem sweepN_pub {d K : Nat} {L : List Int} (h : LiveTo d K K L) (_hK : K ≤ 8) : sweepN L (pubS vers K) = goneN d K := by
  rw [sweepN, pubS, List.countP_append, sweep_gone h K (Nat.le_refl _)]
  have : (List.replicate (8 - K) ((0, 0) : SlotD)).countP (deadB L) = 0 := by
    rw [List.countP_eq_zero]
    intro s hs
    rw [(List.mem_replicate.1 hs).2]
    simp [deadB]
  omega
theorem pubS_length (l : List Int) (K : Nat) (hK : K ≤ 8) : (pubS l K).length = 8 := by simp [pubS, pubA_length]; omega
/-- What the last loop finds in a slot. -/
theorem swept_pub {d K : Nat} {L : List Int} (h : LiveTo d K K L) (hK : K ≤ 8) (i : Nat) (hi : i < K) :
    pidAt (sweepS L (pubS vers K)) i = (if dieB d (i + 1) then 0 else (i : Int) + 1) ∧ txnAt (sweepS L (pubS vers K)) i = (if dieB d (i + 1) then 0 else 10 + ((i : Int) + 1)) := by
  obtain ⟨h1, h2⟩ := sweep_at L (pubS vers K) i (by rw [pubS_length _ _ hK]; omega)
  obtain ⟨h3, h4⟩ := pidAt_pub vers K i hi hK
  have h5 := h.has (i + 1) (by omega) (by omega)
  rw [show (((i + 1 : Nat)) : Int) = (i : Int) + 1 by omega] at h5
  have h6 : deadB L (atD (pubS vers K) i) = dieB d (i + 1) := by
    have h7 : ((i : Int) + 1 ≠ 0) := by omega
    simp only [deadB, atD, h3, h5]
    cases dieB d (i + 1) <;> simp [h7]
  rw [h1, h2, h6, h3, h4, vers_at i (by omega)]
  exact ⟨rfl, rfl⟩
theorem sweep_bl {w X : World} {lb cb pb pc : Nat} {W last : Int} {S : List SlotD} {v : Value} {L : List Int} (h : Bl w X lb cb pb pc W S v last L) :
    Calls Try.prog 15 #[.pointer (some ⟨lb, 0, none⟩), .pointer (some ⟨pb, 0, none⟩)] X fun e Y => e = .returned (.int .i64 (sweepN L S)) ∧ Bl w Y lb cb pb pc W (sweepS L S) v last L :=
  (sweep_any X _ lb cb _ pb pc _ W last v L S h.l h.p).mono fun _ _ ⟨he, hl, ho⟩ => ⟨he, h.lo hl ho⟩
theorem slots_bl {w X : World} {lb cb pb pc : Nat} {W last : Int} {S : List SlotD} {v : Value} {L : List Int} (h : Bl w X lb cb pb pc W S v last L) :
    Calls Try.prog 16 #[.pointer (some ⟨lb, 0, none⟩)] X fun e Y => ∃ u, e = .returned u ∧ OwnSlots Y w.heap.size u S ∧ Bl w Y lb cb pb pc W S v last L := by
  refine (slots_any X _ lb cb W S h.l).mono ?_
  rintro e Y ⟨u, rfl, ho, hb⟩
  refine ⟨u, rfl, ⟨ho.1, ?_⟩, h.below hb⟩
  rcases ho.2 with hn | ⟨g, cap, cur, rfl, hg, rest⟩
  · exact .inl hn
  · exact .inr ⟨g, cap, cur, rfl, Nat.le_trans h.bel.size hg, rest⟩
end Go.Proofs.Ytnfnaefjginnmaa
