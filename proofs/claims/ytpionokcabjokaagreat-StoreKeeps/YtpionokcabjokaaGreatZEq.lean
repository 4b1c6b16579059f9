/- Rows made bit by bit; a row that stays whatever the store does; StoreNumbers' data. -/
import Derived.Test.YtpionokcabjokaaGreatZEp
namespace Go.Proofs.YtpionokcabjokaaGreat
open Go.RowKit Go.Sort Go.Conc
open H (Up up_ext mergeL dropL Fit RunI RunIs RowAt)

/-- A bit, as the statements ask for it. -/
def bitB (f : Int) (k : Nat) : Bool := bits .and .u16 (f / 2 ^ k) 1 == 1
/-- The numbers 2 + i, of those i below k whose bit is set. -/
def bitsL (f : Int) : Nat → List Int
  | 0 => []
  | k + 1 => if bitB f k = true then bitsL f k ++ [2 + (k : Int)] else bitsL f k
theorem bitsL_mem (f : Int) (x : Int) : ∀ k, x ∈ bitsL f k ↔ ∃ i : Nat, i < k ∧ x = 2 + (i : Int) ∧ bitB f i = true
  | 0 => by simp [bitsL]
  | k + 1 => by
    have ih := bitsL_mem f x k
    simp only [bitsL]
    split
    · rename_i hb
      rw [List.mem_append, ih, List.mem_singleton]
      constructor
      · rintro (⟨i, h1, h2, h3⟩ | h)
        · exact ⟨i, by omega, h2, h3⟩
        · exact ⟨k, by omega, h, hb⟩
      · rintro ⟨i, h1, h2, h3⟩
        by_cases hik : i = k
        · subst hik; exact .inr h2
        · exact .inl ⟨i, by omega, h2, h3⟩
    · rename_i hb
      rw [ih]
      constructor
      · rintro ⟨i, h1, h2, h3⟩
        exact ⟨i, by omega, h2, h3⟩
      · rintro ⟨i, h1, h2, h3⟩
        by_cases hik : i = k
        · subst hik; exact absurd h3 hb
        · exact ⟨i, by omega, h2, h3⟩
theorem bitsL_up (f : Int) : ∀ k, Up (bitsL f k)
  | 0 => H.up_nil
  | k + 1 => by
    have ih := bitsL_up f k
    simp only [bitsL]
    split
    · refine List.pairwise_append.2 ⟨ih, by simp, fun a ha b hb => ?_⟩
      obtain ⟨i, h1, h2, _⟩ := (bitsL_mem f a k).1 ha
      simp only [List.mem_singleton] at hb
      omega
    · exact ih
theorem bitsL_len (f : Int) : ∀ k, (bitsL f k).length ≤ k
  | 0 => by simp [bitsL]
  | k + 1 => by
    have ih := bitsL_len f k
    simp only [bitsL]
    split
    · simp; omega
    · omega
theorem bitsL_in (f : Int) {x : Int} (h : x ∈ bitsL f 16) : 2 ≤ x ∧ x < 18 := by
  obtain ⟨i, h1, h2, _⟩ := (bitsL_mem f x 16).1 h
  omega

/-- A row that stays whatever the store does. -/
def RowK (W : World) (sb mb : Nat) (ao : Option Addr) (cap : Nat) (l : List Int) : Prop := ∀ V, So sb mb W V → RowAt V ao cap l
theorem RowK.here {W : World} {sb mb : Nat} {ao : Option Addr} {cap : Nat} {l : List Int} (h : RowK W sb mb ao cap l) : RowAt W ao cap l := h W (So.refl _ _ _)
theorem RowK.so {W V : World} {sb mb : Nat} {ao : Option Addr} {cap : Nat} {l : List Int} (h : RowK W sb mb ao cap l) (hs : So sb mb W V) : RowK V sb mb ao cap l := fun U hU => h U (hs.trans hU)
theorem RowK.tail {W : World} {sb mb : Nat} {ao : Option Addr} {cap : Nat} {x : Int} {r : List Int} (h : RowK W sb mb ao cap (x :: r)) : ∃ bo, (∀ V, (Instr.slice 23 (.slice ao (r.length + 1) cap) (some (.int .i64 1)) none none).run Tryz.prog V = .ok (.slice bo r.length (cap - 1)) V) ∧ RowK W sb mb bo (cap - 1) r := by
  obtain ⟨bo, h1, _⟩ := h.here.tail 1 (by simp)
  refine ⟨bo, fun V => by simpa using h1 V, fun V hV => ?_⟩
  obtain ⟨bo', h3, h4⟩ := (h V hV).tail 1 (by simp)
  have e := (h1 V).symm.trans (h3 V)
  simp only [Result.ok.injEq, Value.slice.injEq, and_true] at e
  obtain rfl := e
  simpa using h4
/-- A row of the call's own stays, whatever the store does. -/
theorem row_stays {w X : World} {sb mb fb : Nat} {s : StD} {L : List F.Sh} (h : Sf w X sb mb fb s L) {B : Nat} {u : Value} {l : List Int} (ho : H.OwnInts X B u l) : ∃ ao cap, u = .slice ao l.length cap ∧ RowK X sb mb ao cap l := by
  obtain ⟨vf, va, h1⟩ := h.st
  obtain ⟨ao, cap, rfl, _⟩ := RowAt.own ho
  refine ⟨ao, cap, rfl, fun V hV => ?_⟩
  obtain ⟨ao', cap', e, hr⟩ := RowAt.own (h1.row ho hV)
  simp only [Value.slice.injEq, true_and] at e
  obtain ⟨rfl, rfl⟩ := e
  exact hr

theorem new_sf2 {w X : World} {L : List F.Sh} (fb : Nat) (last most : Int) (l : List Int) (ao : Option Addr) (cap n : Nat) (hn : n = l.length) {fv : Value} (hX : Below w.heap.size w X) (hf : F.FileAt X w.heap.size fb fv L) (h : RowAt X ao cap l) (hl : l.length ≤ 1000) :
    Calls Tryz.prog 10 #[.pointer (some ⟨fb, 0, none⟩), .int .i64 last, .int .i64 most, .slice ao n cap] X fun r Y => ∃ sb mb, r = .returned (.pointer (some ⟨sb, 0, none⟩)) ∧ Sf w Y sb mb fb (newD last most l) L ∧ Below X.heap.size X Y := by
  subst hn
  refine (snew_any fb last most l ao cap X h hl).mono ?_
  rintro e Y ⟨sb, mb, va, rfl, h1, h2, h3, h4⟩
  have := hX.size
  exact ⟨sb, mb, rfl, ⟨⟨_, va, h1⟩, ⟨fv, hf.below h4⟩, hX.trans (h4.mono this), by omega, by omega⟩, h4⟩

/-- What is left of the free numbers, what is last. -/
structure NumI (s : StD) (A : List Int) (l m k : Nat) : Prop where
  avail : s.avail = A
  last : s.last = l
  most : s.most = m
  few : s.dirty.length ≤ k
theorem num_new (f : Int) (m : Nat) (h1 : 18 ≤ m) (h2 : m ≤ 400) : NumI (newD 18 (m : Int) (bitsL f 16)) (bitsL f 16) 18 m 0 := by
  have e1 : heldN 18 = 18 := by decide +kernel
  have e2 : heldN (m : Int) = m := by unfold heldN; omega
  refine ⟨?_, e1, e2, by simp [newD]⟩
  simp only [newD]
  rw [e1, e2]
  exact siftL_of_up (bitsL_up f 16) (fun x hx => by have := bitsL_in f hx; omega)
theorem num_avail {s : StD} {x : Int} {r : List Int} {l m k : Nat} (h : NumI s (x :: r) l m k) (ok : StOk s) (hk : k < 120) : ∃ s', addD s knK = (x, 0, s') ∧ NumI s' r l m (k + 1) := by
  refine ⟨_, addD_of knK_is (take_avail ok h.avail (by have := h.few; omega)), ⟨rfl, h.last, h.most, ?_⟩⟩
  simp only [putB, madeD]
  have := addRun_le ok.upD x 1
  have := h.few
  omega
theorem num_last {s : StD} {l m k : Nat} (h : NumI s [] l m k) (ok : StOk s) (hk : k < 120) (hl : l < m) : ∃ s', addD s knK = ((l : Int), 0, s') ∧ NumI s' [] (l + 1) m (k + 1) := by
  have e := h.last
  have h1 := addD_of knK_is (take_last h.avail (by have := h.few; omega) (by have := h.last; have := h.most; omega))
  rw [e] at h1
  refine ⟨_, h1, ⟨h.avail, rfl, h.most, ?_⟩⟩
  simp only [putB, madeD]
  have := addRun_le ok.upD (l : Int) 1
  have := h.few
  omega
theorem num_over {s : StD} {l m k : Nat} (h : NumI s [] l m k) (hk : k < 120) (hl : m ≤ l) : addD s knK = (0, 14, s) :=
  addD_no knK_is (by omega) (take_over h.avail (by have := h.few; omega) (by have := h.last; have := h.most; omega))
end Go.Proofs.YtpionokcabjokaaGreat
