/- Slices of numbers that are read: what they hold, their parts, what is appended out of them; no function is walked here. -/
import Derived.Test.YtdjhlgcbjdohiaaHa
namespace Go.Proofs.Ytdjhlgcbjdohiaa
open Go.RowKit

/-- A slice of numbers that can be read. -/
structure RowAt (w : World) (ao : Option Addr) (cap : Nat) (l : List Int) : Prop where
  room : l.length ≤ cap
  bare : ao = none → cap = 0
  plain : ∀ a, ao = some a → 0 < cap → ∃ b o, a = ⟨b, o, none⟩
  cells : ∀ i (_ : i < l.length), ∃ b o, ao = some ⟨b, o, none⟩ ∧ w.cell? ⟨b, o + i, none⟩ = some (.int .i64 (l.getD i 0))
theorem RowAt.nil (w : World) : RowAt w none 0 [] := ⟨by simp, fun _ => rfl, by simp, fun i hi => absurd hi (by simp)⟩
theorem RowAt.below {w w' : World} {ao : Option Addr} {cap B : Nat} {l : List Int} (h : RowAt w ao cap l) (hb : Below B w w') (hB : w.heap.size ≤ B) : RowAt w' ao cap l := by
  refine ⟨h.room, h.bare, h.plain, fun i hi => ?_⟩
  obtain ⟨b, o, h1, h2⟩ := h.cells i hi
  have h3 := World.block_lt_of_cell? w _ h2
  exact ⟨b, o, h1, (hb.cell (p := ⟨b, o + i, none⟩) (Nat.lt_of_lt_of_le h3 hB)).trans h2⟩
theorem RowAt.own {w : World} {base : Nat} {v : Value} {l : List Int} (h : OwnInts w base v l) : ∃ ao cap, v = .slice ao l.length cap ∧ RowAt w ao cap l := by
  rcases h.2 with ⟨rfl, h0⟩ | ⟨g, cap, cur, rfl, h2, h3, h4, h5⟩
  · have : l = [] := List.length_eq_zero_iff.1 h0
    subst this
    exact ⟨_, _, rfl, RowAt.nil w⟩
  · refine ⟨_, _, rfl, h4, (fun e => by cases e), (fun a e _ => ⟨g, 0, by simpa using e.symm⟩), fun i hi => ⟨g, 0, rfl, ?_⟩⟩
    rw [Nat.zero_add]
    exact h.cells rfl i _ (by simp [intCells, List.getD, hi])
theorem RowAt.at {w : World} {ao : Option Addr} {cap : Nat} {l : List Int} (h : RowAt w ao cap l) (hl : l.length ≤ 1000) : IntsAt w (.slice ao l.length cap) l := by
  refine ⟨ao, cap, rfl, by unfold maxLen; omega, fun i hi => ?_⟩
  obtain ⟨b, o, h1, h2⟩ := h.cells i hi
  refine ⟨_, h1, ?_⟩
  rw [Addr.add_mid, h2]
  simp [List.getD, hi]
/-- A number of it. -/
theorem RowAt.get {w : World} {ao : Option Addr} {cap : Nat} {l : List Int} (h : RowAt w ao cap l) (k : Nat) (hk : k < l.length) : ∃ a : Addr, (∀ W, (Instr.indexAt 22 (.slice ao l.length cap) (.int .i64 (k : Int))).run Try.prog W = .ok (.pointer (some a)) W) ∧ w.cell? a = some (.int .i64 (l.getD k 0)) ∧ a.block < w.heap.size := by
  obtain ⟨b, o, h1, h2⟩ := h.cells k hk
  refine ⟨⟨b, o + k, none⟩, fun W => ?_, h2, World.block_lt_of_cell? w _ h2⟩
  have := atInts l.length cap k h1 hk W
  rwa [Addr.add_mid] at this
/-- What lies behind its first so many. -/
theorem RowAt.tail {w : World} {ao : Option Addr} {cap : Nat} {l : List Int} (h : RowAt w ao cap l) (k : Nat) (hk : k ≤ l.length) : ∃ bo, (∀ W, (Instr.slice 22 (.slice ao l.length cap) (some (.int .i64 (k : Int))) none none).run Try.prog W = .ok (.slice bo (l.length - k) (cap - k)) W) ∧ RowAt w bo (cap - k) (l.drop k) := by
  have hroom := h.room
  cases ao with
  | none =>
    have hc := h.bare rfl
    subst hc
    have hk0 : k = 0 := by omega
    have hl0 : l.length = 0 := by omega
    subst hk0
    refine ⟨none, fun W => ?_, ⟨by simp [hl0], fun _ => rfl, by simp, fun i hi => absurd hi (by simp [hl0])⟩⟩
    rw [hl0, run_slice_l W 22 none 0 0 Try.elemInts .i64 ((0 : Nat) : Int) (by omega) (by omega), Try.sizeInts]
    simp [Result.andThen, sliced]
  | some a =>
    by_cases hcap : cap - k = 0
    · refine ⟨some a, fun W => ?_, ?_⟩
      · rw [run_slice_l W 22 (some a) l.length cap Try.elemInts .i64 (k : Int) (by omega) (by omega), Try.sizeInts]
        simp only [Result.andThen, sliced, Int.toNat_natCast]
        rw [if_pos (by omega)]
      · exact ⟨by simp; omega, (fun e => by cases e), (fun a _ h0 => absurd h0 (by omega)), fun i hi => absurd hi (by simp; omega)⟩
    · obtain ⟨b, o, rfl⟩ := h.plain _ rfl (by omega)
      refine ⟨some ⟨b, o + k, none⟩, fun W => ?_, ?_⟩
      · rw [run_slice_l W 22 (some ⟨b, o, none⟩) l.length cap Try.elemInts .i64 (k : Int) (by omega) (by omega), Try.sizeInts]
        simp only [Result.andThen, sliced, Int.toNat_natCast]
        rw [if_neg (by omega)]
        simp [Addr.add_mid]
      · refine ⟨by simp; omega, (fun e => by cases e), (fun a e _ => ⟨b, o + k, by simpa using e.symm⟩), fun i hi => ?_⟩
        have hi2 : k + i < l.length := by simp at hi; omega
        obtain ⟨b', o', e1, e2⟩ := h.cells (k + i) hi2
        simp only [Option.some.injEq, Addr.mk.injEq, and_true] at e1
        obtain ⟨rfl, rfl⟩ := e1
        refine ⟨b, o + k, rfl, ?_⟩
        rw [show o + k + i = o + (k + i) by omega, e2]
        simp [List.getD]
/-- Its first so many. -/
theorem RowAt.head {w : World} {ao : Option Addr} {cap : Nat} {l : List Int} (h : RowAt w ao cap l) (k : Nat) (hk : k ≤ l.length) : (∀ W, (Instr.slice 22 (.slice ao l.length cap) none (some (.int .i64 (k : Int))) none).run Try.prog W = .ok (.slice ao k cap) W) ∧ RowAt w ao cap (l.take k) := by
  have hroom := h.room
  refine ⟨fun W => cut_head Try.elemInts Try.sizeInts (by omega) W, by simp; omega, h.bare, h.plain, fun i hi => ?_⟩
  have hi2 : i < k ∧ i < l.length := by simp at hi; omega
  obtain ⟨b, o, e1, e2⟩ := h.cells i hi2.2
  refine ⟨b, o, e1, ?_⟩
  rw [e2]
  simp [List.getD, hi2.1]
/-- append(row of the call's own, slice ..). -/
theorem append_row (i0 : TypeInfo) (hi : Try.prog.info? 3 = some i0) (hz0 : i0.zero = some (.int .i64 0)) (hz1 : i0.size = 1) (hz2 : i0.bytes = 8) {w0 w : World} {B : Nat} (v : Value) (xs : List Int) (h : OwnInts w B v xs) {ao : Option Addr} {cap : Nat} {news : List Int} (hr : RowAt w ao cap news) (hb : Below B w0 w) (hB : B ≤ w.heap.size) (hl : xs.length + news.length ≤ 1000) (n : Nat) (hn : n = news.length) (ty : TypeId) :
    ∃ v' w', (Builtin.append_ #[22, 22] ty #[v, .slice ao n cap]).run Try.prog w = .ok v' w' ∧ OwnInts w' B v' (xs ++ news) ∧ Below B w0 w' ∧ w.grownBy w' v.ownBlock := by
  subst hn
  have hc : news = [] ∨ ∃ a, ao = some a ∧ ∀ j u, (intCells news)[j]? = some u → w.cell? (a.add j) = some u := by
    by_cases hn : news = []
    · exact .inl hn
    · have hpos : 0 < news.length := List.length_pos_iff.2 hn
      obtain ⟨b, o, h1, _⟩ := hr.cells 0 hpos
      refine .inr ⟨_, h1, fun j u hu => ?_⟩
      have hj : j < news.length := by have := (List.getElem?_eq_some_iff.1 hu).1; rwa [intCells_length] at this
      obtain ⟨b', o', h2, h3⟩ := hr.cells j hj
      rw [h1] at h2
      simp only [Option.some.injEq, Addr.mk.injEq, and_true] at h2
      obtain ⟨rfl, rfl⟩ := h2
      rw [Addr.add_mid, h3, ← hu]
      simp [intCells, List.getD, hj]
  obtain ⟨v', w', h1, h2, h3⟩ := append_from i0 hi hz0 hz1 hz2 v xs h ty ao cap news hc hr.bare hB hl
  exact ⟨v', w', h1, h2, h.after hb hB h3, h3⟩
/-- append(row of the call's own, x). -/
theorem append_one (i0 : TypeInfo) (hi : Try.prog.info? 3 = some i0) (hz0 : i0.zero = some (.int .i64 0)) (hz1 : i0.size = 1) (hz2 : i0.bytes = 8) {w0 w : World} {B : Nat} (v : Value) (xs : List Int) (x : Int) (h : OwnInts w B v xs) (b : Nat) (hbk : w.heap[b]? = some (.cells #[.int .i64 x] 3 (0, 0))) (hb : Below B w0 w) (hB : B ≤ w.heap.size) (hl : xs.length ≤ 999) (ty : TypeId) :
    ∃ v' w', (Builtin.append_ #[22, 22] ty #[v, .slice (some ⟨b, 0, none⟩) 1 1]).run Try.prog w = .ok v' w' ∧ (∃ a c, v' = .slice a (xs.length + 1) c) ∧ OwnInts w' B v' (xs ++ [x]) ∧ Below B w0 w' := by
  obtain ⟨g, cap, w', h1, h2, h3, h4⟩ := push_one i0 hi hz0 hz1 hz2 v xs x h ty b hbk hB (by omega)
  exact ⟨_, w', h1, ⟨_, _, rfl⟩, h2, h.after hb hB h3⟩
end Go.Proofs.Ytdjhlgcbjdohiaa
