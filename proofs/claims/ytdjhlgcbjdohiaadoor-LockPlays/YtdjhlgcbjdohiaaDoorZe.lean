/- Contracts of slices.BinarySearch, slices.Delete and slices.Clone of those that live; of package procs' Lives, All, Spawn, Kill and Power. -/
import Derived.Test.YtdjhlgcbjdohiaaDoorZd
import Derived.Test.YtdjhlgcbjdohiaaDoorSm
import Derived.RegionTactic
import Derived.Deep.LoopGhost
namespace Go.Proofs.YtdjhlgcbjdohiaaDoor
open Go.RowKit Go.Conc Go.Sort

/-- Those that live without one. -/
def killL (l : List Int) (x : Int) : List Int := l.filter (· != x)
theorem killL_mem (l : List Int) (x y : Int) : y ∈ killL l x ↔ y ∈ l ∧ y ≠ x := by simp [killL]
theorem killL_none (l : List Int) (x : Int) (h : ¬ x ∈ l) : killL l x = l := by
  rw [killL, List.filter_eq_self]
  intro y hy
  simp
  rintro rfl
  exact h hy
theorem killL_split : ∀ (l : List Int) (x : Int), l.Pairwise (· < ·) → x ∈ l → l.countP (· < x) < l.length ∧ killL l x = l.take (l.countP (· < x)) ++ l.drop (l.countP (· < x) + 1)
  | [], x, _, h => absurd h (by simp)
  | a :: l, x, hp, h => by
    rw [List.pairwise_cons] at hp
    rcases List.mem_cons.1 h with rfl | h'
    · have h0 : l.countP (· < x) = 0 := by
        rw [List.countP_eq_zero]
        intro y hy
        have := hp.1 y hy
        simp
        omega
      have h1 : (x :: l).countP (· < x) = 0 := by rw [List.countP_cons_of_neg (by simp)]; exact h0
      refine ⟨by rw [h1]; simp, ?_⟩
      rw [h1]
      have : killL l x = l := killL_none l x (fun hx => by have := hp.1 x hx; omega)
      simp only [killL] at this ⊢
      simp [this]
    · have hax : a < x := hp.1 x h'
      obtain ⟨h1, h2⟩ := killL_split l x hp.2 h'
      have h3 : (a :: l).countP (· < x) = l.countP (· < x) + 1 := by rw [List.countP_cons_of_pos (by simpa using hax)]
      refine ⟨by rw [h3]; simp; omega, ?_⟩
      rw [h3]
      simp only [killL] at h2 ⊢
      rw [List.filter_cons_of_pos (by simp; omega), h2]
      simp
theorem killL_length (l : List Int) (x : Int) (hp : l.Pairwise (· < ·)) (h : x ∈ l) : (killL l x).length + 1 = l.length := by
  obtain ⟨h1, h2⟩ := killL_split l x hp h
  rw [h2]
  simp
  omega

theorem own_cells {w : World} {B g n cap : Nat} {l : List Int} (h : OwnInts w B (.slice (some ⟨g, 0, none⟩) n cap) l) (hn : n = l.length) : ∀ j, j < l.length → w.cell? ⟨g, 0 + j, none⟩ = some (.int .i64 (l.getD j 0)) := by
  intro j hj
  rw [Nat.zero_add]
  exact h.cells hn j _ (by simp [intCells, List.getD, hj])
/-- Behind slices.Delete. -/
theorem own_cut {w : World} {B g n cap : Nat} {l : List Int} (h : OwnInts w B (.slice (some ⟨g, 0, none⟩) n cap) l) (m : List Int) (hm : m.length + 1 = l.length) (q : Nat) : OwnInts (putRow (Value.int .i64) (Sort.ahead w q) g 0 (m ++ [0]).toArray) B (.slice (some ⟨g, 0, none⟩) m.length cap) m := by
  obtain ⟨_, h2⟩ := h
  refine ⟨by simp [intCells], ?_⟩
  rcases h2 with ⟨hv, _⟩ | ⟨g', cap', cur, hv, hb, hg, hn, hc, hs, ht⟩
  · cases hv
  · simp only [Value.slice.injEq, Option.some.injEq, Addr.mk.injEq, and_true] at hv
    obtain ⟨rfl, _, rfl⟩ := hv
    refine .inr ⟨g, cap, putCells (Value.int .i64) 0 (m ++ [0]).toArray cur, rfl, hb, ?_, by omega, hc, by simpa [putCells] using hs, ?_⟩
    · simp [putRow, mapBlock, Sort.ahead, Array.getElem?_modify, hg, onCells]
    · apply List.ext_getElem?
      intro j
      rw [List.getElem?_take]
      by_cases hj : j < m.length
      · rw [if_pos (by omega)]
        have hjc : j < cur.size := by omega
        simp [putCells, intCells, hj, hjc, show j < m.length + 1 by omega]
      · rw [if_neg (by omega)]
        simp [intCells, Nat.le_of_not_lt hj]
theorem putRow_other {w : World} {g q k : Nat} {d : Array Int} (h : k ≠ g) : (putRow (Value.int .i64) (Sort.ahead w q) g 0 d).heap[k]? = w.heap[k]? := by
  simp [putRow, mapBlock, Sort.ahead, Array.getElem?_modify, Ne.symm h]
theorem grown_putRow (w : World) (g q : Nat) (d : Array Int) : w.grownBy (putRow (Value.int .i64) (Sort.ahead w q) g 0 d) (some g) :=
  ⟨rfl, rfl, rfl, by simp [putRow, mapBlock, Sort.ahead], fun k _ hne => putRow_other (fun e => hne (by rw [e]))⟩

theorem search_any (w : World) (B : Nat) (v : Value) (l : List Int) (x : Int) (h : OwnInts w B v l) (hl : l.length ≤ 64) (hp : l.Pairwise (· < ·)) :
    Calls Tryd.prog 42 #[v, .int .i64 x] w fun e w' => e = .returned (.tuple #[.int .i64 (l.countP (· < x) : Nat), .bool (l.contains x)]) ∧ ∃ q, w' = w.drewN q := by
  rcases h.2 with ⟨rfl, h0⟩ | ⟨g, cap, cur, rfl, _⟩
  · have : l = [] := List.length_eq_zero_iff.1 h0
    subst this
    refine (Tryd.slices_BinarySearch_int_empty none 0 x w).mono ?_
    rintro e w' ⟨rfl, rfl⟩
    exact ⟨by simp, 0, rfl⟩
  · have := Tryd.slices_BinarySearch_int g 0 l.length cap l x w (Nat.le_refl _) (by omega) (own_cells h rfl) (by rw [List.take_length]; exact hp.imp (fun h => Int.le_of_lt h))
    rw [List.take_length] at this
    exact this
theorem delete_any (w : World) (B g cap : Nat) (l : List Int) (x : Int) (h : OwnInts w B (.slice (some ⟨g, 0, none⟩) l.length cap) l) (hp : l.Pairwise (· < ·)) (hx : x ∈ l) :
    Calls Tryd.prog 43 #[.slice (some ⟨g, 0, none⟩) l.length cap, .int .i64 (l.countP (· < x) : Nat), .int .i64 ((l.countP (· < x) : Nat) + 1)] w fun e w' => e = .returned (.slice (some ⟨g, 0, none⟩) (killL l x).length cap) ∧ OwnInts w' B (.slice (some ⟨g, 0, none⟩) (killL l x).length cap) (killL l x) ∧ w.grownBy w' (some g) := by
  obtain ⟨h1, h2⟩ := killL_split l x hp hx
  have h3 := killL_length l x hp hx
  have hcap : l.length ≤ cap ∧ cap ≤ 9223372036854775807 := by
    rcases h.2 with ⟨hv, _⟩ | ⟨g', cap', cur, hv, hb, hg, hn, hc, _⟩
    · cases hv
    · simp only [Value.slice.injEq, Option.some.injEq, Addr.mk.injEq, true_and, and_true] at hv
      obtain ⟨rfl, rfl⟩ := hv
      exact ⟨hn, hc⟩
  have hH : Holds (Value.int .i64) w g 0 l.toArray := by
    intro j hj
    have hj' : j < l.length := by simpa using hj
    refine ⟨?_, World.ownsRow.frozenAt h _⟩
    rw [own_cells h rfl j hj']
    simp [List.getD, hj']
  refine (Tryd.slices_Delete_int g 0 cap (l.countP (· < x)) (l.countP (· < x) + 1) l w hH hcap.1 hcap.2 (by omega) (by omega)).mono ?_
  rintro e w' ⟨rfl, q, rfl⟩
  rw [← h2, show l.countP (· < x) + 1 - l.countP (· < x) = 1 by omega, show l.length - 1 = (killL l x).length by omega]
  exact ⟨rfl, own_cut h _ h3 q, grown_putRow w g q _⟩

theorem below_drewN (w : World) (n : Nat) : Below w.heap.size w (w.drewN n) := ⟨rfl, rfl, rfl, Nat.le_refl _, fun _ _ => rfl⟩
set_option maxHeartbeats 1000000 in
theorem lives_any (w : World) (B pb cb n : Nat) (v : Value) (last x : Int) (l : List Int) (h : ProcsAt w B pb cb v last l n) :
    Calls Tryd.prog 33 #[.pointer (some ⟨pb, 0, none⟩), .int .i64 x] w fun e w' => e = .returned (.bool (l.contains x)) ∧ Below w.heap.size w w' := by
  have hx := cell_rowL h.obj
  have hlt := h.lt
  have HS := hid (search_any w B v l x h.row h.len h.rises)
  obtain ⟨ao, cap, rfl⟩ := h.slice
  clear h
  generalize l.contains x = c at *
  go_enter Tryd.func33, Tryd.ntmps33
  go_wp2_with (go_at_call 42; refine HS.out.mono ?_; rintro e w1 ⟨rfl, q, rfl⟩; have hb := hid (below_drewN w q); generalize w.drewN q = X at *)
  go_ret
  exact ⟨rfl, hb.out⟩
end Go.Proofs.YtdjhlgcbjdohiaaDoor
