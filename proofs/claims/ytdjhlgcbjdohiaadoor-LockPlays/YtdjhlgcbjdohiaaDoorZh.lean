/- Contracts of the reference's Has and Without. -/
import Derived.Test.YtdjhlgcbjdohiaaDoorZa
import Derived.Deep.LoopGhost
namespace Go.Proofs.YtdjhlgcbjdohiaaDoor
open Go.RowKit

theorem own_at {w : World} {B : Nat} {v : Value} {l : List Int} (h : OwnInts w B v l) (hl : l.length ≤ 1000) : ∃ ao cap, v = .slice ao l.length cap ∧ ∀ i (h : i < l.length), ∃ a, ao = some a ∧ w.cell? (a.add i) = some (.int .i64 l[i]) := by
  obtain ⟨ao, cap, h1, _, h2⟩ := h.at (by unfold maxLen; omega)
  exact ⟨ao, cap, h1, h2⟩
set_option maxHeartbeats 4000000 in
theorem has_any (l : List Int) (n : Int) (v : Value) (B : Nat) (w : World) (h : OwnInts w B v l) (hl : l.length ≤ 1000) :
    Calls Tryd.prog 59 #[v, .int .i64 n] w fun e w' => e = .returned (.bool (l.contains n)) ∧ w' = w := by
  obtain ⟨ao, cap, rfl, hcs⟩ := own_at h hl
  have HC := hid hcs
  clear h hcs
  have HK : Hid (∀ k, ¬ n ∈ l.take k → l.contains n = (l.drop k).contains n) := hid (by
    intro k hk
    conv => lhs; rw [← List.take_append_drop k l]
    simp only [List.contains_eq_mem, List.mem_append]
    simp [hk])
  generalize l.contains n = RL at *
  go_enter Tryd.func59, Tryd.ntmps59
  go_wp2
  go_loopg [5] l.length (fun g i wr => ∃ (k : Nat), k + g = l.length ∧ i = .int .i64 k ∧ Hid (¬ n ∈ l.take k) ∧ wr = w)
  case atStart => exact ⟨0, by omega, rfl, hid (by simp), rfl⟩
  case round =>
    obtain ⟨k, hk, rfl, hlt, rfl⟩ := hrel
    have hRL := HK.out k hlt.out
    clear HK
    cases gk with
    | zero =>
      have hke : k = l.length := by omega
      subst hke
      rw [List.drop_length] at hRL
      have hRL2 : RL = false := by simpa using hRL
      clear hRL hlt HC
      subst hRL2
      go_wp2
      go_ret
      exact ⟨rfl, rfl⟩
    | succ g =>
      have hlk : k < l.length := by omega
      obtain ⟨a, ha, hcell⟩ := HC.out k hlk
      have hx := index_at (len := l.length) (cap := cap) Tryd.elemInts Tryd.sizeInts k ha hlk
      rw [List.drop_eq_getElem_cons hlk] at hRL
      by_cases he : l[k] = n
      · have hRL2 : RL = true := by rw [hRL]; simp [he]
        rw [he] at hcell
        clear hRL hlt HC he ha
        subst hRL2
        go_wp2
        go_ret
        exact ⟨rfl, rfl⟩
      · have he2 : (l[k] == n) = false := by simpa using he
        have hlt2 : Hid (¬ n ∈ l.take (k + 1)) := hid (by
          intro hm
          rw [List.take_succ_eq_append_getElem hlk, List.mem_append] at hm
          rcases hm with hm | hm
          · exact hlt.out hm
          · have : n = l[k] := by simpa using hm
            exact he this.symm)
        generalize l[k] = y at *
        clear hlt HC he ha hRL
        go_wp2
        go_roundg g
        case rel => exact ⟨k + 1, by omega, by go_num, hlt2, rfl⟩
        case measure => omega

def withoutL (l : List Int) (x : Int) : List Int := l.filter (· != x)
theorem withoutL_take (l : List Int) (x : Int) (k : Nat) (h : k < l.length) : withoutL (l.take (k + 1)) x = if l[k] = x then withoutL (l.take k) x else withoutL (l.take k) x ++ [l[k]] := by
  rw [List.take_succ_eq_append_getElem h, withoutL, List.filter_append]
  by_cases e : l[k] = x <;> simp [withoutL, e]
theorem withoutL_le (l : List Int) (x : Int) : (withoutL l x).length ≤ l.length := List.length_filter_le _ _
set_option maxRecDepth 10000 in
set_option maxHeartbeats 4000000 in
theorem without_any (l : List Int) (n : Int) (v : Value) (B : Nat) (w : World) (h : OwnInts w B v l) (hl : l.length ≤ 1000) :
    Calls Tryd.prog 45 #[v, .int .i64 n] w fun e w' => ∃ u, e = .returned u ∧ OwnInts w' w.heap.size u (withoutL l n) ∧ Below w.heap.size w w' := by
  obtain ⟨i0, hi, hz0, hz1, hz2⟩ := info_parts Tryd.infoInt
  obtain ⟨ao, cap, rfl, hcs⟩ := own_at h hl
  have HC := hid hcs
  clear h hcs
  go_enter Tryd.func45, Tryd.ntmps45
  go_wp2
  go_loopg [5, 6] l.length (fun g u i wr => ∃ (k : Nat), k + g = l.length ∧ i = .int .i64 k ∧ Hid (OwnInts wr w.heap.size u (withoutL (l.take k) n)) ∧ Hid (Below w.heap.size w wr))
  case atStart => exact ⟨0, by omega, rfl, OwnInts.nil _ _, Below.refl _ _⟩
  case round =>
    obtain ⟨k, hk, rfl, hu, hb⟩ := hrel
    cases gk with
    | zero =>
      have hke : k = l.length := by omega
      subst hke
      rw [List.take_length] at hu
      obtain ⟨ao', cap', rfl⟩ := hu.out.slice
      go_wp2
      go_ret
      exact ⟨_, rfl, hu.out, hb.out⟩
    | succ g =>
      have hlk : k < l.length := by omega
      obtain ⟨a, ha, hce⟩ := HC.out k hlk
      have hcell : wr.cell? (a.add k) = some (Value.int .i64 l[k]) := (hb.out.cell (p := a.add k) (World.block_lt_of_cell? w _ hce)).trans hce
      have hx := index_at (len := l.length) (cap := cap) Tryd.elemInts Tryd.sizeInts k ha hlk
      have HT := hid (withoutL_take l n k hlk)
      have hle := withoutL_le (l.take k) n
      rw [List.length_take] at hle
      have hsz := hb.out.size
      generalize hL : withoutL (l.take k) n = L at *
      obtain ⟨ao', cap', rfl⟩ := hu.out.slice
      obtain ⟨y, hy⟩ : ∃ y, l[k] = y := ⟨_, rfl⟩
      rw [hy] at hcell HT
      replace hL := hid hL
      clear hy hce ha
      by_cases he : y = n
      · have he2 : (y != n) = false := by simpa using he
        rw [if_pos he] at HT
        clear he
        go_wp2
        go_roundg g
        case rel => exact ⟨k + 1, by omega, by go_num, by show OwnInts _ _ _ _; rw [HT.out]; exact hu.out, hb⟩
        case measure => omega
      · have he2 : (y != n) = true := by simpa using he
        rw [if_neg he] at HT
        clear he
        have bA := hid (hb.out.alloc (by omega) (.cells #[.int .i64 y] 3))
        have A1 := hid (fun ty => push_one i0 hi hz0 hz1 hz2 _ L y (hu.out.alloc (.cells #[.int .i64 y] 3)) ty wr.heap.size (heap_newL wr (.cells #[.int .i64 y] 3)) (by simp; omega) (by omega))
        have A2 : Hid (∀ ty, ∃ v' w', (Builtin.append_ #[36, 36] ty #[.slice ao' L.length cap', .slice (some ⟨wr.heap.size, 0, none⟩) 1 1]).run Tryd.prog (wr.alloc (.cells #[.int .i64 y] 3)) = .ok v' w' ∧ (∃ g c, v' = .slice (some ⟨g, 0, none⟩) (L.length + 1) c ∧ OwnInts w' w.heap.size v' (L ++ [y]) ∧ Below w.heap.size w w')) := hid (by
          intro ty
          obtain ⟨g, c, w', e1, e2, e3, e4⟩ := A1.out ty
          exact ⟨_, w', e1, g, c, rfl, e2, (hu.out.alloc _).after bA.out (by simp; omega) e3⟩)
        clear A1
        go_wp2_with (first
          | (at_builtin; refine wpList_append_any rfl (.tmp 19) (.tmp 24) 36 rfl _ _ rfl rfl (A2.out _) ?_; rintro v1 w1 ⟨g1, c1, rfl, h1, b1⟩; replace h1 := hid h1; replace b1 := hid b1)
          | fail)
        go_roundg g
        case rel => exact ⟨k + 1, by omega, by go_num, by show OwnInts _ _ _ _; rw [HT.out]; exact h1.out, b1⟩
        case measure => omega
end Go.Proofs.YtdjhlgcbjdohiaaDoor
