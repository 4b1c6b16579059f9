/- Contract of the reference's With: a row of numbers with one more. -/
import Derived.Test.YteafananeopigaaYa
import Derived.Deep.LoopGhost
namespace Go.Proofs.Yteafananeopigaa
open Go.RowKit

def withL : List Int → Int → List Int
  | [], n => [n]
  | x :: l, n => if x = n then x :: l else if n < x then n :: x :: l else x :: withL l n
theorem withL_skip : ∀ (l : List Int) (k : Nat) (n : Int), (∀ x ∈ l.take k, x < n) → withL l n = l.take k ++ withL (l.drop k) n
  | _, 0, _, _ => by simp
  | [], k + 1, _, _ => by simp
  | x :: l, k + 1, n, h => by
    have hx : x < n := h x (by simp)
    simp only [List.take_succ_cons, List.drop_succ_cons, List.cons_append]
    rw [withL, if_neg (by omega), if_neg (by omega), withL_skip l k n (fun y hy => h y (by simp [hy]))]
theorem withL_length (l : List Int) (n : Int) : (withL l n).length ≤ l.length + 1 := by
  induction l with
  | nil => simp [withL]
  | cons x l ih =>
    unfold withL
    split
    · simp
    · split <;> simp <;> omega
set_option maxRecDepth 10000 in
set_option maxHeartbeats 4000000 in
theorem with_any (l : List Int) (n : Int) (v : Value) (B : Nat) (w : World) (h : OwnInts w B v l) (hB : B ≤ w.heap.size) (hl : l.length ≤ 500) :
    Calls Try.prog 18 #[v, .int .i64 n] w fun e w' => ∃ u, e = .returned u ∧ OwnInts w' B u (withL l n) ∧ (∀ g, u.ownBlock = some g → v.ownBlock = some g ∨ w.heap.size ≤ g) ∧ Below w.heap.size w w' := by
  obtain ⟨i0, hi, hz0, hz1, hz2⟩ := info_parts Try.infoInt
  have hat := hid (h.at (by unfold maxLen; omega))
  have H := hid h
  obtain ⟨ao, cap, rfl⟩ := h.slice
  have hcap : l.length ≤ cap ∧ (ao = none → cap = 0) := by
    rcases h.2 with ⟨hv, h0⟩ | ⟨g, cap', cur, hv, _, _, hc, _⟩
    · simp only [Value.slice.injEq] at hv
      obtain ⟨rfl, _, rfl⟩ := hv
      exact ⟨by omega, fun _ => rfl⟩
    · simp only [Value.slice.injEq, true_and] at hv
      obtain ⟨rfl, rfl⟩ := hv
      exact ⟨hc, fun e => by cases e⟩
  obtain ⟨hcap, hnil⟩ := hcap
  have HW : Hid (∀ k, (∀ x ∈ l.take k, x < n) → withL l n = l.take k ++ withL (l.drop k) n) := hid (fun k hk => withL_skip l k n hk)
  generalize withL l n = RL at *
  replace hnil := hid hnil
  clear h
  go_enter Try.func18, Try.ntmps18
  go_wp2
  go_loopg [5] l.length (fun g i wr => ∃ (k : Nat), k + g = l.length ∧ i = .int .i64 k ∧ Hid (∀ x ∈ l.take k, x < n) ∧ wr = w)
  case atStart => exact ⟨0, by omega, rfl, hid (by simp), rfl⟩
  case round =>
    obtain ⟨k, hk, rfl, hlt, rfl⟩ := hrel
    have hRL := hid (HW.out k hlt.out)
    clear HW
    cases gk with
    | zero =>
      have hke : k = l.length := by omega
      subst hke
      have hRL2 := hRL.out
      rw [List.take_length, List.drop_length, withL] at hRL2
      replace hRL2 := hid hRL2
      have hsrc : l = [] ∨ ∃ a, ao = some a ∧ ∀ j u, (intCells l)[j]? = some u → wr.cell? (a.add j) = some u := by
        rcases H.out.2 with ⟨hv, h0⟩ | ⟨g, cap', cur, hv, _⟩
        · exact .inl (List.length_eq_zero_iff.1 h0)
        · simp only [Value.slice.injEq, true_and] at hv
          obtain ⟨rfl, rfl⟩ := hv
          exact .inr ⟨_, rfl, fun j u hu => by rw [Addr.add_mid, Nat.zero_add]; exact H.out.cells rfl j u hu⟩
      replace hsrc := hid hsrc
      clear hlt hRL hat
      go_wp2_with (first
        | (at_builtin; refine wpList_append_any rfl (.const (.slice none 0 0)) (.tmp 36) 22 rfl _ _ rfl rfl (append_from i0 hi hz0 hz1 hz2 (.slice none 0 0) [] (OwnInts.nil wr wr.heap.size) _ ao cap l hsrc.out hnil.out (Nat.le_refl _) (by simp; omega)) ?_; rintro v1 w1 ⟨h1, g1⟩; rw [List.nil_append] at h1; have HB1 := hid ((OwnInts.nil wr wr.heap.size).after (Below.refl _ _) (Nat.le_refl _) g1); replace h1 := hid h1; clear g1; have hs1 := HB1.out.size)
        | (at_builtin; refine wpList_append_any rfl (.tmp 37) (.tmp 39) 22 rfl _ _ rfl rfl (append_from i0 hi hz0 hz1 hz2 _ l (h1.out.alloc _) _ (some ⟨w1.heap.size, 0, none⟩) 1 [n] (.inr ⟨_, rfl, World.news_of_block (heap_newL w1 _)⟩) (by simp) (by simp; omega) (by simp; omega)) ?_; rintro v2 w2 ⟨h2, g2⟩; have HB2 := hid ((h1.out.alloc _).after (HB1.out.alloc hs1 _) (by simp; omega) g2); replace h2 := hid h2; clear g2)
        | fail)
      go_ret
      refine ⟨_, rfl, ?_, fun g hg => .inr (World.ownsRow.lt h2.out g hg).1, HB2.out⟩
      rw [hRL2.out]
      exact h2.out.mono hB
    | succ g =>
      have hlk : k < l.length := by omega
      obtain ⟨ao', cap', hv', _, hcs⟩ := hat.out
      simp only [Value.slice.injEq, true_and] at hv'
      obtain ⟨rfl, rfl⟩ := hv'
      obtain ⟨a, ha, hcell⟩ := hcs k hlk
      have hx := index_at (len := l.length) (cap := cap) Try.elemInts Try.sizeInts k ha hlk
      by_cases he : l[k] = n
      · rw [he] at hcell
        have hRL2 := hRL.out
        rw [List.drop_eq_getElem_cons hlk, withL, if_pos he, ← List.drop_eq_getElem_cons hlk, List.take_append_drop] at hRL2
        replace hRL2 := hid hRL2
        clear hlt hRL hat he ha hcs
        go_wp2
        go_ret
        refine ⟨_, rfl, ?_, fun g hg => .inl hg, Below.refl _ _⟩
        rw [hRL2.out]
        exact H.out
      · by_cases hg : n < l[k]
        · obtain ⟨g0, rfl⟩ : ∃ g0, ao = some ⟨g0, 0, none⟩ := by
            rcases H.out.2 with ⟨hv, h0⟩ | ⟨g, cap', cur, hv, _⟩
            · omega
            · simp only [Value.slice.injEq, true_and] at hv
              exact ⟨g, hv.1⟩
          have hRL2 := hRL.out
          rw [List.drop_eq_getElem_cons hlk, withL, if_neg he, if_pos hg, ← List.drop_eq_getElem_cons hlk] at hRL2
          replace hRL2 := hid hRL2
          have he2 : (l[k] == n) = false := by simpa using he
          have hch := fun W => cut_head (ao := some ⟨g0, 0, none⟩) (len := l.length) (cap := cap) (n := k) Try.elemInts Try.sizeInts (by omega) W
          have hct := fun W => tail_at g0 l.length cap k hlk hcap W
          have hlen1 : (l.take k).length = k := by rw [List.length_take]; omega
          have hlen2 : (l.drop k).length = l.length - k := List.length_drop
          have hcl := H.out.cells rfl
          have S1 : Hid (∀ X, Below wr.heap.size wr X → l.take k = [] ∨ ∃ a : Addr, (some ⟨g0, 0, none⟩ : Option Addr) = some a ∧ ∀ j u, (intCells (l.take k))[j]? = some u → X.cell? (a.add j) = some u) := hid (by
            intro X hX
            refine .inr ⟨_, rfl, fun j u hu => ?_⟩
            have hu2 : (intCells l)[j]? = some u := by
              have hj := (List.getElem?_eq_some_iff.1 hu).1
              rw [intCells_length] at hj
              rw [← hu, intCells, intCells, List.map_take, List.getElem?_take, if_pos (by omega)]
            have h3 := hcl j u hu2
            rw [Addr.add_mid, Nat.zero_add, hX.cell (p := ⟨g0, j, none⟩) (World.block_lt_of_cell? wr _ h3)]
            exact h3)
          have S2 : Hid (∀ X, Below wr.heap.size wr X → l.drop k = [] ∨ ∃ a : Addr, (some ⟨g0, k, none⟩ : Option Addr) = some a ∧ ∀ j u, (intCells (l.drop k))[j]? = some u → X.cell? (a.add j) = some u) := hid (by
            intro X hX
            refine .inr ⟨_, rfl, fun j u hu => ?_⟩
            have hu2 : (intCells l)[k + j]? = some u := by
              rw [← hu, intCells, intCells, List.map_drop, List.getElem?_drop]
            have h3 := hcl (k + j) u hu2
            rw [Addr.add_mid, hX.cell (p := ⟨g0, k + j, none⟩) (World.block_lt_of_cell? wr _ h3)]
            exact h3)
          have A1 : Hid (∀ X, Below wr.heap.size wr X → ∀ ty, ∃ v' w', (Builtin.append_ #[22, 22] ty #[.slice none 0 0, .slice (some ⟨g0, 0, none⟩) k cap]).run Try.prog X = .ok v' w' ∧ OwnInts w' wr.heap.size v' (l.take k) ∧ Below wr.heap.size wr w' ∧ X.grownBy w' none) := hid (by
            intro X hX ty
            obtain ⟨v', w', e1, e2, e3⟩ := append_from i0 hi hz0 hz1 hz2 (.slice none 0 0) [] (OwnInts.nil X wr.heap.size) ty (some ⟨g0, 0, none⟩) cap (l.take k) (S1.out X hX) (by simp) hX.size (by simp; omega)
            rw [hlen1] at e1
            exact ⟨v', w', e1, by simpa using e2, (OwnInts.nil X wr.heap.size).after hX hX.size e3, e3⟩)
          have A3 : Hid (∀ X, Below wr.heap.size wr X → ∀ u, OwnInts X wr.heap.size u (l.take k ++ [n]) → ∀ ty, ∃ v' w', (Builtin.append_ #[22, 22] ty #[u, .slice (some ⟨g0, k, none⟩) (l.length - k) (cap - k)]).run Try.prog X = .ok v' w' ∧ OwnInts w' wr.heap.size v' ((l.take k ++ [n]) ++ l.drop k) ∧ Below wr.heap.size wr w') := hid (by
            intro X hX u hu ty
            obtain ⟨v', w', e1, e2, e3⟩ := append_from i0 hi hz0 hz1 hz2 u _ hu ty (some ⟨g0, k, none⟩) (cap - k) (l.drop k) (S2.out X hX) (by simp) hX.size (by simp; omega)
            rw [hlen2] at e1
            exact ⟨v', w', e1, e2, hu.after hX hX.size e3⟩)
          have A2 : Hid (∀ X, Below wr.heap.size wr X → ∀ u, OwnInts X wr.heap.size u (l.take k) → ∀ b, wr.heap.size ≤ b → X.heap[b]? = some (.cells #[.int .i64 n] 3 (0, 0)) → ∀ ty, ∃ v' w', (Builtin.append_ #[22, 22] ty #[u, .slice (some ⟨b, 0, none⟩) 1 1]).run Try.prog X = .ok v' w' ∧ OwnInts w' wr.heap.size v' (l.take k ++ [n]) ∧ Below wr.heap.size wr w') := hid (by
            intro X hX u hu b hb hbk ty
            obtain ⟨v', w', e1, e2, e3⟩ := append_from i0 hi hz0 hz1 hz2 u _ hu ty (some ⟨b, 0, none⟩) 1 [n] (.inr ⟨_, rfl, World.news_of_block hbk⟩) (by simp) hX.size (by simp; omega)
            exact ⟨v', w', e1, e2, hu.after hX hX.size e3⟩)
          clear hlt hRL hat he ha hcs S1 S2 hcl hlen1 hlen2
          generalize l[k] = y at *
          have b0 : Below wr.heap.size wr wr.drew := ⟨rfl, rfl, rfl, Nat.le_refl _, fun _ _ => rfl⟩
          have bA := fun o => b0.alloc (Nat.le_refl _) o
          replace b0 := hid b0
          replace bA := hid bA
          go_wp2_with fail
          go_region_law (first
            | (refine step_append_any rfl (.const (.slice none 0 0)) (.tmp 27) 22 rfl _ _ rfl rfl (A1.out _ (by first | exact b0.out | exact bA.out _) _) ?_; rintro v1 w1 ⟨h1, b1, g1⟩; have hk1 : w1.heap.size = w1.heap.size := rfl; (first | (have hk1 := (g1.block wr.heap.size (by simp) (by simp)).trans (heap_newL wr (.cells #[.int .i64 n] 3))) | skip); have s1 := b1.size; replace h1 := hid h1; replace b1 := hid b1; replace hk1 := hid hk1; clear g1)
            | (refine step_append_any rfl (.tmp 28) (.tmp 30) 22 rfl _ _ rfl rfl (A2.out _ (by first | exact b1.out | exact b1.out.alloc s1 _) _ (by first | exact h1.out | exact h1.out.alloc _) _ (by first | exact Nat.le_refl _ | exact s1) (by first | exact hk1.out | exact heap_newL w1 _) _) ?_; rintro v2 w2 ⟨h2, b2⟩; replace h2 := hid h2; replace b2 := hid b2)
            | (refine step_append_any rfl (.tmp 31) (.tmp 34) 22 rfl _ _ rfl rfl (A3.out _ b2.out _ h2.out _) ?_; rintro v3 w3 ⟨h3, b3⟩; replace h3 := hid h3; replace b3 := hid b3))
          all_goals go_wp2
          all_goals go_ret
          all_goals
            refine ⟨_, rfl, ?_, fun g hg => .inr (World.ownsRow.lt h3.out g hg).1, b3.out⟩
            rw [hRL2.out]
            have := h3.out.mono hB
            simpa using this
        · have hlt2 : l[k] < n := by omega
          have he2 : (l[k] == n) = false := by simpa using he
          have hlt3 : Hid (∀ x ∈ l.take (k + 1), x < n) := hid (by
            intro x hx
            rw [List.take_succ_eq_append_getElem hlk, List.mem_append] at hx
            rcases hx with hx | hx
            · exact hlt.out x hx
            · have : x = l[k] := by simpa using hx
              omega)
          generalize l[k] = y at *
          clear hlt hRL hat he ha hcs hg
          go_wp2
          go_roundg g
          case rel => exact ⟨k + 1, by omega, by go_num, hlt3, rfl⟩
          case measure => omega
end Go.Proofs.Yteafananeopigaa
