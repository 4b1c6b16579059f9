/- Contracts of the reference's With, of slices that are read. -/
import Derived.Test.YtdjhlgcbjdohiaaHh
namespace Go.Proofs.Ytdjhlgcbjdohiaa
open Go.RowKit

set_option maxRecDepth 10000 in
set_option maxHeartbeats 4000000 in
theorem rwith_any7 (l : List Int) (n : Int) (ao : Option Addr) (cap len : Nat) (hlen : len = l.length) (w : World) (h : RowAt w ao cap l) (hl : l.length ≤ 800) :
    Calls Try.prog 16 #[.slice ao len cap, .int .i64 n] w fun e w' => ∃ uo uc, e = .returned (.slice uo (withL l n).length uc) ∧ RowAt w' uo uc (withL l n) ∧ Below w.heap.size w w' := by
  subst hlen
  obtain ⟨i0, hi, hz0, hz1, hz2⟩ := info_parts Try.infoInt
  have HC := hid h
  have HW : Hid (∀ k, (∀ x ∈ l.take k, x < n) → withL l n = l.take k ++ withL (l.drop k) n) := hid (fun k hk => withL_skip l k n hk)
  generalize withL l n = RL at *
  clear h
  go_enter Try.func16, Try.ntmps16
  go_wp2
  go_loopg [5] l.length (fun g i wr => ∃ (k : Nat), k + g = l.length ∧ i = .int .i64 k ∧ Hid (∀ x ∈ l.take k, x < n) ∧ wr = w)
  case atStart => exact ⟨0, by omega, rfl, hid (by simp), rfl⟩
  case round =>
    obtain ⟨k, hk, rfl, hlt, rfl⟩ := hrel
    have hRL := hid (HW.out k hlt.out)
    clear HW
    cases gk with
    | zero =>
      have hke : k = l.length := by omega
      subst hke
      have hRL2 := hRL.out
      rw [List.take_length, List.drop_length, withL] at hRL2
      replace hRL2 := hid hRL2
      clear hlt hRL
      have A1 := hid (append_row i0 hi hz0 hz1 hz2 (w0 := wr) (.slice none 0 0) [] (OwnInts.nil wr wr.heap.size) HC.out (Below.refl _ _) (Nat.le_refl _) (by simp; omega) l.length rfl)
      have A2 : Hid (∀ X v, OwnInts X wr.heap.size v l → Below wr.heap.size wr X → ∀ ty, ∃ v' w', (Builtin.append_ #[22, 22] ty #[v, .slice (some ⟨X.heap.size, 0, none⟩) 1 1]).run Try.prog (X.alloc (.cells #[.int .i64 n] 3)) = .ok v' w' ∧ (∃ a c, v' = .slice a (l.length + 1) c) ∧ OwnInts w' wr.heap.size v' (l ++ [n]) ∧ Below wr.heap.size wr w') := hid (fun X v hv hX ty =>
        append_one i0 hi hz0 hz1 hz2 (w0 := wr) v l n (hv.alloc _) _ (heap_newL _ _) (hX.alloc hX.size _) (by have := hX.size; simp; omega) (by omega) ty)
      go_wp2_with (first
        | (at_builtin; refine wpList_append_any rfl (.const (.slice none 0 0)) (.tmp 36) 22 rfl _ _ rfl rfl (A1.out _) ?_; rintro v1 w1 ⟨h1, b1, _⟩; rw [List.nil_append] at h1; replace h1 := hid h1; replace b1 := hid b1)
        | (at_builtin; refine wpList_append_any rfl (.tmp 37) (.tmp 39) 22 rfl _ _ rfl rfl (A2.out _ _ h1.out b1.out _) ?_; rintro v2 w2 ⟨⟨ra, rc, rfl⟩, h2, b2⟩; replace h2 := hid h2; replace b2 := hid b2)
        | fail)
      go_ret
      obtain ⟨uo, uc, hu, hr⟩ := RowAt.own h2.out
      rw [hRL2.out]
      exact ⟨uo, uc, congrArg Ending.returned hu, hr, b2.out⟩
    | succ g =>
      have hlk : k < l.length := by omega
      obtain ⟨pa, hx, hcell, hpa⟩ := HC.out.get k hlk
      rw [show l.getD k 0 = l[k] by simp [List.getD, hlk]] at hcell
      by_cases he : l[k] = n
      · rw [he] at hcell
        have hRL2 := hRL.out
        rw [List.drop_eq_getElem_cons hlk, withL, if_pos he, ← List.drop_eq_getElem_cons hlk, List.take_append_drop] at hRL2
        replace hRL2 := hid hRL2
        clear hlt hRL he hpa
        go_wp2
        go_ret
        rw [hRL2.out]
        exact ⟨ao, cap, rfl, HC.out, Below.refl _ _⟩
      · by_cases hg : n < l[k]
        · have hRL2 := hRL.out
          rw [List.drop_eq_getElem_cons hlk, withL, if_neg he, if_pos hg, ← List.drop_eq_getElem_cons hlk] at hRL2
          replace hRL2 := hid hRL2
          have he2 : (l[k] == n) = false := by simpa using he
          obtain ⟨hch, hR1⟩ := HC.out.head k (by omega)
          obtain ⟨bo, hct, hR2⟩ := HC.out.tail k (by omega)
          have hlen1 : (l.take k).length = k := by rw [List.length_take]; omega
          have hlen2 : (l.drop k).length = l.length - k := List.length_drop
          have A1 : Hid (∀ X, Below wr.heap.size wr X → ∀ ty, ∃ v' w', (Builtin.append_ #[22, 22] ty #[.slice none 0 0, .slice ao k cap]).run Try.prog X = .ok v' w' ∧ OwnInts w' wr.heap.size v' (l.take k) ∧ Below wr.heap.size wr w' ∧ X.grownBy w' none) := hid (by
            intro X hX ty
            obtain ⟨v', w', e1, e2, e3, e4⟩ := append_row i0 hi hz0 hz1 hz2 (w0 := wr) (.slice none 0 0) [] (OwnInts.nil X wr.heap.size) (hR1.below hX (Nat.le_refl _)) hX hX.size (by simp; omega) k hlen1.symm ty
            exact ⟨v', w', e1, by simpa using e2, e3, e4⟩)
          have A3 : Hid (∀ X, Below wr.heap.size wr X → ∀ u, OwnInts X wr.heap.size u (l.take k ++ [n]) → ∀ ty, ∃ v' w', (Builtin.append_ #[22, 22] ty #[u, .slice bo (l.length - k) (cap - k)]).run Try.prog X = .ok v' w' ∧ OwnInts w' wr.heap.size v' ((l.take k ++ [n]) ++ l.drop k) ∧ Below wr.heap.size wr w') := hid (by
            intro X hX u hu ty
            obtain ⟨v', w', e1, e2, e3, e4⟩ := append_row i0 hi hz0 hz1 hz2 (w0 := wr) u _ hu (hR2.below hX (Nat.le_refl _)) hX hX.size (by simp; omega) (l.length - k) hlen2.symm ty
            exact ⟨v', w', e1, e2, e3⟩)
          have A2 : Hid (∀ X, Below wr.heap.size wr X → ∀ u, OwnInts X wr.heap.size u (l.take k) → ∀ b, X.heap[b]? = some (.cells #[.int .i64 n] 3 (0, 0)) → ∀ ty, ∃ v' w', (Builtin.append_ #[22, 22] ty #[u, .slice (some ⟨b, 0, none⟩) 1 1]).run Try.prog X = .ok v' w' ∧ OwnInts w' wr.heap.size v' (l.take k ++ [n]) ∧ Below wr.heap.size wr w') := hid (by
            intro X hX u hu b hbk ty
            obtain ⟨v', w', e1, _, e2, e3⟩ := append_one i0 hi hz0 hz1 hz2 (w0 := wr) u _ n hu b hbk hX hX.size (by simp; omega) ty
            exact ⟨v', w', e1, e2, e3⟩)
          clear hlt hRL he hpa hlen1 hlen2 hR1 hR2
          generalize l[k] = y at *
          have b0 : Below wr.heap.size wr wr.drew := ⟨rfl, rfl, rfl, Nat.le_refl _, fun _ _ => rfl⟩
          have bA := fun o => b0.alloc (Nat.le_refl _) o
          replace b0 := hid b0
          replace bA := hid bA
          go_wp2_with fail
          go_region_law (first
            | (refine step_append_any rfl (.const (.slice none 0 0)) (.tmp 27) 22 rfl _ _ rfl rfl (A1.out _ (by first | exact b0.out | exact bA.out _) _) ?_; rintro v1 w1 ⟨h1, b1, g1⟩; have hk1 : w1.heap.size = w1.heap.size := rfl; (first | (have hk1 := (g1.block wr.heap.size (by simp) (by simp)).trans (heap_newL wr (.cells #[.int .i64 n] 3))) | skip); have s1 := b1.size; replace h1 := hid h1; replace b1 := hid b1; replace hk1 := hid hk1; clear g1)
            | (refine step_append_any rfl (.tmp 28) (.tmp 30) 22 rfl _ _ rfl rfl (A2.out _ (by first | exact b1.out | exact b1.out.alloc s1 _) _ (by first | exact h1.out | exact h1.out.alloc _) _ (by first | exact hk1.out | exact heap_newL w1 _) _) ?_; rintro v2 w2 ⟨h2, b2⟩; replace h2 := hid h2; replace b2 := hid b2)
            | (refine step_append_any rfl (.tmp 31) (.tmp 34) 22 rfl _ _ rfl rfl (A3.out _ b2.out _ h2.out _) ?_; rintro v3 w3 ⟨h3, b3⟩; replace h3 := hid h3; replace b3 := hid b3))
          all_goals go_wp2
          all_goals go_ret
          all_goals
            have h4 : OwnInts w3 wr.heap.size v3 RL := by rw [hRL2.out]; simpa using h3.out
            obtain ⟨uo, uc, hu, hr⟩ := RowAt.own h4
            exact ⟨uo, uc, congrArg Ending.returned hu, hr, b3.out⟩
        · have hlt2 : l[k] < n := by omega
          have he2 : (l[k] == n) = false := by simpa using he
          have hlt3 : Hid (∀ x ∈ l.take (k + 1), x < n) := hid (by
            intro x hx
            rw [List.take_succ_eq_append_getElem hlk, List.mem_append] at hx
            rcases hx with hx | hx
            · exact hlt.out x hx
            · have : x = l[k] := by simpa using hx
              omega)
          generalize l[k] = y at *
          clear hlt hRL he hg hpa
          go_wp2
          go_roundg g
          case rel => exact ⟨k + 1, by omega, by go_num, hlt3, rfl⟩
          case measure => omega

end Go.Proofs.Ytdjhlgcbjdohiaa
