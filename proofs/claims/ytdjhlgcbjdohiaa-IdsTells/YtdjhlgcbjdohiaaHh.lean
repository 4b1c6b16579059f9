/- Contracts of the reference's Has, Without and With, of slices that are read. -/
import Derived.Test.YtdjhlgcbjdohiaaHg
namespace Go.Proofs.Ytdjhlgcbjdohiaa
open Go.RowKit

set_option maxRecDepth 10000 in
set_option maxHeartbeats 1000000 in
theorem rhas_any7 (l : List Int) (x : Int) (ao : Option Addr) (cap n : Nat) (hn : n = l.length) (w : World) (h : RowAt w ao cap l) (hl : l.length ≤ 1000) :
    Calls Try.prog 13 #[.slice ao n cap, .int .i64 x] w fun e w' => e = .returned (.bool (l.contains x)) ∧ w' = w := by
  subst hn
  have HC := hid h
  clear h
  have HK : Hid (∀ k, ¬ x ∈ l.take k → l.contains x = (l.drop k).contains x) := hid (by
    intro k hk
    conv => lhs; rw [← List.take_append_drop k l]
    simp only [List.contains_eq_mem, List.mem_append]
    simp [hk])
  generalize l.contains x = RL at *
  go_enter Try.func13, Try.ntmps13
  go_wp2
  go_loopg [5] l.length (fun g i wr => ∃ (k : Nat), k + g = l.length ∧ i = .int .i64 k ∧ Hid (¬ x ∈ l.take k) ∧ wr = w)
  case atStart => exact ⟨0, by omega, rfl, hid (by simp), rfl⟩
  case round =>
    obtain ⟨k, hk, rfl, hlt, rfl⟩ := hrel
    have hRL := HK.out k hlt.out
    clear HK
    cases gk with
    | zero =>
      have hke : k = l.length := by omega
      subst hke
      rw [List.drop_length] at hRL
      have hRL2 : RL = false := by simpa using hRL
      clear hRL hlt HC
      subst hRL2
      go_wp2
      go_ret
      exact ⟨rfl, rfl⟩
    | succ g =>
      have hlk : k < l.length := by omega
      obtain ⟨pa, hx, hcell, hpa⟩ := HC.out.get k hlk
      rw [show l.getD k 0 = l[k] by simp [List.getD, hlk]] at hcell
      rw [List.drop_eq_getElem_cons hlk] at hRL
      by_cases he : l[k] = x
      · have hRL2 : RL = true := by rw [hRL]; simp [he]
        rw [he] at hcell
        clear hRL hlt HC he hpa
        subst hRL2
        go_wp2
        go_ret
        exact ⟨rfl, rfl⟩
      · have he2 : (l[k] == x) = false := by simpa using he
        have hlt2 : Hid (¬ x ∈ l.take (k + 1)) := hid (by
          intro hm
          rw [List.take_succ_eq_append_getElem hlk, List.mem_append] at hm
          rcases hm with hm | hm
          · exact hlt.out hm
          · have : x = l[k] := by simpa using hm
            exact he this.symm)
        generalize l[k] = y at *
        clear hlt HC he hpa hRL
        go_wp2
        go_roundg g
        case rel => exact ⟨k + 1, by omega, by go_num, hlt2, rfl⟩
        case measure => omega

theorem dropL_one_take (l : List Int) (x : Int) (k : Nat) (h : k < l.length) : dropL (l.take (k + 1)) x 1 = if l.getD k 0 = x then dropL (l.take k) x 1 else dropL (l.take k) x 1 ++ [l.getD k 0] := by
  rw [dropL_take l x 1 k h, show l[k] = l.getD k 0 by simp [List.getD, h]]
  generalize l.getD k 0 = y
  by_cases e : y = x
  · rw [if_pos e, if_neg (by omega)]
  · rw [if_neg e, if_pos (by omega)]
set_option maxRecDepth 10000 in
set_option maxHeartbeats 4000000 in
theorem rwithout_any7 (l : List Int) (x : Int) (ao : Option Addr) (cap n : Nat) (hn : n = l.length) (w : World) (h : RowAt w ao cap l) (hl : l.length ≤ 900) :
    Calls Try.prog 18 #[.slice ao n cap, .int .i64 x] w fun e w' => ∃ u, e = .returned u ∧ OwnInts w' w.heap.size u (dropL l x 1) ∧ Below w.heap.size w w' := by
  subst hn
  obtain ⟨i0, hi, hz0, hz1, hz2⟩ := info_parts Try.infoInt
  have HC := hid h
  have hD := hid (dropL_one_take l x)
  have hd0 : Hid (dropL (l.take 0) x 1 = []) := hid (by simp [dropL])
  have hdN : Hid (dropL (l.take l.length) x 1 = dropL l x 1) := hid (by rw [List.take_length])
  clear h
  generalize dropL l x 1 = D at *
  go_enter Try.func18, Try.ntmps18
  go_wp2
  go_loopg [5, 6] l.length (fun g vr j wr => ∃ (k : Nat) (R : List Int) (ro : Option Addr) (cr : Nat), k + g = l.length ∧ vr = .slice ro R.length cr ∧ j = .int .i64 (k : Int) ∧ R.length ≤ k ∧ Hid (OwnInts wr w.heap.size (.slice ro R.length cr) R) ∧ Hid (dropL (l.take k) x 1 = R) ∧ Hid (Below w.heap.size w wr))
  case atStart => exact ⟨0, [], none, 0, by omega, rfl, rfl, by simp, hid (OwnInts.nil _ _), hd0, hid (Below.refl _ _)⟩
  case round =>
    obtain ⟨k, R, ro, cr, hk, rfl, rfl, hlen, hR, hM, hbel⟩ := hrel
    cases gk with
    | zero =>
      have hke : k = l.length := by omega
      subst hke
      have hM2 := hM.out
      rw [hdN.out] at hM2
      replace hM2 := hid hM2
      clear hM HC
      go_wp2
      go_ret
      refine ⟨_, rfl, ?_, hbel.out⟩
      rw [hM2.out]
      exact hR.out
    | succ g =>
      have hkl : k < l.length := by omega
      obtain ⟨pa, hx, hc, hpa⟩ := HC.out.get k hkl
      have hcell : wr.cell? pa = some (Value.int .i64 (l.getD k 0)) := (hbel.out.cell (p := pa) hpa).trans hc
      have hM2 := hD.out k hkl
      rw [hM.out] at hM2
      generalize l.getD k 0 = y at *
      clear hc HC hD hd0 hdN hpa hM
      have hsz := hbel.out.size
      by_cases he : y = x
      · rw [if_pos he] at hM2
        replace hM2 := hid hM2
        have hd : (y != x) = false := by simpa using he
        clear he
        go_wp2
        go_roundg g
        case rel => exact ⟨k + 1, R, ro, cr, by omega, rfl, by go_num, by omega, hR, hM2, hbel⟩
        case measure => omega
      · rw [if_neg he] at hM2
        replace hM2 := hid hM2
        have hd : (y != x) = true := by simpa using he
        clear he
        have bA := hid (hbel.out.alloc hsz (.cells #[.int .i64 y] 3))
        have A1 := hid (append_one i0 hi hz0 hz1 hz2 (w0 := w) _ R y (hR.out.alloc (.cells #[.int .i64 y] 3)) _ (heap_newL _ _) bA.out (by simp; omega) (by omega))
        go_wp2_with (first
          | (at_builtin; refine wpList_append_any rfl (.tmp 19) (.tmp 24) 22 rfl _ _ rfl rfl (A1.out _) ?_; rintro v1 w1 ⟨⟨ra, rc, rfl⟩, h1, b1⟩; replace h1 := hid h1; replace b1 := hid b1)
          | fail)
        go_roundg g
        case rel => exact ⟨k + 1, R ++ [y], ra, rc, by omega, by simp, by go_num, by simp; omega, by simpa using h1, hM2, b1⟩
        case measure => omega

/-- The reference's With, as a list. -/
def withL : List Int → Int → List Int
  | [], n => [n]
  | x :: l, n => if x = n then x :: l else if n < x then n :: x :: l else x :: withL l n
theorem withL_skip : ∀ (l : List Int) (k : Nat) (n : Int), (∀ x ∈ l.take k, x < n) → withL l n = l.take k ++ withL (l.drop k) n
  | _, 0, _, _ => by simp
  | [], k + 1, _, _ => by simp
  | x :: l, k + 1, n, h => by
    have hx : x < n := h x (by simp)
    simp only [List.take_succ_cons, List.drop_succ_cons, List.cons_append]
    rw [withL, if_neg (by omega), if_neg (by omega), withL_skip l k n (fun y hy => h y (by simp [hy]))]
theorem withL_length (l : List Int) (n : Int) : (withL l n).length ≤ l.length + 1 := by
  induction l with
  | nil => simp [withL]
  | cons x l ih =>
    unfold withL
    split
    · simp
    · split <;> simp <;> omega
theorem withL_merge (l : List Int) (n : Int) : withL l n = mergeL l [n] := by
  induction l with
  | nil => rw [mergeL_nil, withL]
  | cons x l ih =>
    unfold withL
    rcases Int.lt_trichotomy x n with h | h | h
    · rw [if_neg (by omega), if_neg (by omega), mergeL_lt h, ih]
    · subst h
      rw [if_pos rfl, mergeL_eq, mergeL_none]
    · rw [if_neg (by omega), if_pos h, mergeL_gt h, mergeL_none]
end Go.Proofs.Ytdjhlgcbjdohiaa
