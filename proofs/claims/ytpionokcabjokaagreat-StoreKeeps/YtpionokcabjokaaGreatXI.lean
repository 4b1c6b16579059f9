/- Contract of the reference's SameInts. Contracts of the reference's Has, Without and With, of slices that are read. -/
import Derived.Test.YtpionokcabjokaaGreatXG
import Derived.Deep.QuietTactic
import Derived.BigQuiet
namespace Go.Proofs.YtpionokcabjokaaGreat.H
open Go.RowKit

set_option maxHeartbeats 1000000 in
theorem refSameInts_any (l m : List Int) (v u : Value) (w : World) (hv : IntsAt w v l) (hu : IntsAt w u m) :
    Calls Tryz.prog 26 #[v, u] w fun e w' => e = .returned (.bool (decide (l = m))) ∧ Below w.heap.size w w' := by
  obtain ⟨ao, cap, rfl, hlm, hc⟩ := hv
  obtain ⟨ao2, cap2, rfl, hlm2, hc2⟩ := hu
  unfold maxLen at hlm hlm2
  have HC := hid hc
  have HC2 := hid hc2
  clear hc hc2
  by_cases hne : l.length = m.length
  · have hneB : ((l.length : Int) != (m.length : Int)) = false := by simp; omega
    have HNE := hid hne
    clear hne
    go_enter Tryz.func26, Tryz.ntmps26
    go_wp2
    go_loopw [5] (fun i wr => ∃ k : Nat, k ≤ l.length ∧ i = .int .i64 k ∧ Hid (l.take k = m.take k) ∧ Below w.heap.size w wr) (fun i _ => l.length - (intOf i).toNat)
    case atStart => exact ⟨0, Nat.zero_le _, rfl, rfl, Below.refl _ _⟩
    case round =>
      obtain ⟨k, hk, rfl, hall, hbel⟩ := hrel
      by_cases hlt : k < l.length
      · have hlt2 : k < m.length := by rw [← HNE.out]; exact hlt
        obtain ⟨a, ha, hce⟩ := HC.out k hlt
        obtain ⟨a2, ha2, hce2⟩ := HC2.out k hlt2
        have hcell : wr.cell? (a.add k) = some (Value.int .i64 l[k]) := (hbel.cell (p := a.add k) (World.block_lt_of_cell? w _ hce)).trans hce
        have hcell2 : wr.cell? (a2.add k) = some (Value.int .i64 m[k]) := (hbel.cell (p := a2.add k) (World.block_lt_of_cell? w _ hce2)).trans hce2
        have hia := atInts (ao := ao) l.length cap k ha hlt
        have hia2 := atInts (ao := ao2) m.length cap2 k ha2 hlt2
        clear hce hce2 ha ha2
        have HT1 := hid (List.take_succ_eq_append_getElem hlt)
        have HT2 := hid (List.take_succ_eq_append_getElem hlt2)
        by_cases heq : l[k] = m[k]
        · have hb : (l[k] != m[k]) = false := by simp [heq]
          have HE := hid heq
          clear heq
          go_wp2_with fail
          go_quiet (fail)
          go_wp2
          go_roundw
          case rel => exact ⟨k + 1, by omega, by go_num, by show _ = _; rw [HT1.out, HT2.out, HE.out, hall.out], hbel.trans ((below_draws wr nq).mono hbel.size)⟩
          case measure => simp [intOf]; omega
        · have hb : (l[k] != m[k]) = true := by simpa using heq
          have HE := hid heq
          clear heq
          go_wp2_with fail
          go_quiet (fail)
          go_wp2
          go_ret
          refine ⟨ret_bool ?_, hbel.trans ((below_draws wr nq).mono hbel.size)⟩
          have : ¬ l = m := by
            intro e
            subst e
            exact HE.out rfl
          simp [this]
      · have hke : k = l.length := by omega
        go_wp2
        go_ret
        refine ⟨ret_bool ?_, hbel⟩
        have h1 := hall.out
        rw [List.take_of_length_le (by omega), List.take_of_length_le (by have := HNE.out; omega)] at h1
        simp [h1]
  · have hneB : ((l.length : Int) != (m.length : Int)) = true := by simp; omega
    have HNE := hid hne
    clear hne
    go_enter Tryz.func26, Tryz.ntmps26
    go_wp2
    go_ret
    refine ⟨ret_bool ?_, Below.refl _ _⟩
    have : ¬ l = m := fun e => HNE.out (by rw [e])
    simp [this]

end Go.Proofs.YtpionokcabjokaaGreat.H

namespace Go.Proofs.YtpionokcabjokaaGreat.H
open Go.RowKit

set_option maxRecDepth 10000 in
set_option maxHeartbeats 1000000 in
theorem rhas_any7 (l : List Int) (x : Int) (ao : Option Addr) (cap n : Nat) (hn : n = l.length) (w : World) (h : RowAt w ao cap l) (hl : l.length ≤ 1000) :
    Calls Tryz.prog 19 #[.slice ao n cap, .int .i64 x] w fun e w' => e = .returned (.bool (l.contains x)) ∧ w' = w := by
  subst hn
  have HC := hid h
  clear h
  have HK : Hid (∀ k, ¬ x ∈ l.take k → l.contains x = (l.drop k).contains x) := hid (by
    intro k hk
    conv => lhs; rw [← List.take_append_drop k l]
    simp only [List.contains_eq_mem, List.mem_append]
    simp [hk])
  generalize l.contains x = RL at *
  go_enter Tryz.func19, Tryz.ntmps19
  go_wp2
  go_loopg [5] l.length (fun g i wr => ∃ (k : Nat), k + g = l.length ∧ i = .int .i64 k ∧ Hid (¬ x ∈ l.take k) ∧ wr = w)
  case atStart => exact ⟨0, by omega, rfl, hid (by simp), rfl⟩
  case round =>
    obtain ⟨k, hk, rfl, hlt, rfl⟩ := hrel
    have hRL := HK.out k hlt.out
    clear HK
    cases gk with
    | zero =>
      have hke : k = l.length := by omega
      subst hke
      rw [List.drop_length] at hRL
      have hRL2 : RL = false := by simpa using hRL
      clear hRL hlt HC
      subst hRL2
      go_wp2
      go_ret
      exact ⟨rfl, rfl⟩
    | succ g =>
      have hlk : k < l.length := by omega
      obtain ⟨pa, hx, hcell, hpa⟩ := HC.out.get k hlk
      rw [show l.getD k 0 = l[k] by simp [List.getD, hlk]] at hcell
      rw [List.drop_eq_getElem_cons hlk] at hRL
      by_cases he : l[k] = x
      · have hRL2 : RL = true := by rw [hRL]; simp [he]
        rw [he] at hcell
        clear hRL hlt HC he hpa
        subst hRL2
        go_wp2
        go_ret
        exact ⟨rfl, rfl⟩
      · have he2 : (l[k] == x) = false := by simpa using he
        have hlt2 : Hid (¬ x ∈ l.take (k + 1)) := hid (by
          intro hm
          rw [List.take_succ_eq_append_getElem hlk, List.mem_append] at hm
          rcases hm with hm | hm
          · exact hlt.out hm
          · have : x = l[k] := by simpa using hm
            exact he this.symm)
        generalize l[k] = y at *
        clear hlt HC he hpa hRL
        go_wp2
        go_roundg g
        case rel => exact ⟨k + 1, by omega, by go_num, hlt2, rfl⟩
        case measure => omega

theorem dropL_one_take (l : List Int) (x : Int) (k : Nat) (h : k < l.length) : dropL (l.take (k + 1)) x 1 = if l.getD k 0 = x then dropL (l.take k) x 1 else dropL (l.take k) x 1 ++ [l.getD k 0] := by
  rw [dropL_take l x 1 k h, show l[k] = l.getD k 0 by simp [List.getD, h]]
  generalize l.getD k 0 = y
  by_cases e : y = x
  · rw [if_pos e, if_neg (by omega)]
  · rw [if_neg e, if_pos (by omega)]
/-- The reference's With, as a list. -/
def withL : List Int → Int → List Int
  | [], n => [n]
  | x :: l, n => if x = n then x :: l else if n < x then n :: x :: l else x :: withL l n
theorem withL_skip : ∀ (l : List Int) (k : Nat) (n : Int), (∀ x ∈ l.take k, x < n) → withL l n = l.take k ++ withL (l.drop k) n
  | _, 0, _, _ => by simp
  | [], k + 1, _, _ => by simp
  | x :: l, k + 1, n, h => by
    have hx : x < n := h x (by simp)
    simp only [List.take_succ_cons, List.drop_succ_cons, List.cons_append]
    rw [withL, if_neg (by omega), if_neg (by omega), withL_skip l k n (fun y hy => h y (by simp [hy]))]
theorem withL_length (l : List Int) (n : Int) : (withL l n).length ≤ l.length + 1 := by
  induction l with
  | nil => simp [withL]
  | cons x l ih =>
    unfold withL
    split
    · simp
    · split <;> simp <;> omega
theorem withL_merge (l : List Int) (n : Int) : withL l n = mergeL l [n] := by
  induction l with
  | nil => rw [mergeL_nil, withL]
  | cons x l ih =>
    unfold withL
    rcases Int.lt_trichotomy x n with h | h | h
    · rw [if_neg (by omega), if_neg (by omega), mergeL_lt h, ih]
    · subst h
      rw [if_pos rfl, mergeL_eq, mergeL_none]
    · rw [if_neg (by omega), if_pos h, mergeL_gt h, mergeL_none]
end Go.Proofs.YtpionokcabjokaaGreat.H
