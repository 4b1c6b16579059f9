/- The library's Clone, Sort, Compact and Sorted over rows of numbers, in the words of these texts. Contracts of package store's small calls: made, held, Last, Avail, Freed, Dirty, among. -/
import Derived.Test.YtpionokcabjokaaGreatZE1
import Derived.Test.YtpionokcabjokaaGreatZSv
import Derived.Test.YtpionokcabjokaaGreatXSl
import Derived.Test.YtpionokcabjokaaGreatXCh
import Derived.Deep.Cut
namespace Go.Proofs.YtpionokcabjokaaGreat
open Go.RowKit Go.Sort
open H (Up up_ext mergeL dropL Fit RunI RunIs OwnInts RowAt)

theorem compact_le (zs : List Int) : (Lib.compact zs).length ≤ zs.length := by
  unfold Lib.compact Lib.compactUpTo
  rw [List.length_map]
  have := List.length_filter_le (Lib.keeps zs.toArray) (List.range zs.length)
  rwa [List.length_range] at this
/-- A list that is sorted, each number once. -/
theorem compact_rises (zs : List Int) (hs : zs.Pairwise (· ≤ ·)) : Up (Lib.compact zs) ∧ ∀ x, x ∈ Lib.compact zs ↔ x ∈ zs := by
  have mono : ∀ i j, i ≤ j → j < zs.length → zs.toArray[i]! ≤ zs.toArray[j]! := by
    intro i j hij hj
    rw [getElem!_pos _ i (by simp; omega), getElem!_pos _ j (by simpa using hj)]
    simp only [List.getElem_toArray]
    rcases Nat.lt_or_ge i j with h | h
    · exact List.pairwise_iff_getElem.1 hs i j _ _ h
    · have : i = j := by omega
      subst this
      exact Int.le_refl _
  have key : ∀ m, m ≤ zs.length → Up (Lib.compactUpTo zs.toArray m) ∧ (∀ x ∈ Lib.compactUpTo zs.toArray m, ∃ i, i < m ∧ x = zs.toArray[i]!) ∧ ∀ i, i < m → zs.toArray[i]! ∈ Lib.compactUpTo zs.toArray m := by
    intro m
    induction m with
    | zero => exact fun _ => ⟨by simp [Lib.compactUpTo, Up], by simp [Lib.compactUpTo], by omega⟩
    | succ m ih =>
      intro hm
      obtain ⟨h1, h2, h3⟩ := ih (by omega)
      rw [Lib.compactUpTo_succ]
      by_cases hk : Lib.keeps zs.toArray m = true
      · rw [if_pos hk]
        refine ⟨List.pairwise_append.2 ⟨h1, by simp, fun a ha b hb => ?_⟩, fun x hx => ?_, fun i hi => ?_⟩
        · obtain ⟨i, hi, rfl⟩ := h2 a ha
          simp only [List.mem_singleton] at hb
          subst hb
          have hne : zs.toArray[m]! ≠ zs.toArray[m - 1]! := by
            intro e
            rw [Lib.keeps_neg (by omega) e] at hk
            cases hk
          have e1 := mono i (m - 1) (by omega) (by omega)
          have e2 := mono (m - 1) m (by omega) (by omega)
          omega
        · rcases List.mem_append.1 hx with hx | hx
          · obtain ⟨i, hi, rfl⟩ := h2 x hx
            exact ⟨i, by omega, rfl⟩
          · simp only [List.mem_singleton] at hx
            exact ⟨m, by omega, hx⟩
        · rcases Nat.lt_or_ge i m with h | h
          · exact List.mem_append_left _ (h3 i h)
          · have : i = m := by omega
            subst this
            exact List.mem_append_right _ (by simp)
      · rw [if_neg hk, List.append_nil]
        refine ⟨h1, fun x hx => ?_, fun i hi => ?_⟩
        · obtain ⟨i, hi, rfl⟩ := h2 x hx
          exact ⟨i, by omega, rfl⟩
        · rcases Nat.lt_or_ge i m with h | h
          · exact h3 i h
          · have : i = m := by omega
            subst this
            rcases Nat.eq_zero_or_pos i with h0 | h0
            · subst h0
              exact absurd (Lib.keeps_lt_one _ 0 (by omega)) hk
            · have he : zs.toArray[i]! = zs.toArray[i - 1]! := by
                apply Classical.byContradiction
                intro hne
                exact hk (Lib.keeps_pos hne)
              rw [he]
              exact h3 (i - 1) (by omega)
  obtain ⟨h1, h2, h3⟩ := key zs.length (Nat.le_refl _)
  refine ⟨h1, fun x => ⟨fun hx => ?_, fun hx => ?_⟩⟩
  · obtain ⟨i, hi, rfl⟩ := h2 x hx
    rw [getElem!_pos _ i (by simpa using hi)]
    simp
  · obtain ⟨i, hi, rfl⟩ := List.getElem_of_mem hx
    have := h3 i hi
    rwa [getElem!_pos _ i (by simpa using hi), List.getElem_toArray] at this

/-- Of a list the numbers from 2 on below e, rising. -/
def sortL (l : List Int) : List Int := Lib.compact (l.mergeSort fun x y => decide (x ≤ y))
def siftL (l : List Int) (e : Int) : List Int := (sortL l).filter fun x => decide (2 ≤ x ∧ x < e)
theorem sortL_is (l : List Int) : Up (sortL l) ∧ ∀ x, x ∈ sortL l ↔ x ∈ l := by
  have h := compact_rises (l.mergeSort fun x y => decide (x ≤ y)) (by
    have := List.pairwise_mergeSort (le := fun x y : Int => decide (x ≤ y)) (fun a b c h1 h2 => by simp only [decide_eq_true_eq] at *; omega) (fun a b => by simp only [Bool.or_eq_true, decide_eq_true_eq]; omega) l
    exact this.imp (fun h => by simpa using h))
  refine ⟨h.1, fun x => (h.2 x).trans ?_⟩
  exact (List.mergeSort_perm l _).mem_iff
theorem siftL_up (l : List Int) (e : Int) : Up (siftL l e) := List.Pairwise.filter _ (sortL_is l).1
theorem siftL_mem (l : List Int) (e x : Int) : x ∈ siftL l e ↔ x ∈ l ∧ 2 ≤ x ∧ x < e := by
  simp [siftL, (sortL_is l).2]
theorem sortL_length (l : List Int) : (sortL l).length ≤ l.length := by
  have := compact_le (l.mergeSort fun x y => decide (x ≤ y))
  simpa [sortL] using this
theorem siftL_of_up {l : List Int} {e : Int} (h : Up l) (hin : ∀ x ∈ l, 2 ≤ x ∧ x < e) : siftL l e = l :=
  up_ext _ _ (siftL_up l e) h fun x => by
    rw [siftL_mem]
    exact ⟨fun h => h.1, fun hx => ⟨hx, hin x hx⟩⟩

theorem clone_row (l : List Int) (ao : Option Addr) (cap : Nat) (w : World) (h : RowAt w ao cap l) (hl : l.length ≤ 1000) :
    Calls Tryz.prog 38 #[.slice ao l.length cap] w fun e w' => ∃ u, e = .returned u ∧ OwnInts w' w.heap.size u l ∧ Below w.heap.size w w' := by
  cases l with
  | nil =>
    cases ao with
    | none =>
      refine (Tryz.slices_Clone_int_nil 0 cap w).mono ?_
      rintro e w' ⟨rfl, rfl⟩
      exact ⟨_, rfl, OwnInts.nil _ _, Below.refl _ _⟩
    | some a =>
      refine (Tryz.slices_Clone_int_zero a cap w).mono ?_
      rintro e w' ⟨u, rfl, h1, _, h2⟩
      exact ⟨u, rfl, h1, h2⟩
  | cons x r =>
    obtain ⟨b, o, rfl, _⟩ := h.cells 0 (by simp)
    have := Tryz.slices_Clone_int b o (x :: r).length cap (x :: r) w (Nat.le_refl _) (by omega) (fun j hj => by
      obtain ⟨b', o', e1, e2⟩ := h.cells j hj
      simp only [Option.some.injEq, Addr.mk.injEq, and_true] at e1
      obtain ⟨rfl, rfl⟩ := e1
      exact e2)
    rw [List.take_length] at this
    refine this.mono ?_
    rintro e w' ⟨u, rfl, h1, _, h2⟩
    exact ⟨u, rfl, h1, h2⟩
theorem sort_row (w : World) (B : Nat) (v : Value) (l : List Int) (h : OwnInts w B v l) (hl : l.length ≤ 1000) :
    Calls Tryz.prog 56 #[v] w fun e w' => e = .returned (.tuple #[]) ∧ OwnInts w' B v (l.mergeSort fun x y => decide (x ≤ y)) ∧ w.grownBy w' v.ownBlock := by
  rcases h.2 with ⟨rfl, h0⟩ | ⟨g, cap, cur, rfl, h2, h3, h4, h5, h6, h7⟩
  · have : l = [] := List.length_eq_zero_iff.1 h0
    subst this
    refine (Any.slices_Sort_int_none Tryz.lays189 none 0 w).mono ?_
    rintro e w' ⟨rfl, rfl⟩
    exact ⟨rfl, by simpa using h, World.grownBy.refl _ _⟩
  · have hH : Holds (Value.int .i64) w g 0 l.toArray := holds_of_block_i h3 (by simpa [H.intCells] using h7)
    refine (Any.slices_Sort_int Tryz.lays189 g 0 cap l w hH (H.lt_of_heap h3) (by omega)).mono ?_
    rintro e w' ⟨rfl, n, os, rfl⟩
    refine ⟨rfl, ?_, grownBy_sorted_i _⟩
    have := ownsRow_sorted_i (w := w) (n := n) (os := os) (ss := l) (ts := l.mergeSort fun x y => decide (x ≤ y)) (by simp) h2 h3 h4 h5 h6
    unfold OwnInts
    rw [show (l.mergeSort fun x y => decide (x ≤ y)).length = l.length by simp]
    exact this
theorem compact_row (w : World) (B : Nat) (v : Value) (l : List Int) (h : OwnInts w B v l) (hl : l.length ≤ 1000) :
    Calls Tryz.prog 57 #[v] w fun e w' => ∃ ao cap, e = .returned (.slice ao (Lib.compact l).length cap) ∧ RowAt w' ao cap (Lib.compact l) ∧ w.grownBy w' v.ownBlock := by
  rcases h.2 with ⟨rfl, h0⟩ | ⟨g, cap, cur, rfl, h2, h3, h4, h5, h6, h7⟩
  · have : l = [] := List.length_eq_zero_iff.1 h0
    subst this
    refine (Any.slices_Compact_int_empty Tryz.laysNm220 none 0 w).mono ?_
    rintro e w' ⟨rfl, rfl⟩
    exact ⟨none, 0, rfl, RowAt.nil _, World.grownBy.refl _ _⟩
  · have hH : Holds (Value.int .i64) w g 0 l.toArray := holds_of_block_i h3 (by simpa [H.intCells] using h7)
    have hle := compact_le l
    refine (Any.slices_Compact_int Tryz.laysNm220 g 0 cap l w hH (by omega) h4).mono ?_
    rintro e w' ⟨rfl, q, rfl⟩
    refine ⟨_, _, rfl, ⟨by omega, (fun e => by cases e), (fun a e _ => ⟨g, 0, by simpa using e.symm⟩), fun i hi => ⟨g, 0, rfl, ?_⟩⟩, ?_⟩
    · have hp := holds_putRow (Value.int .i64) (Sort.ahead w q) g 0 l.toArray (Lib.compact l ++ List.replicate (l.length - (Lib.compact l).length) 0).toArray hH (by simp; omega)
      have := (hp i (by simp; omega)).1
      rw [this]
      congr 2
      rw [getElem!_pos _ i (by simp; omega)]
      simp [List.getElem_append_left hi, List.getD, hi]
    · have := grownBy_sorted_i (w := w) (g := g) (n := q) (os := #[]) (Lib.compact l ++ List.replicate (l.length - (Lib.compact l).length) 0).toArray
      rw [grow_empty] at this
      exact this
end Go.Proofs.YtpionokcabjokaaGreat

namespace Go.Proofs.YtpionokcabjokaaGreat
open Go.RowKit Go.Sort Go.Conc
open H (Up up_ext mergeL dropL Fit RunI RunIs OwnInts RowAt hid)

section
variable {w : World} {sb mb fb : Nat} {s : StD} {vf va : Value}
set_option maxRecDepth 10000 in
set_option maxHeartbeats 1000000 in
theorem made_any (h : StoreAt w sb mb fb s vf va) (x : Int) (hx : InI x) :
    Calls Tryz.prog 41 #[.pointer (some ⟨sb, 0, none⟩), .int .i64 x] w fun e w' => e = .returned (.bool (s.dirty.contains x)) ∧ Below w.heap.size w w' := by
  have hl := h.dirty.look hx
  have hc : ∀ j, w.cell? ⟨sb, j, none⟩ = (#[.pointer (some ⟨fb, 0, none⟩), .int .i64 (s.last : Int), .int .i64 (s.most : Int), .map (some mb), vf, va] : Array Value)[j]? := h.cells
  clear h hx
  generalize (if s.dirty.contains x then s.sh x else ⟨#[]⟩) = sv at *
  generalize s.dirty.contains x = c at *
  have hb := hid ((Below.refl w.heap.size w).alloc (Nat.le_refl _) (.cells #[.string sv] 90))
  go_enter Tryz.func41, Tryz.ntmps41
  go_wp2
  go_ret
  exact ⟨rfl, hb.out⟩

theorem maxInt (ats : Array TypeId) (ty : TypeId) (a b : Int) (w : World) : (Builtin.max_ ats ty #[.int .i64 a, .int .i64 b]).run Tryz.prog w = .ok (.int .i64 (max a b)) w := by
  by_cases h : a ≤ b
  · simp only [Int.max_eq_right h]
    by_cases h2 : a = b
    · subst h2; simp [Builtin.max_, Builtin.max2]
    · simp [Builtin.max_, Builtin.max2]; omega
  · simp only [Int.max_eq_left (Int.le_of_not_le h)]
    simp [Builtin.max_, Builtin.max2]; omega
theorem minInt (ats : Array TypeId) (ty : TypeId) (a b : Int) (w : World) : (Builtin.min_ ats ty #[.int .i64 a, .int .i64 b]).run Tryz.prog w = .ok (.int .i64 (min a b)) w := by
  by_cases h : a ≤ b
  · simp only [Int.min_eq_left h]
    simp [Builtin.min_, Builtin.min2]; omega
  · simp only [Int.min_eq_right (Int.le_of_not_le h)]
    simp [Builtin.min_, Builtin.min2]; omega
theorem held_any (x : Int) (w : World) :
    Calls Tryz.prog 36 #[.int .i64 x] w fun e w' => e = .returned (.int .i64 (min (max x 2) 400)) ∧ w' = w := by
  have h1 := fun ats ty => maxInt ats ty x 2
  have h2 := fun ats ty => minInt ats ty (max x 2) 400
  generalize min (max x 2) 400 = b at *
  generalize max x 2 = a at *
  go_enter Tryz.func36, Tryz.ntmps36
  go_wp2
  go_ret
  exact ⟨rfl, rfl⟩
theorem last_any (h : StoreAt w sb mb fb s vf va) :
    Calls Tryz.prog 25 #[.pointer (some ⟨sb, 0, none⟩)] w fun e w' => e = .returned (.int .i64 (s.last : Int)) ∧ w' = w := by
  have hc : ∀ j, w.cell? ⟨sb, j, none⟩ = (#[.pointer (some ⟨fb, 0, none⟩), .int .i64 (s.last : Int), .int .i64 (s.most : Int), .map (some mb), vf, va] : Array Value)[j]? := h.cells
  clear h
  go_enter Tryz.func25, Tryz.ntmps25
  go_wp2
  go_ret
  exact ⟨rfl, rfl⟩
set_option maxHeartbeats 1000000 in
theorem avail_any (h : StoreAt w sb mb fb s vf va) :
    Calls Tryz.prog 11 #[.pointer (some ⟨sb, 0, none⟩)] w fun e w' => ∃ u, e = .returned u ∧ OwnInts w' w.heap.size u s.avail ∧ Below w.heap.size w w' := by
  obtain ⟨ao, cap, rfl, hr⟩ := h.availRow
  have hc : ∀ j, w.cell? ⟨sb, j, none⟩ = (#[.pointer (some ⟨fb, 0, none⟩), .int .i64 (s.last : Int), .int .i64 (s.most : Int), .map (some mb), vf, .slice ao s.avail.length cap] : Array Value)[j]? := h.cells
  have C1 := hid (clone_row s.avail ao cap w hr (by have := h.ok.lenA; omega))
  clear h hr
  generalize s.avail.length = n at *
  go_enter Tryz.func11, Tryz.ntmps11
  go_wp2_with (go_at_call 38; refine C1.out.mono ?_; rintro e w1 ⟨u, rfl, h1, hb⟩; replace h1 := hid h1; replace hb := hid hb)
  go_ret
  exact ⟨_, rfl, h1.out, hb.out⟩
set_option maxHeartbeats 1000000 in
theorem freed_any (h : StoreAt w sb mb fb s vf va) :
    Calls Tryz.prog 18 #[.pointer (some ⟨sb, 0, none⟩)] w fun e w' => ∃ u, e = .returned u ∧ OwnInts w' w.heap.size u s.freed ∧ Below w.heap.size w w' := by
  obtain ⟨ao, cap, rfl, hr⟩ := h.freedRow
  have hc : ∀ j, w.cell? ⟨sb, j, none⟩ = (#[.pointer (some ⟨fb, 0, none⟩), .int .i64 (s.last : Int), .int .i64 (s.most : Int), .map (some mb), .slice ao s.freed.length cap, va] : Array Value)[j]? := h.cells
  have C1 := hid (clone_row s.freed ao cap w hr (by have := h.ok.lenF; omega))
  clear h hr
  generalize s.freed.length = n at *
  go_enter Tryz.func18, Tryz.ntmps18
  go_wp2_with (go_at_call 38; refine C1.out.mono ?_; rintro e w1 ⟨u, rfl, h1, hb⟩; replace h1 := hid h1; replace hb := hid hb)
  go_ret
  exact ⟨_, rfl, h1.out, hb.out⟩

theorem sortsIn (m : Nat) : AnyZI.SortsIn Tryz.prog Tryz.sorted45_ren Fence.wide m :=
  ⟨fun blk off cap ss W hH hblk hsz => callsIn_wide.2 (Any.slices_Sort_int Tryz.lays189 blk off cap ss W hH hblk hsz),
   fun p cap W => callsIn_wide.2 (Any.slices_Sort_int_none Tryz.lays189 p cap W)⟩
set_option maxHeartbeats 1000000 in
/-- The keys of a map, sorted. -/
theorem sortedKeys (h : DirtyAt w mb s.dirty s.sh) (hu : Up s.dirty) (hl : s.dirty.length ≤ 1000) :
    Calls Tryz.prog 45 #[.func (.func 70) #[] #[.pointer (some ⟨w.heap.size, 0, none⟩)]] (w.alloc (.cells #[.map (some mb)] 83)) fun e w' => ∃ u, e = .returned u ∧ OwnInts w' w.heap.size u s.dirty ∧ Below w.heap.size w w' := by
  obtain ⟨D, hown, hsz, hperm⟩ := h.sorted hu
  have hbl := hown.lt
  have hseq : SeqGives Fence.wide 2 Tryz.prog 70 #[.pointer (some ⟨w.heap.size, 0, none⟩)] encZ (fun ss => ss.Perm (intKeys D)) (Maps.size D) (w.alloc (.cells #[.map (some mb)] 83)) :=
    AnyZI.keys_gives (ρ := Tryz.keys46_ren) { Tryz.keys46 with } Fence.wide _ trivial rfl (by omega) w.heap.size mb s.dirty.length D _ (by simp) (by simp) (hown.alloc _)
  have cS := AnyZI.sorted_in Tryz.sorted45 Fence.wide 5 trivial trivial trivial trivial rfl (by omega) (sortsIn _) (enters_of Tryz.func56 (by kernel_rfl) rfl) 70 #[.pointer (some ⟨w.heap.size, 0, none⟩)] trivial (enters_of Tryz.func70 (by kernel_rfl) rfl) _ _ (by rw [hsz]; unfold maxLen; omega) (by rw [hsz]; omega) _ hseq
  have cS2 : Calls Tryz.prog 45 _ _ _ := callsIn_wide.1 cS
  refine cS2.mono ?_
  rintro e w' ⟨v, ss, rfl, hS, hrow, _, hb⟩
  obtain ⟨e1, e2⟩ := hperm ss hS
  rw [e1, e2] at hrow
  refine ⟨v, rfl, OwnInts.mono (show OwnInts w' _ v s.dirty from hrow) (by simp), ?_⟩
  exact ((Below.refl _ w).alloc (Nat.le_refl _) _).trans (hb.mono (by simp))
set_option maxHeartbeats 1000000 in
theorem dirty_any (h : StoreAt w sb mb fb s vf va) :
    Calls Tryz.prog 17 #[.pointer (some ⟨sb, 0, none⟩)] w fun e w' => ∃ u, e = .returned u ∧ OwnInts w' w.heap.size u s.dirty ∧ Below w.heap.size w w' := by
  have hc : ∀ j, w.cell? ⟨sb, j, none⟩ = (#[.pointer (some ⟨fb, 0, none⟩), .int .i64 (s.last : Int), .int .i64 (s.most : Int), .map (some mb), vf, va] : Array Value)[j]? := h.cells
  have CK : Hid (Calls Tryz.prog 46 #[.map (some mb)] w fun e w' => e = .returned (.func (.func 70) #[] #[.pointer (some ⟨w.heap.size, 0, none⟩)]) ∧ w' = w.alloc (.cells #[.map (some mb)] 83)) :=
    hid (callsIn_wide.1 (AnyZI.keys_in Tryz.keys46 Fence.wide 5 trivial rfl (some mb) w))
  have CS := hid (sortedKeys h.dirty h.ok.upD (by have := h.ok.few; omega))
  clear h
  generalize s.dirty = dd at *
  go_enter Tryz.func17, Tryz.ntmps17
  go_wp2_with (first
    | (go_at_call 46; refine CK.out.mono ?_; rintro e w1 ⟨rfl, rfl⟩)
    | (go_at_call 45; refine CS.out.mono ?_; rintro e w1 ⟨u, rfl, h1, hb⟩; replace h1 := hid h1; replace hb := hid hb))
  go_ret
  exact ⟨_, rfl, h1.out, hb.out⟩

theorem Tryz.bytesInt : ∃ i, Tryz.prog.info? 3 = some i ∧ i.bytes = 8 := by
  have h : (Tryz.prog.info? 3).map (·.bytes) = some 8 := by kernel_rfl
  obtain ⟨i, hi, hb⟩ := Option.map_eq_some_iff.1 h
  exact ⟨i, hi, hb⟩
theorem mkChan1 (w : World) : (Instr.makeChan 141 (.int .i64 1)).run Tryz.prog w = .ok (.chan (some w.heap.size)) (w.alloc (.chan 1 #[] false 0 0 false)) := by
  obtain ⟨i, hi, hb⟩ := Tryz.bytesInt
  exact run_makeChan (P := Tryz.prog) (w := w) Tryz.underlying141 hi .i64 1 (by omega) (by rw [hb]; omega)
/-- The channel in block c: one number lies in it, or none. -/
def ReadyAt (w : World) (c : Nat) (x : Int) (ok : Bool) : Prop := ∃ s r, w.heap[c]? = some (.chan 1 (if ok then #[.int .i64 x] else #[]) false s r false)
set_option maxRecDepth 10000 in
set_option maxHeartbeats 1000000 in
theorem among_any (h : StoreAt w sb mb fb s vf va) (n : Nat) (hn : n ≤ 1000) :
    Calls Tryz.prog 61 #[.pointer (some ⟨sb, 0, none⟩), .int .i64 (n : Int)] w fun e w' => ∃ c x ok, e = .returned (.chan (some c)) ∧ w.heap.size ≤ c ∧ ReadyAt w' c x ok ∧ RunIs s.avail n x ok ∧ Below w.heap.size w w' := by
  have h0 := h.alloc (.chan 1 #[] false 0 0 false)
  obtain ⟨ao, cap, rfl, hr⟩ := h0.availRow
  have hc : ∀ j, (w.alloc (.chan 1 #[] false 0 0 false)).cell? ⟨sb, j, none⟩ = (#[.pointer (some ⟨fb, 0, none⟩), .int .i64 (s.last : Int), .int .i64 (s.most : Int), .map (some mb), vf, .slice ao s.avail.length cap] : Array Value)[j]? := h0.cells
  have C1 := hid (H.run_any7 s.avail (n : Int) ao cap s.avail.length rfl _ hr (by have := h.ok.lenA; omega) h.ok.fitA h.ok.upA (by omega))
  have hmk := mkChan1 w
  have hch := hid (H.heap_newL w (.chan 1 #[] false 0 0 false))
  have hb0 := hid ((Below.refl w.heap.size w).alloc (Nat.le_refl _) (.chan 1 #[] false 0 0 false))
  have hsz : w.heap.size < (w.alloc (.chan 1 #[] false 0 0 false)).heap.size := by simp
  clear h hr h0
  rw [Int.toNat_natCast] at C1
  generalize s.avail = A at *
  generalize A.length = len at *
  generalize hW : w.alloc (.chan 1 #[] false 0 0 false) = W at *
  replace hW := hid hW
  generalize hcc : w.heap.size = c at *
  replace hcc := hid hcc
  replace hsz := hid hsz
  clear hn
  go_enter Tryz.func61, Tryz.ntmps61
  go_wp2_with fail
  refine C1.out.mono ?_
  rintro e w1 ⟨x, ok, rfl, hrun, hb⟩
  replace hrun := hid hrun
  replace hb := hid hb
  have hch1 := hid ((hb.out.block c hsz.out).trans hch.out)
  have hb1 := hid (hb0.out.trans (hb.out.mono (Nat.le_of_lt hsz.out)))
  cases ok
  · go_wp2
    go_ret
    exact ⟨c, x, false, rfl, Nat.le_refl _, ⟨0, 0, hch1.out⟩, hrun.out, hb1.out⟩
  · go_upto_region 4 with fail
    refine wp_send (c := c) (v0 := .chan (some c)) (v1 := .int .i64 x) (z := .tuple #[]) rfl rfl ?_ ?_ ?_ hch1.out (by simp) ?_
    · simp [go_sem, execOp, Act.eval]
    · simp [go_sem, execOp, Act.eval, Act.put]
    · simp [go_sem, execOp, Act.eval, Act.put, scase]
    have HN := hid (heap_setChan w1 c 1 #[.int .i64 x] false 1 0 false (H.lt_of_heap hch1.out))
    have HB := hid (hb1.out.grown (grown_setChan w1 c 1 #[.int .i64 x] false 1 0 false) (by have := H.lt_of_heap hch1.out; omega) (fun r hr => by cases hr; exact Nat.le_refl _))
    simp only [Act.put]
    go_simp
    generalize w1.setChan c 1 #[.int .i64 x] false 1 0 false = X at *
    go_wp2
    go_ret
    exact ⟨c, x, true, rfl, Nat.le_refl _, ⟨1, 0, HN.out⟩, hrun.out, HB.out⟩
end
end Go.Proofs.YtpionokcabjokaaGreat
