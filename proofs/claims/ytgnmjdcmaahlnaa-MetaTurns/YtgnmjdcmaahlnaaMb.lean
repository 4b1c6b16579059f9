/- Contracts of package page's listBytes: how many, and the bytes of each. -/
import Derived.Test.YtgnmjdcmaahlnaaMa
namespace Go.Proofs.Ytgnmjdcmaahlnaa
open Go.RowKit Go.Sort

/-- The bytes of each, one behind the other. -/
def joinB {α : Type} (f : α → List UInt8) : List α → List UInt8
  | [] => []
  | x :: r => f x ++ joinB f r
theorem joinB_append {α : Type} (f : α → List UInt8) : ∀ a b : List α, joinB f (a ++ b) = joinB f a ++ joinB f b
  | [], b => rfl
  | x :: a, b => by simp [joinB, joinB_append f a b]
theorem joinB_take {α : Type} (f : α → List UInt8) (l : List α) (k : Nat) (h : k < l.length) : joinB f (l.take (k + 1)) = joinB f (l.take k) ++ f l[k] := by
  rw [List.take_succ_eq_append_getElem h, joinB_append]
  simp [joinB]
theorem joinB_le {α : Type} (f : α → List UInt8) (M : Nat) : ∀ l : List α, (∀ x ∈ l, (f x).length ≤ M) → (joinB f l).length ≤ l.length * M
  | [], _ => by simp [joinB]
  | x :: r, h => by
    have h1 := h x (by simp)
    have h2 := joinB_le f M r (fun y hy => h y (by simp [hy]))
    simp only [joinB, List.length_append, List.length_cons, Nat.add_mul]
    omega
def listB {α : Type} (f : α → List UInt8) (l : List α) : List UInt8 := numB l.length ++ joinB f l
theorem listB_le {α : Type} (f : α → List UInt8) (M : Nat) (l : List α) (h : ∀ x ∈ l, (f x).length ≤ M) : (listB f l).length ≤ 8 + l.length * M := by
  have := joinB_le f M l h
  simp only [listB, List.length_append, numB_length]
  omega

set_option maxHeartbeats 1000000 in
theorem listTexts_any (l : List ByteArray) (v : Value) (w : World) (hv : StrsAt w v l) (hs : ∀ x ∈ l, x.size ≤ 65535) (hl : l.length ≤ 1000) :
    Calls Try.prog 30 #[v, .func (.func 29) #[] #[]] w fun e w' => e = .returned (.string (bs (listB textB l))) ∧ Below w.heap.size w w' := by
  obtain ⟨ao, cap, rfl, hlm, hc⟩ := hv
  unfold maxLen at hlm
  have HC := hid hc
  have HS := hid hs
  have HM : Hid (∀ k, k ≤ l.length → (joinB textB (l.take k)).length ≤ 65537 * k) := by
    intro k hk
    have := joinB_le textB 65537 (l.take k) (fun x hx => by have := hs x (List.mem_of_mem_take hx); rw [textB_length]; omega)
    rw [List.length_take, Nat.min_eq_left hk] at this
    omega
  clear hc hs
  have hI0 := isB_fresh w
  have hb0 : Below w.heap.size w (w.alloc (.cells #[.pointer none, .slice none 0 0] 111)) := (Below.refl _ _).alloc (Nat.le_refl _) _
  have HI0 := hid hI0
  clear hI0
  go_enter Try.func30, Try.ntmps30
  go_wp2_with fail
  refine (pnum_any _ _).mono ?_
  rintro e w1 ⟨rfl, hb1⟩
  have HI1 := hid (isB_below HI0.out hb1)
  have hB1 := hb0.trans (hb1.mono hb0.size)
  clear hb1 HI0 hb0
  go_wp2_with fail
  refine (writeString_any w.heap.size w.heap.size [] _ _ HI1.out (by rw [bs_size, numB_length]; simp) hB1.size).mono ?_
  rintro e w2 ⟨rfl, hI2, hb2⟩
  have HI2 : Hid (IsB w.heap.size w.heap.size (numB l.length ++ joinB textB (l.take 0)) w2) := by
    show IsB _ _ _ _
    rw [bs_list] at hI2
    simpa [joinB] using hI2
  have hB2 := hB1.trans hb2
  clear hB1 hb2 hI2 HI1
  go_wp2
  go_loopw [14] (fun i wr => ∃ k : Nat, k ≤ l.length ∧ i = .int .i64 k ∧ Hid (IsB w.heap.size w.heap.size (numB l.length ++ joinB textB (l.take k)) wr) ∧ Below w.heap.size w wr) (fun i _ => l.length - (intOf i).toNat)
  case atStart => exact ⟨0, Nat.zero_le _, rfl, HI2, hB2⟩
  case round =>
    obtain ⟨k, hk, rfl, hI, hbel⟩ := hrel
    clear HI2 hB2
    by_cases hlt : k < l.length
    · have HT := hid (joinB_take textB l k hlt)
      have hMk := HM.out k (by omega)
      have hsk := HS.out l[k] (List.getElem_mem hlt)
      obtain ⟨a, ha, hce, hsz⟩ := HC.out k hlt
      have hcell : wr.cell? (a.add k) = some (.string l[k]) := (hbel.cell (p := a.add k) (World.block_lt_of_cell? w _ hce)).trans hce
      have hia := atStrs (ao := ao) l.length cap k ha hlt
      have HSK := hid hsk
      clear hce ha hsz hsk
      generalize l[k] = Y at *
      go_wp2_with fail
      refine (ptext_any _ _ HSK.out).mono ?_
      rintro e w3 ⟨rfl, hb3⟩
      have HI3 := hid (isB_below hI.out hb3)
      have hB3 := hbel.trans (hb3.mono hbel.size)
      clear hb3
      go_wp2_with fail
      refine (writeString_any w.heap.size w.heap.size _ _ _ HI3.out (by rw [bs_size, List.length_append, numB_length]; have := hMk; rw [textB_length]; have := HSK.out; omega) hB3.size).mono ?_
      rintro e w4 ⟨rfl, hI4, hb4⟩
      have HI4 : Hid (IsB w.heap.size w.heap.size (numB l.length ++ joinB textB (l.take (k + 1))) w4) := by
        show IsB _ _ _ _
        rw [HT.out, ← List.append_assoc]
        rw [bs_list] at hI4
        exact hI4
      have hB4 := hB3.trans hb4
      clear hB3 hb4 hI4 HI3
      go_wp2
      go_roundw
      case rel => exact ⟨k + 1, by omega, by go_num, HI4, hB4⟩
      case measure => simp [intOf]; omega
    · go_wp2_with fail
      refine (string_any w.heap.size w.heap.size _ _ hI.out hbel.size).mono ?_
      rintro e w3 ⟨rfl, hb3⟩
      go_wp2
      go_ret
      refine ⟨ret_str ?_, hbel.trans hb3⟩
      rw [List.take_of_length_le (by omega)]
      rfl

set_option maxHeartbeats 1000000 in
theorem listInts_any (l : List Int) (v : Value) (w : World) (hv : IntsAt w v l) (hs : ∀ x ∈ l, True) (hl : l.length ≤ 1000) :
    Calls Try.prog 53 #[v, .func (.func 18) #[] #[]] w fun e w' => e = .returned (.string (bs (listB numB l))) ∧ Below w.heap.size w w' := by
  obtain ⟨ao, cap, rfl, hlm, hc⟩ := hv
  unfold maxLen at hlm
  have HC := hid hc
  have HS := hid hs
  have HM : Hid (∀ k, k ≤ l.length → (joinB numB (l.take k)).length ≤ 8 * k) := by
    intro k hk
    have := joinB_le numB 8 (l.take k) (fun x hx => by have := hs x (List.mem_of_mem_take hx); rw [numB_length]; omega)
    rw [List.length_take, Nat.min_eq_left hk] at this
    omega
  clear hc hs
  have hI0 := isB_fresh w
  have hb0 : Below w.heap.size w (w.alloc (.cells #[.pointer none, .slice none 0 0] 111)) := (Below.refl _ _).alloc (Nat.le_refl _) _
  have HI0 := hid hI0
  clear hI0
  go_enter Try.func53, Try.ntmps53
  go_wp2_with fail
  refine (pnum_any _ _).mono ?_
  rintro e w1 ⟨rfl, hb1⟩
  have HI1 := hid (isB_below HI0.out hb1)
  have hB1 := hb0.trans (hb1.mono hb0.size)
  clear hb1 HI0 hb0
  go_wp2_with fail
  refine (writeString_any w.heap.size w.heap.size [] _ _ HI1.out (by rw [bs_size, numB_length]; simp) hB1.size).mono ?_
  rintro e w2 ⟨rfl, hI2, hb2⟩
  have HI2 : Hid (IsB w.heap.size w.heap.size (numB l.length ++ joinB numB (l.take 0)) w2) := by
    show IsB _ _ _ _
    rw [bs_list] at hI2
    simpa [joinB] using hI2
  have hB2 := hB1.trans hb2
  clear hB1 hb2 hI2 HI1
  go_wp2
  go_loopw [14] (fun i wr => ∃ k : Nat, k ≤ l.length ∧ i = .int .i64 k ∧ Hid (IsB w.heap.size w.heap.size (numB l.length ++ joinB numB (l.take k)) wr) ∧ Below w.heap.size w wr) (fun i _ => l.length - (intOf i).toNat)
  case atStart => exact ⟨0, Nat.zero_le _, rfl, HI2, hB2⟩
  case round =>
    obtain ⟨k, hk, rfl, hI, hbel⟩ := hrel
    clear HI2 hB2
    by_cases hlt : k < l.length
    · have HT := hid (joinB_take numB l k hlt)
      have hMk := HM.out k (by omega)
      have hsk := HS.out l[k] (List.getElem_mem hlt)
      obtain ⟨a, ha, hce⟩ := HC.out k hlt
      have hcell : wr.cell? (a.add k) = some (.int .i64 l[k]) := (hbel.cell (p := a.add k) (World.block_lt_of_cell? w _ hce)).trans hce
      have hia := atInts (ao := ao) l.length cap k ha hlt
      clear hce ha hsk
      generalize l[k] = Y at *
      go_wp2_with fail
      refine (pnum_any _ _).mono ?_
      rintro e w3 ⟨rfl, hb3⟩
      have HI3 := hid (isB_below hI.out hb3)
      have hB3 := hbel.trans (hb3.mono hbel.size)
      clear hb3
      go_wp2_with fail
      refine (writeString_any w.heap.size w.heap.size _ _ _ HI3.out (by rw [bs_size, List.length_append, numB_length]; have := hMk; rw [numB_length]; omega) hB3.size).mono ?_
      rintro e w4 ⟨rfl, hI4, hb4⟩
      have HI4 : Hid (IsB w.heap.size w.heap.size (numB l.length ++ joinB numB (l.take (k + 1))) w4) := by
        show IsB _ _ _ _
        rw [HT.out, ← List.append_assoc]
        rw [bs_list] at hI4
        exact hI4
      have hB4 := hB3.trans hb4
      clear hB3 hb4 hI4 HI3
      go_wp2
      go_roundw
      case rel => exact ⟨k + 1, by omega, by go_num, HI4, hB4⟩
      case measure => simp [intOf]; omega
    · go_wp2_with fail
      refine (string_any w.heap.size w.heap.size _ _ hI.out hbel.size).mono ?_
      rintro e w3 ⟨rfl, hb3⟩
      go_wp2
      go_ret
      refine ⟨ret_str ?_, hbel.trans hb3⟩
      rw [List.take_of_length_le (by omega)]
      rfl

end Go.Proofs.Ytgnmjdcmaahlnaa
