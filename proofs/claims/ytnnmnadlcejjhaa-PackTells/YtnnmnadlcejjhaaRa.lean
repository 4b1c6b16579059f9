/- Contracts of the reference Cut of package copyholdref1: Take and Num. -/
import Derived.Test.YtnnmnadlcejjhaaTakes
namespace Go.Proofs.Ytnnmnadlcejjhaa
open Go.RowKit

/-- In block b lies a Cut of the reference, of which the bytes l are left; sh: bytes have lacked. -/
def RefAt (w : World) (b : Nat) (l : List UInt8) (sh : Bool) : Prop :=
  w.heap[b]? = some (.cells #[.string ⟨l.toArray⟩, .bool sh] 32 (0, 0))
theorem cells_ref {w : World} {b : Nat} {x y : Value} (h : w.heap[b]? = some (.cells #[x, y] 32 (0, 0))) :
    w.cell? ⟨b, 0, none⟩ = some x ∧ w.cell? ⟨b, 1, none⟩ = some y ∧ w.frozen? ⟨b, 0, none⟩ = false ∧ w.frozen? ⟨b, 1, none⟩ = false := by
  refine ⟨?_, ?_, ?_, ?_⟩ <;> simp [World.cell?, World.frozen?, h]
theorem ref_short {w : World} {b : Nat} {l : List UInt8} {sh : Bool} (h : RefAt w b l sh) : RefAt (w.setCell ⟨b, 1, none⟩ (.bool true)) b l true := by
  unfold RefAt at *
  rw [heap_setCell_same w b 1 _ _ _ h]
  rfl
theorem ref_taken {w : World} {b : Nat} {l l' : List UInt8} {sh : Bool} (h : RefAt w b l sh) : RefAt (w.setCell ⟨b, 0, none⟩ (.string ⟨l'.toArray⟩)) b l' sh := by
  unfold RefAt at *
  rw [heap_setCell_same w b 0 _ _ _ h]
  rfl
theorem arr_size (l : List UInt8) : (⟨l.toArray⟩ : ByteArray).size = l.length := by simp [ByteArray.size]
theorem arr_take (l : List UInt8) (n : Nat) : (⟨l.toArray⟩ : ByteArray).extract 0 n = ⟨(l.take n).toArray⟩ := by
  apply ByteArray.ext
  apply Array.toList_inj.1
  rw [extract_list]
theorem arr_drop (l : List UInt8) (n k : Nat) (h : l.length ≤ k) : (⟨l.toArray⟩ : ByteArray).extract n k = ⟨(l.drop n).toArray⟩ := by
  apply ByteArray.ext
  apply Array.toList_inj.1
  rw [ByteArray.data_extract]
  simp
  exact List.take_of_length_le (by simp; omega)

set_option maxHeartbeats 400000 in
theorem refTake_ok (b n : Nat) (l : List UInt8) (w : World) (h : RefAt w b l false) (hn : n ≤ l.length) (_hm : l.length ≤ maxLen) :
    Calls Try.prog 25 #[.pointer (some ⟨b, 0, none⟩), .int .i64 n] w fun e w' => e = .returned (.string ⟨(l.take n).toArray⟩) ∧ RefAt w' b (l.drop n) false ∧ w.grownBy w' (some b) := by
  have hz := arr_size l
  obtain ⟨hc0, hc1, hf0, hf1⟩ := cells_ref h
  have H : Hid _ := h
  clear h
  unfold maxLen at _hm
  go_enter Try.func25, Try.ntmps25
  go_wp2
  go_ret
  exact ⟨ret_str (arr_take l n), by rw [arr_drop l n l.length (Nat.le_refl _)]; exact ref_taken H.out, grown_setCell _ _ _ _⟩
set_option maxHeartbeats 400000 in
theorem refTake_no (b n : Nat) (l : List UInt8) (sh : Bool) (w : World) (h : RefAt w b l sh) (hn : sh = true ∨ l.length < n) (_hm : l.length ≤ maxLen) (_hm' : n ≤ maxLen) :
    Calls Try.prog 25 #[.pointer (some ⟨b, 0, none⟩), .int .i64 n] w fun e w' => e = .returned (.string ⟨#[]⟩) ∧ RefAt w' b l true ∧ w.grownBy w' (some b) := by
  have hz := arr_size l
  obtain ⟨hc0, hc1, hf0, hf1⟩ := cells_ref h
  have HS : Hid _ := ref_short h
  clear h
  unfold maxLen at _hm _hm'
  cases sh
  · have hlt : l.length < n := by simpa using hn
    clear hn
    go_enter Try.func25, Try.ntmps25
    go_wp2
    go_ret
    exact ⟨rfl, HS.out, grown_setCell _ _ _ _⟩
  · clear hn
    go_enter Try.func25, Try.ntmps25
    go_wp2
    go_ret
    exact ⟨rfl, HS.out, grown_setCell _ _ _ _⟩

theorem or_high (a b : Nat) (ha : a < 256 ^ 7) (hb : b < 256) : bits .or .u64 (IntKind.u64.wrap ((a : Int) * 256)) (IntKind.u64.wrap (b : Int)) = ((b + 256 * a : Nat) : Int) := by
  have ha' : a < 72057594037927936 := ha
  rw [IntKind.wrap_u64, IntKind.wrap_u64, show (a : Int) * 256 % 18446744073709551616 = ((a * 256 : Nat) : Int) by omega, show (b : Int) % 18446744073709551616 = ((b : Nat) : Int) by omega]
  rw [u64_or_nat _ _ (by omega) (by omega), nat_join 8 (a * 256) b (by simp) (by omega), Nat.add_comm, Nat.mul_comm]
theorem leN_step (f : List UInt8) (j : Nat) (h : j < f.length) : leN (f.drop j) = f[j].toNat + 256 * leN (f.drop (j + 1)) := by
  rw [List.drop_eq_getElem_cons h, leN]

set_option maxHeartbeats 400000 in
/-- The number that the reference makes of bytes, from the highest one on. -/
theorem refNum_any (b : Nat) (l : List UInt8) (sh : Bool) (w : World) (h : RefAt w b l sh) (hm : l.length ≤ maxLen) :
    Calls Try.prog 16 #[.pointer (some ⟨b, 0, none⟩)] w fun e w' => e = .returned (.int .u64 (numV l sh)) ∧ RefAt w' b (numL l sh) (!numOk l sh) ∧ w.grownBy w' (some b) := by
  cases hok : numOk l sh
  · have hno : sh = true ∨ l.length < 8 := by
      cases sh
      · right; simp [numOk] at hok; omega
      · left; rfl
    have H : Hid _ := refTake_no b 8 l sh w h hno hm (by unfold maxLen; omega)
    have HOK : Hid _ := hok
    clear hok h hno hm
    go_enter Try.func16, Try.ntmps16
    go_wp2_with fail
    refine Calls.mono H.out ?_
    rintro e w1 ⟨rfl, h1, hg⟩
    have H1 : Hid _ := h1
    clear h1 H
    go_wp2
    refine wp_loop_rounds 1 ?_
    rw [rounds_succ]
    go_wp2
    go_ret
    exact ⟨by simp [numV, HOK.out], by simp [numL, HOK.out]; exact H1.out, hg⟩
  · have hsh : sh = false ∧ 8 ≤ l.length := by simpa [numOk] using hok
    obtain ⟨rfl, h8⟩ := hsh
    have H : Hid (Calls Try.prog 25 #[.pointer (some ⟨b, 0, none⟩), .int .i64 (8 : Nat)] w fun e w' => e = .returned (.string ⟨(l.take 8).toArray⟩) ∧ RefAt w' b (l.drop 8) false ∧ w.grownBy w' (some b)) := refTake_ok b 8 l w h h8 hm
    have HOK : Hid _ := hok
    obtain ⟨f, hf⟩ : ∃ f, f = l.take 8 := ⟨_, rfl⟩
    have hfl : f.length = 8 := by rw [hf]; simp; omega
    have hz : (⟨f.toArray⟩ : ByteArray).size = 8 := by rw [arr_size, hfl]
    have HF : Hid _ := hf
    rw [← hf] at H
    clear hok h hm hf
    go_enter Try.func16, Try.ntmps16
    go_wp2_with fail
    refine Calls.mono H.out ?_
    rintro e w1 ⟨rfl, h1, hg⟩
    have H1 : Hid _ := h1
    clear h1 H
    go_wp2
    go_loop [4, 5] (fun a i => ∃ m : Nat, m ≤ 8 ∧ i = .int .i64 (7 - (m : Int)) ∧ a = .int .u64 (leN (f.drop (8 - m)))) (fun _ i => (intOf i + 1).toNat)
    case atStart => exact ⟨0, by omega, rfl, by rw [List.drop_of_length_le (by omega)]; rfl⟩
    case round =>
      obtain ⟨m, hm, rfl, rfl⟩ := hrel
      by_cases hlt : m < 8
      · obtain ⟨j, hj⟩ : ∃ j, j + m = 7 := ⟨7 - m, by omega⟩
        have hji : (7 : Int) - (m : Int) = (j : Int) := by omega
        have hjl : j < f.length := by omega
        have hjs : j < (⟨f.toArray⟩ : ByteArray).size := by omega
        have HS : Hid _ := leN_step f j hjl
        have HB : Hid _ := leN_lt (f.drop (j + 1))
        rw [hji]
        have hjj : 8 - m = j + 1 := by omega
        rw [hjj]
        go_wp2
        go_roundw
        case rel =>
          refine ⟨m + 1, by omega, by go_num, ?_⟩
          have hp : 256 ^ (f.drop (j + 1)).length ≤ 256 ^ 7 := Nat.pow_le_pow_right (by omega) (by simp; omega)
          rw [or_high _ _ (Nat.lt_of_lt_of_le HB.out hp) (by have := (⟨f.toArray⟩ : ByteArray)[j].toNat_lt; omega), show 8 - (m + 1) = j by omega, HS.out]
          rfl
        case measure => simp [intOf]
      · have hme : m = 8 := by omega
        subst hme
        go_wp2
        go_ret
        exact ⟨ret_int (by simp [numV, HOK.out, ← HF.out]), by simp [numL, HOK.out]; exact H1.out, hg⟩
end Go.Proofs.Ytnnmnadlcejjhaa
