/- Contracts of the reference Cut of package copyholdref1: Take and Num. Contract of the reference Cut of package copyholdref1: Text. Contracts of the functions Num, Text and Sum of the reference, package copyholdref1. -/
import Derived.Test.YtgnmjdcmaahlnaaGreatXa
import Derived.Deep.QuietTactic
import Derived.BigQuiet
namespace Go.Proofs.YtgnmjdcmaahlnaaGreat
open Go.RowKit

/-- In block b lies a Cut of the reference, of which the bytes l are left; sh: bytes have lacked. -/
def RefAt (w : World) (b : Nat) (l : List UInt8) (sh : Bool) : Prop :=
  w.heap[b]? = some (.cells #[.string ⟨l.toArray⟩, .bool sh] 63 (0, 0))
theorem cells_ref {w : World} {b : Nat} {x y : Value} (h : w.heap[b]? = some (.cells #[x, y] 63 (0, 0))) :
    w.cell? ⟨b, 0, none⟩ = some x ∧ w.cell? ⟨b, 1, none⟩ = some y ∧ w.frozen? ⟨b, 0, none⟩ = false ∧ w.frozen? ⟨b, 1, none⟩ = false := by
  refine ⟨?_, ?_, ?_, ?_⟩ <;> simp [World.cell?, World.frozen?, h]
theorem ref_short {w : World} {b : Nat} {l : List UInt8} {sh : Bool} (h : RefAt w b l sh) : RefAt (w.setCell ⟨b, 1, none⟩ (.bool true)) b l true := by
  unfold RefAt at *
  rw [heap_setCell_same w b 1 _ _ _ h]
  rfl
theorem ref_taken {w : World} {b : Nat} {l l' : List UInt8} {sh : Bool} (h : RefAt w b l sh) : RefAt (w.setCell ⟨b, 0, none⟩ (.string ⟨l'.toArray⟩)) b l' sh := by
  unfold RefAt at *
  rw [heap_setCell_same w b 0 _ _ _ h]
  rfl
theorem arr_size (l : List UInt8) : (⟨l.toArray⟩ : ByteArray).size = l.length := by simp [ByteArray.size]
theorem arr_take (l : List UInt8) (n : Nat) : (⟨l.toArray⟩ : ByteArray).extract 0 n = ⟨(l.take n).toArray⟩ := by
  apply ByteArray.ext
  apply Array.toList_inj.1
  rw [extract_list]
theorem arr_drop (l : List UInt8) (n k : Nat) (h : l.length ≤ k) : (⟨l.toArray⟩ : ByteArray).extract n k = ⟨(l.drop n).toArray⟩ := by
  apply ByteArray.ext
  apply Array.toList_inj.1
  rw [ByteArray.data_extract]
  simp
  exact List.take_of_length_le (by simp; omega)

set_option maxHeartbeats 400000 in
theorem refTake_ok (b n : Nat) (l : List UInt8) (w : World) (h : RefAt w b l false) (hn : n ≤ l.length) (_hm : l.length ≤ maxLen) :
    Calls Tryz.prog 39 #[.pointer (some ⟨b, 0, none⟩), .int .i64 n] w fun e w' => e = .returned (.string ⟨(l.take n).toArray⟩) ∧ RefAt w' b (l.drop n) false ∧ w.grownBy w' (some b) := by
  have hz := arr_size l
  obtain ⟨hc0, hc1, hf0, hf1⟩ := cells_ref h
  have H : Hid _ := h
  clear h
  unfold maxLen at _hm
  go_enter Tryz.func39, Tryz.ntmps39
  go_wp2
  go_ret
  exact ⟨ret_str (arr_take l n), by rw [arr_drop l n l.length (Nat.le_refl _)]; exact ref_taken H.out, grown_setCell _ _ _ _⟩
set_option maxHeartbeats 400000 in
theorem refTake_no (b n : Nat) (l : List UInt8) (sh : Bool) (w : World) (h : RefAt w b l sh) (hn : sh = true ∨ l.length < n) (_hm : l.length ≤ maxLen) (_hm' : n ≤ maxLen) :
    Calls Tryz.prog 39 #[.pointer (some ⟨b, 0, none⟩), .int .i64 n] w fun e w' => e = .returned (.string ⟨#[]⟩) ∧ RefAt w' b l true ∧ w.grownBy w' (some b) := by
  have hz := arr_size l
  obtain ⟨hc0, hc1, hf0, hf1⟩ := cells_ref h
  have HS : Hid _ := ref_short h
  clear h
  unfold maxLen at _hm _hm'
  cases sh
  · have hlt : l.length < n := by simpa using hn
    clear hn
    go_enter Tryz.func39, Tryz.ntmps39
    go_wp2
    go_ret
    exact ⟨rfl, HS.out, grown_setCell _ _ _ _⟩
  · clear hn
    go_enter Tryz.func39, Tryz.ntmps39
    go_wp2
    go_ret
    exact ⟨rfl, HS.out, grown_setCell _ _ _ _⟩

theorem or_high (a b : Nat) (ha : a < 256 ^ 7) (hb : b < 256) : bits .or .u64 (IntKind.u64.wrap ((a : Int) * 256)) (IntKind.u64.wrap (b : Int)) = ((b + 256 * a : Nat) : Int) := by
  have ha' : a < 72057594037927936 := ha
  rw [IntKind.wrap_u64, IntKind.wrap_u64, show (a : Int) * 256 % 18446744073709551616 = ((a * 256 : Nat) : Int) by omega, show (b : Int) % 18446744073709551616 = ((b : Nat) : Int) by omega]
  rw [u64_or_nat _ _ (by omega) (by omega), nat_join 8 (a * 256) b (by simp) (by omega), Nat.add_comm, Nat.mul_comm]
theorem leN_step (f : List UInt8) (j : Nat) (h : j < f.length) : leN (f.drop j) = f[j].toNat + 256 * leN (f.drop (j + 1)) := by
  rw [List.drop_eq_getElem_cons h, leN]

set_option maxHeartbeats 400000 in
/-- The number that the reference makes of bytes, from the highest one on. -/
theorem refNum_any (b : Nat) (l : List UInt8) (sh : Bool) (w : World) (h : RefAt w b l sh) (hm : l.length ≤ maxLen) :
    Calls Tryz.prog 22 #[.pointer (some ⟨b, 0, none⟩)] w fun e w' => e = .returned (.int .u64 (numV l sh)) ∧ RefAt w' b (numL l sh) (!numOk l sh) ∧ w.grownBy w' (some b) := by
  cases hok : numOk l sh
  · have hno : sh = true ∨ l.length < 8 := by
      cases sh
      · right; simp [numOk] at hok; omega
      · left; rfl
    have H : Hid _ := refTake_no b 8 l sh w h hno hm (by unfold maxLen; omega)
    have HOK : Hid _ := hok
    clear hok h hno hm
    go_enter Tryz.func22, Tryz.ntmps22
    go_wp2_with fail
    refine Calls.mono H.out ?_
    rintro e w1 ⟨rfl, h1, hg⟩
    have H1 : Hid _ := h1
    clear h1 H
    go_wp2
    refine wp_loop_rounds 1 ?_
    rw [rounds_succ]
    go_wp2
    go_ret
    exact ⟨by simp [numV, HOK.out], by simp [numL, HOK.out]; exact H1.out, hg⟩
  · have hsh : sh = false ∧ 8 ≤ l.length := by simpa [numOk] using hok
    obtain ⟨rfl, h8⟩ := hsh
    have H : Hid (Calls Tryz.prog 39 #[.pointer (some ⟨b, 0, none⟩), .int .i64 (8 : Nat)] w fun e w' => e = .returned (.string ⟨(l.take 8).toArray⟩) ∧ RefAt w' b (l.drop 8) false ∧ w.grownBy w' (some b)) := refTake_ok b 8 l w h h8 hm
    have HOK : Hid _ := hok
    obtain ⟨f, hf⟩ : ∃ f, f = l.take 8 := ⟨_, rfl⟩
    have hfl : f.length = 8 := by rw [hf]; simp; omega
    have hz : (⟨f.toArray⟩ : ByteArray).size = 8 := by rw [arr_size, hfl]
    have HF : Hid _ := hf
    rw [← hf] at H
    clear hok h hm hf
    go_enter Tryz.func22, Tryz.ntmps22
    go_wp2_with fail
    refine Calls.mono H.out ?_
    rintro e w1 ⟨rfl, h1, hg⟩
    have H1 : Hid _ := h1
    clear h1 H
    go_wp2
    go_loop [4, 5] (fun a i => ∃ m : Nat, m ≤ 8 ∧ i = .int .i64 (7 - (m : Int)) ∧ a = .int .u64 (leN (f.drop (8 - m)))) (fun _ i => (intOf i + 1).toNat)
    case atStart => exact ⟨0, by omega, rfl, by rw [List.drop_of_length_le (by omega)]; rfl⟩
    case round =>
      obtain ⟨m, hm, rfl, rfl⟩ := hrel
      by_cases hlt : m < 8
      · obtain ⟨j, hj⟩ : ∃ j, j + m = 7 := ⟨7 - m, by omega⟩
        have hji : (7 : Int) - (m : Int) = (j : Int) := by omega
        have hjl : j < f.length := by omega
        have hjs : j < (⟨f.toArray⟩ : ByteArray).size := by omega
        have HS : Hid _ := leN_step f j hjl
        have HB : Hid _ := leN_lt (f.drop (j + 1))
        rw [hji]
        have hjj : 8 - m = j + 1 := by omega
        rw [hjj]
        go_wp2
        go_roundw
        case rel =>
          refine ⟨m + 1, by omega, by go_num, ?_⟩
          have hp : 256 ^ (f.drop (j + 1)).length ≤ 256 ^ 7 := Nat.pow_le_pow_right (by omega) (by simp; omega)
          rw [or_high _ _ (Nat.lt_of_lt_of_le HB.out hp) (by have := (⟨f.toArray⟩ : ByteArray)[j].toNat_lt; omega), show 8 - (m + 1) = j by omega, HS.out]
          rfl
        case measure => simp [intOf]
      · have hme : m = 8 := by omega
        subst hme
        go_wp2
        go_ret
        exact ⟨ret_int (by simp [numV, HOK.out, ← HF.out]), by simp [numL, HOK.out]; exact H1.out, hg⟩
end Go.Proofs.YtgnmjdcmaahlnaaGreat

namespace Go.Proofs.YtgnmjdcmaahlnaaGreat
open Go.RowKit

theorem or_two (a b : Nat) (ha : a < 256) (hb : b < 256) : bits .or .i64 (a : Int) ((b : Int) * 256) = ((a + 256 * b : Nat) : Int) := by
  rw [show (b : Int) * 256 = ((b * 256 : Nat) : Int) by omega]
  show IntKind.i64.wrap ((BitVec.ofInt 64 (a : Int) ||| BitVec.ofInt 64 ((b * 256 : Nat) : Int)).toNat : Int) = _
  rw [BitVec.toNat_or, ofInt_u64 a (by omega), ofInt_u64 (b * 256) (by omega), Nat.or_comm, nat_join 8 (b * 256) a (by simp) (by omega), IntWalk.i64_in _ (by omega)]
  omega
theorem textN_two (l : List UInt8) (h : 2 ≤ l.length) : textN l = l[0].toNat + 256 * l[1].toNat := by
  match l, h with
  | a :: b :: r, _ => simp [textN, leN]
theorem idx_list (l : List UInt8) (i : Nat) (h : i < l.length) (w : World) : (Instr.index 9 (.string ⟨l.toArray⟩) (.int .i64 (i : Int))).run Tryz.prog w = .ok (.int .u8 (l[i].toNat : Int)) w := by
  have hs := arr_size l
  have hi : i < (⟨l.toArray⟩ : ByteArray).size := by omega
  have : (⟨l.toArray⟩ : ByteArray)[i] = l[i] := rfl
  go_simp

theorem below_drawsR (w : World) (n : Nat) : Below w.heap.size w (w.drewN n) := ⟨rfl, rfl, rfl, Nat.le_refl _, fun _ _ => rfl⟩
theorem ref_drewN {w : World} {b : Nat} {l : List UInt8} {sh : Bool} (h : RefAt w b l sh) (n : Nat) : RefAt (w.drewN n) b l sh := by
  unfold RefAt at *
  simpa using h
theorem grown_two {a b c : World} {k : Nat} (h : a.grownBy b (some k)) (g : b.grownBy c (some k)) : a.grownBy c (some k) :=
  ⟨g.os.trans h.os, g.tape.trans h.tape, g.output.trans h.output, Nat.le_trans h.size g.size, fun i hi hne => (g.block i (Nat.lt_of_lt_of_le hi h.size) hne).trans (h.block i hi hne)⟩

set_option maxHeartbeats 400000 in
theorem refText_any (b : Nat) (l : List UInt8) (sh : Bool) (w : World) (h : RefAt w b l sh) (hm : l.length ≤ maxLen) :
    Calls Tryz.prog 42 #[.pointer (some ⟨b, 0, none⟩)] w fun e w' => e = .returned (.string ⟨(textV l sh).toArray⟩) ∧ RefAt w' b (textL l sh) (!textOk l sh) ∧ w.grownBy w' (some b) := by
  have hm0 := hm
  unfold maxLen at hm
  have hz := arr_size l
  obtain ⟨hc0, hc1, hf0, hf1⟩ := cells_ref h
  have HS : Hid _ := ref_short h
  by_cases h2 : sh = true ∨ l.length < 2
  · have hok : textOk l sh = false := by
      rcases h2 with h2 | h2
      · simp [textOk, h2]
      · simp [textOk]; omega
    have HOK : Hid _ := hok
    clear hok
    cases sh
    · have hlt : l.length < 2 := by simpa using h2
      clear h2 h
      go_enter Tryz.func42, Tryz.ntmps42
      go_wp2
      go_ret
      exact ⟨by simp [textV, HOK.out], by simp [textL, HOK.out]; exact HS.out, grown_setCell _ _ _ _⟩
    · clear h2 h
      go_enter Tryz.func42, Tryz.ntmps42
      go_wp2
      go_ret
      exact ⟨by simp [textV, HOK.out], by simp [textL, HOK.out]; exact HS.out, grown_setCell _ _ _ _⟩
  · have hsh : sh = false := by cases sh <;> simp_all
    subst hsh
    have hge : 2 ≤ l.length := by simpa using h2
    clear h2
    have x0 := idx_list l 0 (by omega)
    have x1 := idx_list l 1 (by omega)
    have hb0 := l[0].toNat_lt
    have hb1 := l[1].toNat_lt
    have HN : Hid (textN l = l[0].toNat + 256 * l[1].toNat) := textN_two l hge
    generalize l[0].toNat = a0 at *
    generalize l[1].toNat = a1 at *
    simp only [Int.cast_ofNat_Int] at x0 x1
    have ho := or_two a0 a1 hb0 hb1
    rw [← HN.out] at ho
    have hn5 := leN_two_le l
    clear HN
    by_cases hlt : l.length < 2 + textN l
    · have HOK : Hid (textOk l false = false) := by show _ = _; simp [textOk]; omega
      have H : Hid _ := h
      clear h HS
      go_enter Tryz.func42, Tryz.ntmps42
      go_wp2
      go_quiet (fail)
      go_wp2_with fail
      go_ret
      exact ⟨by simp [textV, HOK.out], by simp [textL, HOK.out]; exact ref_short (ref_drewN H.out nq), grown_of_below (below_drawsR w nq) rfl (grown_setCell _ _ _ _)⟩
    · have HOK : Hid (textOk l false = true) := by show _ = _; simp [textOk]; omega
      have H : Hid _ := h
      have hE := arr_drop l 2 l.length (Nat.le_refl _)
      clear h HS
      go_enter Tryz.func42, Tryz.ntmps42
      go_wp2
      go_quiet (fail)
      go_wp2_with fail
      refine (refTake_ok b (textN l) (l.drop 2) _ (ref_taken (ref_drewN H.out nq)) (by simp; omega) (by simp; omega)).mono ?_
      rintro e w2 ⟨rfl, h2, hg2⟩
      have H2 : Hid _ := h2
      have HG : Hid _ := hg2
      clear h2 hg2
      go_wp2
      go_ret
      refine ⟨by simp [textV, HOK.out], ?_, grown_of_below (below_drawsR w nq) rfl (grown_two (grown_setCell _ _ _ _) HG.out)⟩
      simp [textL, HOK.out]
      have h3 := H2.out
      rw [List.drop_drop] at h3
      exact h3
end Go.Proofs.YtgnmjdcmaahlnaaGreat

namespace Go.Proofs.YtgnmjdcmaahlnaaGreat
open Go.RowKit

set_option maxRecDepth 100000 in
set_option maxHeartbeats 1000000 in
theorem refNumS_any (n : Int) (w : World) (_hn0 : 0 ≤ n) (_hn : n < 18446744073709551616) :
    Calls Tryz.prog 35 #[.int .u64 n] w fun e w' => e = .returned (.string (lowS n 8)) ∧ Below w.heap.size w w' := by
  obtain ⟨i0, hi, hz0, hz1, hz2⟩ := info_parts Tryz.info5
  go_enter Tryz.func35, Tryz.ntmps35
  go_wp2_with (first
    | (at_make; refine wpList_make_full _ rfl _ _ 112 rfl w.heap.size 5 i0 (.int .u8 0) 1 Tryz.underlying112 hi hz0 hz1 .i64 .i64 _ _ 8 rfl rfl rfl rfl (by rw [hz2]; omega) (by unfold maxLen; omega) (Nat.le_refl _) ?_)
    | fail)
  intro w1 hown hg
  have hown0 : w1.ownsRow w.heap.size 5 1 (Value.slice (some { block := w.heap.size, off := 0 }) 8 8) 8 (lowRow n 8 0) := by
    rw [lowRow_zero, ← toList_madeCells_one]; exact hown
  have hb1 : Below w.heap.size w w1 := (Below.refl _ w).grown hg (Nat.le_refl _) (by simp)
  clear hown hg
  go_wp2
  go_loopw [4] (fun i wr => ∃ j : Nat, j ≤ 8 ∧ i = .int .i64 j ∧ wr.ownsRow w.heap.size 5 1 (Value.slice (some { block := w.heap.size, off := 0 }) 8 8) 8 (lowRow n 8 j) ∧ Below w.heap.size w wr) (fun i _ => 8 - (intOf i).toNat)
  case atStart => exact ⟨0, Nat.zero_le _, rfl, hown0, hb1⟩
  case round =>
    obtain ⟨j, hj, rfl, hown, hb⟩ := hrel
    by_cases hlt : j < 8
    · have hfz := hown.frozenAt j
      have hce : wr.cell? ⟨w.heap.size, j, none⟩ = some (.int .u8 0) := by rw [hown.cellAt j (by omega)]; exact lowRow_at n 8 j hlt
      have HS := hown.stored j (.int .u8 (n / 2 ^ (8 * j) % 256))
      rw [lowRow_set] at HS
      have H1 : Hid _ := HS.1
      clear HS hown
      go_wp2
      go_roundw
      case rel => exact ⟨j + 1, by omega, by go_num, H1.out, hb.setCell (Nat.le_refl _) _⟩
      case measure => simp [intOf]; omega
    · have ej : j = 8 := by omega
      subst ej
      rw [lowRow_full] at hown
      have hcv := conv_own hown
      clear hown
      go_wp2
      go_ret
      exact ⟨rfl, hb⟩

set_option maxRecDepth 100000 in
set_option maxHeartbeats 1000000 in
theorem refSum_any (s : ByteArray) (w : World) (hs : s.size ≤ maxLen) :
    Calls Tryz.prog 23 #[.string s] w fun e w' => e = .returned (.int .u64 (sumN s.data.toList)) ∧ w' = w := by
  unfold maxLen at hs
  go_enter Tryz.func23, Tryz.ntmps23
  go_wp2
  go_loop [3, 4] (fun a i => ∃ j : Nat, j ≤ s.size ∧ i = .int .i64 j ∧ a = .int .u64 (sumN (s.data.toList.take j))) (fun _ i => s.size - (intOf i).toNat)
  case atStart => exact ⟨0, Nat.zero_le _, rfl, rfl⟩
  case round =>
    obtain ⟨j, hj, rfl, rfl⟩ := hrel
    by_cases hlt : j < s.size
    · have HS : Hid (sumN (s.data.toList.take (j + 1)) = (sumN (s.data.toList.take j) * 33 + s[j].toNat) % 18446744073709551616) := by
        rw [List.take_succ_eq_append_getElem (by simpa using hlt)]; exact sumN_snoc _ _
      go_wp2
      go_roundw
      case rel => exact ⟨j + 1, by omega, by go_num, by rw [HS.out, wrap_sum]⟩
      case measure => simp [intOf]; omega
    · go_wp2
      go_ret
      exact ⟨ret_int (by rw [List.take_of_length_le (by simp; omega)]), rfl⟩

/-- 'string([]byte{a, b})'. -/
theorem conv_two (w : World) (a b n : Int) (ha : a = byteAt n 0) (hb : b = byteAt n 1) :
    (convert 112 9 (.slice (some ⟨w.heap.size, 0, none⟩) 2 2)).run Tryz.prog (w.alloc (.cells #[.int .u8 a, .int .u8 b] 5)).drew = .ok (.string (lowS n 2)) (w.alloc (.cells #[.int .u8 a, .int .u8 b] 5)).drew := by
  rw [run_convert_bytes_arg (P := Tryz.prog) _ 112 5 Tryz.underlying112 Tryz.underlying5 w.heap.size 0 2 2 [a, b] rfl (fun i hi => ?_) 9 Tryz.underlying9]
  · subst ha hb
    rfl
  · have : i = 0 ∨ i = 1 := by omega
    rcases this with rfl | rfl <;> simp

set_option maxRecDepth 100000 in
set_option maxHeartbeats 1000000 in
theorem refTextS_short (s : ByteArray) (w : World) (_hs : s.size ≤ 65535) :
    Calls Tryz.prog 33 #[.string s] w fun e w' => e = .returned (.string (lowS s.size 2 ++ s)) ∧ Below w.heap.size w w' := by
  have hz := lowS_size
  have hcv := conv_two w ((s.size : Int) % 256) ((s.size : Int) / 256) s.size (by simp [byteAt]) (by simp [byteAt]; omega)
  go_enter Tryz.func33, Tryz.ntmps33
  go_wp2
  go_region
  all_goals (go_wp2; go_ret; exact ⟨rfl, Below.drew ((Below.refl _ _).alloc (Nat.le_refl _) _)⟩)

set_option maxRecDepth 100000 in
set_option maxHeartbeats 1000000 in
theorem refTextS_long (s : ByteArray) (w : World) (hs : 65535 < s.size) (hm : s.size ≤ maxLen) :
    Calls Tryz.prog 33 #[.string s] w fun e w' => e = .returned (.string (lowS 65535 2 ++ s.extract 0 65535)) ∧ Below w.heap.size w w' := by
  unfold maxLen at hm
  have hz := lowS_size
  have hcv := conv_two w 255 255 65535 (by decide) (by decide)
  go_enter Tryz.func33, Tryz.ntmps33
  go_wp2
  go_region
  all_goals (go_wp2; go_ret; exact ⟨rfl, Below.drew ((Below.refl _ _).alloc (Nat.le_refl _) _)⟩)
end Go.Proofs.YtgnmjdcmaahlnaaGreat
