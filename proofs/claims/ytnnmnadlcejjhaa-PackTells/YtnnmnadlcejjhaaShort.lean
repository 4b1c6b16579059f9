/- Contract of PackShort: it returns true and leaves what was there. -/
import Derived.Test.YtnnmnadlcejjhaaTakes
namespace Go.Proofs.Ytnnmnadlcejjhaa
open Go.RowKit
theorem ret_true {b : Bool} (h : b = true) : Ending.returned (.bool b) = .returned (.bool true) := by rw [h]

set_option maxHeartbeats 1000000 in
theorem short_long (n : Int) (s : ByteArray) (t : Int) (w : World) (hs : 200 < s.size) (hm : s.size ≤ maxLen) :
    Calls Try.prog 5 #[.int .u64 n, .string s, .int .u16 t] w fun e w' => e = .returned (.bool true) ∧ Below w.heap.size w w' := by
  unfold maxLen at hm
  go_enter Try.func5, Try.ntmps5
  go_wp2_with fail
  refine (known_any _).mono ?_
  rintro e w1 ⟨rfl, hb1⟩
  go_wp2
  go_ret
  exact ⟨rfl, hb1⟩

set_option maxHeartbeats 1000000 in
theorem short_any (n : Int) (s : ByteArray) (t : Int) (w : World) (hn0 : 0 ≤ n) (hn : n < 18446744073709551616) (hs : s.size ≤ 200) (ht0 : 0 ≤ t) (ht : t < 65536) :
    Calls Try.prog 5 #[.int .u64 n, .string s, .int .u16 t] w fun e w' => e = .returned (.bool true) ∧ Below w.heap.size w w' := by
  have hz := lowS_size
  obtain ⟨k, hk⟩ := Int.eq_ofNat_of_zero_le (Int.emod_nonneg t (show (8 + (2 + (s.size : Int))) ≠ 0 by omega))
  have hk10 : k < 10 + s.size := by have := Int.emod_lt_of_pos t (show 0 < (8 + (2 + (s.size : Int))) by omega); omega
  have hfl : s.data.toList.length = s.size := by simp
  have HL : Hid (((lowS n 8 ++ (lowS (s.size : Int) 2 ++ s)).extract 0 k).data.toList = (lowB n 8 ++ (lowB (s.size : Int) 2 ++ s.data.toList)).take k) := by
    show _ = _
    rw [extract_list, append_list, append_list, lowS_list, lowS_list]
  have hex : ((lowS n 8 ++ (lowS (s.size : Int) 2 ++ s)).extract 0 k).size ≤ maxLen := by simp [maxLen]; omega
  have HX : Hid _ := hex
  clear hex
  go_enter Try.func5, Try.ntmps5
  go_wp2_with fail
  refine (known_any _).mono ?_
  rintro e w1 ⟨rfl, hb1⟩
  go_wp2_with fail
  refine (num_any n _ hn0 hn).mono ?_
  rintro e w2 ⟨rfl, hb2⟩
  go_wp2_with fail
  refine (text_short s _ (by omega)).mono ?_
  rintro e w3 ⟨rfl, hb3⟩
  go_wp2_with fail
  refine (new_any _ _ HX.out).mono ?_
  rintro e w4 ⟨rfl, hcut, hsz, hb4⟩
  rw [HL.out] at hcut
  have hw : Below w.heap.size w w4 := ((hb1.trans (hb2.mono hb1.size)).trans (hb3.mono (Nat.le_trans hb1.size hb2.size))).trans (hb4.mono (Nat.le_trans (Nat.le_trans hb1.size hb2.size) hb3.size))
  have hge : w.heap.size ≤ w3.heap.size + 1 := by have := hb1.size; have := hb2.size; have := hb3.size; omega
  generalize w3.heap.size + 1 = b at *
  generalize w3.heap.size = rb at *
  clear hb1 hb2 hb3 hb4 hsz HX HL
  have hA : (lowB n 8).length = 8 := lowB_length n 8
  have hB : (lowB (s.size : Int) 2).length = 2 := lowB_length _ 2
  by_cases hk8 : k < 8
  · obtain ⟨l, hl⟩ : ∃ l, l = (lowB n 8 ++ (lowB (s.size : Int) 2 ++ s.data.toList)).take k := ⟨_, rfl⟩
    have hlen : l.length = k := by rw [hl]; simp [hA]; omega
    rw [← hl] at hcut
    clear hl hA hB
    have HC : Hid _ := hcut
    have HK : Hid _ := hlen
    clear hcut hlen hz hfl
    obtain ⟨e1, e2, e3⟩ := num_lacks l false (by rw [HK.out]; exact hk8)
    have H1 : Hid _ := num_at b rb _ _ _ _ _ w4 HC.out e1 e2 e3
    clear e1 e2 e3
    go_wp2_with fail
    refine Calls.mono H1.out ?_
    rintro e w5 ⟨rfl, hcut, hg5⟩
    have hw5 := hw.grown hg5 hw.size (by intro k hk; simp at hk; omega)
    have HC5 : Hid _ := hcut
    clear hcut hg5 hw H1 HC
    go_wp2_with fail
    refine (err_at b rb _ _ (.iface 46 (.int .i64 11)) _ HC5.out rfl).mono ?_
    rintro e wa ⟨rfl, rfl⟩
    go_wp2_with fail
    refine (is_same _).mono ?_
    rintro e wb ⟨rfl, rfl⟩
    go_wp2_with fail
    refine (left_at b rb _ _ k _ HC5.out HK.out).mono ?_
    rintro e wc ⟨rfl, rfl⟩
    go_wp2_with fail
    refine (num_at b rb _ _ _ _ _ _ HC5.out (num_after l).1 (num_after l).2.1 (num_after l).2.2).mono ?_
    rintro e w6 ⟨rfl, hcut, hg6⟩
    have hw6 := hw5.grown hg6 hw5.size (by intro k hk; simp at hk; omega)
    have HC6 : Hid _ := hcut
    clear hcut hg6 hw5 HC5
    go_wp2_with fail
    refine (text_at b rb _ _ _ _ _ _ HC6.out (text_after l).1 (text_after l).2.1 (text_after l).2.2).mono ?_
    rintro e w7 ⟨rfl, hcut, hg7⟩
    have hw7 := hw6.grown hg7 hw6.size (by intro k hk; simp at hk; omega)
    clear hcut hg7 hw6 HC6
    go_wp2
    go_ret
    exact ⟨rfl, hw7⟩
  · have hl : (lowB n 8 ++ (lowB (s.size : Int) 2 ++ s.data.toList)).take k = lowB n 8 ++ (lowB (s.size : Int) 2 ++ s.data.toList).take (k - 8) := by
      rw [List.take_append, hA, List.take_of_length_le (by omega)]
    rw [hl] at hcut
    have h2 := text_lacks s.data.toList (k - 8) (by omega) (by omega)
    rw [hfl] at h2
    have hlen : ((lowB (s.size : Int) 2 ++ s.data.toList).take (k - 8)).length = k - 8 := by simp [hB]; omega
    generalize (lowB (s.size : Int) 2 ++ s.data.toList).take (k - 8) = r at *
    have HC : Hid _ := hcut
    have HK : Hid _ := hlen
    have H2 : Hid _ := h2
    obtain ⟨e1, e2, e3⟩ := num_there n hn0 hn r
    have H1 : Hid _ := num_at b rb _ _ _ _ _ w4 HC.out e1 e2 e3
    clear e1 e2 e3 h2 hlen hcut hl hA hB hfl hz
    have hnn : ((n.toNat : Nat) : Int) = n := by omega
    go_wp2_with fail
    refine Calls.mono H1.out ?_
    rintro e w5 ⟨rfl, hcut, hg5⟩
    have hw5 := hw.grown hg5 hw.size (by intro k hk; simp at hk; omega)
    have HC5 : Hid _ := hcut
    clear hcut hg5 hw H1 HC
    go_wp2_with fail
    refine (text_at b rb _ _ _ _ _ _ HC5.out H2.out.1 H2.out.2.1 H2.out.2.2).mono ?_
    rintro e w6 ⟨rfl, hcut, hg6⟩
    have hw6 := hw5.grown hg6 hw5.size (by intro k hk; simp at hk; omega)
    have HC6 : Hid _ := hcut
    clear hcut hg6 hw5 HC5
    go_wp2_with fail
    refine (err_at b rb _ _ (.iface 46 (.int .i64 11)) _ HC6.out rfl).mono ?_
    rintro e wa ⟨rfl, rfl⟩
    go_wp2_with fail
    refine (is_same _).mono ?_
    rintro e wb ⟨rfl, rfl⟩
    go_wp2_with fail
    refine (left_at b rb _ _ (k - 8) _ HC6.out HK.out).mono ?_
    rintro e wc ⟨rfl, rfl⟩
    go_wp2
    go_ret
    exact ⟨ret_true (by simp; omega), hw6⟩
end Go.Proofs.Ytnnmnadlcejjhaa
