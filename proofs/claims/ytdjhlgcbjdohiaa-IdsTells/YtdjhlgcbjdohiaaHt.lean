/- IdsTells: of every rows, numbers: whether it rises, with one, without one, both, a run, what is left. -/
import Derived.Test.YtdjhlgcbjdohiaaHm
import Derived.Test.YtdjhlgcbjdohiaaHj
import Derived.Test.YtdjhlgcbjdohiaaHk
import Derived.Test.YtdjhlgcbjdohiaaHl
namespace Go.Proofs.Ytdjhlgcbjdohiaa
open Go.RowKit

/-- It tells true or false. -/
def Tells (e : Ending) : Prop := ∃ b, e = .returned (.bool b)
theorem Tells.mk (b : Bool) : Tells (.returned (.bool b)) := ⟨b, rfl⟩
set_option maxHeartbeats 1000000 in
theorem far_any (f m : Int) (w : World) :
    Calls Try.prog 21 #[.int .i64 f, .int .i64 m] w fun e w' => Tells e ∧ w' = w := by
  by_cases h1 : 0 < m
  · by_cases h2 : 0 < f
    · generalize hW : IntKind.i64.wrap (f + m) = s
      by_cases h3 : s < 0
      · go_enter Try.func21, Try.ntmps21
        go_wp2
        go_ret
        exact ⟨Tells.mk _, rfl⟩
      · go_enter Try.func21, Try.ntmps21
        go_wp2
        go_ret
        exact ⟨Tells.mk _, rfl⟩
    · go_enter Try.func21, Try.ntmps21
      go_wp2
      go_ret
      exact ⟨Tells.mk _, rfl⟩
  · go_enter Try.func21, Try.ntmps21
    go_wp2
    go_ret
    exact ⟨Tells.mk _, rfl⟩

/-- A slice of numbers that comes in. -/
def RowsAt (w : World) (v : Value) (l : List Int) : Prop := ∃ ao cap, v = .slice ao l.length cap ∧ RowAt w ao cap l ∧ Fit l

set_option maxRecDepth 100000 in
set_option maxHeartbeats 8000000 in
theorem tells_law (l a b : List Int) (n m : Int) (v0 v1 v2 : Value) (w : World) (h0 : RowsAt w v0 l) (h1 : RowsAt w v1 a) (h2 : RowsAt w v2 b) (h3 : -9223372036854775808 ≤ n) (h4 : n < 9223372036854775808) (_h5 : -9223372036854775808 ≤ m) (h6 : m < 9223372036854775808) :
    Calls Try.prog 3 #[v0, v1, v2, .int .i64 n, .int .i64 m] w fun e w' => e = .returned (.bool true) ∧ Below w.heap.size w w' := by
  obtain ⟨lo, lc, rfl, hL, hLf⟩ := h0
  obtain ⟨ao, ac, rfl, hA, hAf⟩ := h1
  obtain ⟨bo, bc, rfl, hB, hBf⟩ := h2
  replace hL := hid hL; replace hA := hid hA; replace hB := hid hB; replace hAf := hid hAf
  replace h3 := hid h3; replace h4 := hid h4; replace h6 := hid h6
  clear hLf hBf _h5
  by_cases hl : 60 < l.length ∨ 60 < a.length ∨ 60 < b.length
  · clear h3 h4 h6
    rcases hl with hl | hl
    · have hd : decide ((60 : Int) < (l.length : Int)) = true := by simp; omega
      go_enter Try.func3, Try.ntmps3
      go_wp2_with fail
      refine (known_any w).mono ?_
      rintro e w0 ⟨rfl, B0⟩
      replace B0 := hid B0
      go_wp2
      go_ret
      exact ⟨rfl, B0.out⟩
    · by_cases hl0 : 60 < l.length
      · have hd : decide ((60 : Int) < (l.length : Int)) = true := by simp; omega
        clear hl
        go_enter Try.func3, Try.ntmps3
        go_wp2_with fail
        refine (known_any w).mono ?_
        rintro e w0 ⟨rfl, B0⟩
        replace B0 := hid B0
        go_wp2
        go_ret
        exact ⟨rfl, B0.out⟩
      · have hd : decide ((60 : Int) < (l.length : Int)) = false := by simp; omega
        by_cases hl1 : 60 < a.length
        · have hd1 : decide ((60 : Int) < (a.length : Int)) = true := by simp; omega
          clear hl
          go_enter Try.func3, Try.ntmps3
          go_wp2_with fail
          refine (known_any w).mono ?_
          rintro e w0 ⟨rfl, B0⟩
          replace B0 := hid B0
          go_wp2
          go_ret
          exact ⟨rfl, B0.out⟩
        · have hd1 : decide ((60 : Int) < (a.length : Int)) = false := by simp; omega
          have hd2 : decide ((60 : Int) < (b.length : Int)) = true := by simp; omega
          clear hl
          go_enter Try.func3, Try.ntmps3
          go_wp2_with fail
          refine (known_any w).mono ?_
          rintro e w0 ⟨rfl, B0⟩
          replace B0 := hid B0
          go_wp2
          go_ret
          exact ⟨rfl, B0.out⟩
  have hd0 : decide ((60 : Int) < (l.length : Int)) = false := by simp; omega
  have hd1 : decide ((60 : Int) < (a.length : Int)) = false := by simp; omega
  have hd2 : decide ((60 : Int) < (b.length : Int)) = false := by simp; omega
  have hl0 : l.length ≤ 60 := by omega
  have hl1 : a.length ≤ 60 := by omega
  have hl2 : b.length ≤ 60 := by omega
  clear hl
  go_enter Try.func3, Try.ntmps3
  go_wp2_with fail
  refine (known_any w).mono ?_
  rintro e w0 ⟨rfl, B0⟩
  have L1 := hid (hL.out.call B0); have A1 := hid (hA.out.call B0); have b1 := hid (hB.out.call B0); have K1 := hid B0
  clear B0 hL hA hB
  go_wp2_with fail
  refine (is_any l lo lc _ rfl _ L1.out (by omega)).mono ?_
  rintro e w1 ⟨rfl, B⟩
  have L2 := hid (L1.out.call B); have A2 := hid (A1.out.call B); have b2 := hid (b1.out.call B); have K2 := hid (below_call K1.out B)
  clear B L1 A1 b1 K1
  go_wp2_with fail
  refine (rIs_any l lo lc _ rfl _ L2.out (by omega)).mono ?_
  generalize isUp l = ul
  rintro e w2 ⟨rfl, B⟩
  have A3 := hid (A2.out.call B); have b3 := hid (b2.out.call B); have K3 := hid (below_call K2.out B)
  clear B L2 A2 b2 K2
  have hne : (ul != ul) = false := by simp
  go_wp2_with fail
  refine (rIs_any a ao ac _ rfl _ A3.out (by omega)).mono ?_
  by_cases hua : Up a
  case neg =>
    rw [isUp_false.2 hua]
    rintro e w3 ⟨rfl, B⟩
    have K4 := hid (below_call K3.out B)
    clear B A3 b3 K3
    go_wp2
    go_ret
    exact ⟨rfl, K4.out⟩
  rw [isUp_true.2 hua]
  rintro e w3 ⟨rfl, B⟩
  have A4 := hid (A3.out.call B); have b4 := hid (b3.out.call B); have K4 := hid (below_call K3.out B)
  clear B A3 b3 K3
  go_wp2_with fail
  refine (rIs_any b bo bc _ rfl _ b4.out (by omega)).mono ?_
  by_cases hub : Up b
  case neg =>
    rw [isUp_false.2 hub]
    rintro e w4 ⟨rfl, B⟩
    have K5 := hid (below_call K4.out B)
    clear B A4 b4 K4
    go_wp2
    go_ret
    exact ⟨rfl, K5.out⟩
  rw [isUp_true.2 hub]
  replace hua := hid hua
  replace hub := hid hub
  rintro e w4 ⟨rfl, B⟩
  have A5 := hid (A4.out.call B); have b5 := hid (b4.out.call B); have K5 := hid (below_call K4.out B)
  clear B A4 b4 K4
  go_wp2_with fail
  refine (run_any7 a n ao ac _ rfl _ A5.out (by omega) hAf.out hua.out h4.out).mono ?_
  rintro e w5 ⟨x, ok, rfl, hr1, B⟩
  have A6 := hid (A5.out.call B); have b6 := hid (b5.out.call B); have K6 := hid (below_call K5.out B)
  clear B A5 b5 K5
  go_wp2_with fail
  refine (rrun_any7 a n ao ac _ rfl _ A6.out (by omega) hAf.out hua.out).mono ?_
  rintro e w6 ⟨x', ok', rfl, hr2, B⟩
  obtain ⟨rfl, rfl⟩ := hr1.one hr2
  have A7 := hid (A6.out.call B); have b7 := hid (b6.out.call B); have K7 := hid (below_call K6.out B)
  clear B A6 b6 K6 hr1 hr2
  have hxx : (x == x) = true := by simp
  have hoo : (ok == ok) = true := by simp
  have CH1 := hid (has_any7 a n ao ac _ rfl w6 A7.out (by omega) hua.out)
  have CH2 := hid (fun W (hW : RowAt W ao ac a) => rhas_any7 a n ao ac _ rfl W hW (by omega))
  generalize a.contains n = ch at *
  have hcc : (ch == ch) = true := by simp
  go_wp2_with fail
  refine CH1.out.mono ?_
  rintro e w7 ⟨rfl, B⟩
  have A8 := hid (A7.out.call B); have b8 := hid (b7.out.call B); have K8 := hid (below_call K7.out B)
  clear B A7 b7 K7
  go_wp2_with fail
  refine (CH2.out _ A8.out).mono ?_
  rintro e w8 ⟨rfl, rfl⟩
  clear CH1 CH2
  go_wp2_with fail
  refine (with_any7 a n ao ac _ rfl _ A8.out (by omega)).mono ?_
  rintro e w9 ⟨u, rfl, hu, B⟩
  obtain ⟨uo, uc, rfl, hU⟩ := RowAt.own hu
  have A9 := hid (A8.out.call B); have b9 := hid (b8.out.call B); have K9 := hid (below_call K8.out B)
  replace hU := hid hU
  clear B A8 b8 K8 hu
  go_wp2_with fail
  refine (rwith_any7 a n ao ac _ rfl _ A9.out (by omega)).mono ?_
  rw [withL_merge a n]
  have lM := mergeL_length a [n]
  rw [List.length_singleton] at lM
  generalize mergeL a [n] = M at *
  rintro e w10 ⟨uo2, uc2, rfl, hV, B⟩
  have A10 := hid (A9.out.call B); have b10 := hid (b9.out.call B); have U10 := hid (hU.out.call B); have K10 := hid (below_call K9.out B)
  replace hV := hid hV
  clear B A9 b9 K9 hU
  go_wp2_with fail
  refine (refSameInts_any M M _ _ _ (U10.out.at (by omega)) (hV.out.at (by omega))).mono ?_
  rw [decide_eq_true rfl]
  rintro e w11 ⟨rfl, B⟩
  have A11 := hid (A10.out.call B); have b11 := hid (b10.out.call B); have K11 := hid (below_call K10.out B)
  clear B A10 b10 K10 U10 hV
  go_wp2_with fail
  refine (without_any7 a n ao ac _ rfl _ A11.out (by omega) hAf.out h3.out).mono ?_
  have lD := dropL_length a n 1
  rintro e w12 ⟨u, rfl, hu, B⟩
  obtain ⟨do1, dc1, rfl, hU⟩ := RowAt.own hu
  have A12 := hid (A11.out.call B); have b12 := hid (b11.out.call B); have K12 := hid (below_call K11.out B)
  replace hU := hid hU
  clear B A11 b11 K11 hu
  go_wp2_with fail
  refine (rwithout_any7 a n ao ac _ rfl _ A12.out (by omega)).mono ?_
  generalize dropL a n 1 = D at *
  rintro e w13 ⟨u, rfl, hu, B⟩
  obtain ⟨do2, dc2, rfl, hV⟩ := RowAt.own hu
  have A13 := hid (A12.out.call B); have b13 := hid (b12.out.call B); have U13 := hid (hU.out.call B); have K13 := hid (below_call K12.out B)
  replace hV := hid hV
  clear B A12 b12 K12 hu hU
  go_wp2_with fail
  refine (refSameInts_any D D _ _ _ (U13.out.at (by omega)) (hV.out.at (by omega))).mono ?_
  rw [decide_eq_true rfl]
  rintro e w14 ⟨rfl, B⟩
  have A14 := hid (A13.out.call B); have b14 := hid (b13.out.call B); have K14 := hid (below_call K13.out B)
  clear B A13 b13 K13 U13 hV
  go_wp2_with fail
  refine (both_any a b ao bo ac bc _ _ rfl rfl _ A14.out b14.out (by omega)).mono ?_
  have lG := mergeL_length a b
  rintro e w15 ⟨u, rfl, hu, B⟩
  obtain ⟨go1, gc1, rfl, hU⟩ := RowAt.own hu
  have A15 := hid (A14.out.call B); have b15 := hid (b14.out.call B); have K15 := hid (below_call K14.out B)
  replace hU := hid hU
  clear B A14 b14 K14 hu
  go_wp2_with fail
  refine (rboth_any7 a b ao bo ac bc _ _ rfl rfl _ A15.out b15.out (by omega)).mono ?_
  rw [foldW_merge a b hua.out hub.out]
  generalize mergeL a b = G at *
  rintro e w16 ⟨go2, gc2, rfl, hV, B⟩
  have A16 := hid (A15.out.call B); have U16 := hid (hU.out.call B); have K16 := hid (below_call K15.out B)
  replace hV := hid hV
  clear B A15 b15 K15 hU
  go_wp2_with fail
  refine (refSameInts_any G G _ _ _ (U16.out.at (by omega)) (hV.out.at (by omega))).mono ?_
  rw [decide_eq_true rfl]
  rintro e w17 ⟨rfl, B⟩
  have A17 := hid (A16.out.call B); have K17 := hid (below_call K16.out B)
  clear B A16 K16 U16 hV
  go_wp2_with fail
  refine (far_any n m _).mono ?_
  rintro e w18 ⟨⟨fb, rfl⟩, rfl⟩
  cases fb with
  | true =>
    go_wp2
    go_ret
    exact ⟨rfl, K17.out⟩
  | false =>
    go_wp2_with fail
    refine (drop_any7 a n m ao ac _ rfl _ A17.out (by omega) hAf.out h3.out h6.out).mono ?_
    have lD2 := dropL_length a n m
    rintro e w19 ⟨u, rfl, hu, B⟩
    obtain ⟨eo1, ec1, rfl, hU⟩ := RowAt.own hu
    have A19 := hid (A17.out.call B); have K19 := hid (below_call K17.out B)
    replace hU := hid hU
    clear B A17 K17 hu
    go_wp2_with fail
    refine (rdrop_any7 a n m ao ac _ rfl _ A19.out (by omega) hAf.out h3.out h6.out).mono ?_
    generalize dropL a n m = E at *
    rintro e w20 ⟨u, rfl, hu, B⟩
    obtain ⟨eo2, ec2, rfl, hV⟩ := RowAt.own hu
    have U20 := hid (hU.out.call B); have K20 := hid (below_call K19.out B)
    replace hV := hid hV
    clear B A19 K19 hu hU
    go_wp2_with fail
    refine (refSameInts_any E E _ _ _ (U20.out.at (by omega)) (hV.out.at (by omega))).mono ?_
    rw [decide_eq_true rfl]
    rintro e w21 ⟨rfl, B⟩
    have K21 := hid (below_call K20.out B)
    clear B K20 U20 hV
    go_wp2
    go_ret
    exact ⟨rfl, K21.out⟩
end Go.Proofs.Ytdjhlgcbjdohiaa
