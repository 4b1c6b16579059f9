/- ProcsMany: as many as may be live, and one more; one dead, there is room, by a new number. -/
import Derived.Test.YteafananeopigaaYk
namespace Go.Proofs.Yteafananeopigaa
open Go.RowKit

/-- The first so many numbers. -/
def upL : Nat → List Int
  | 0 => []
  | k + 1 => upL k ++ [(k : Int) + 1]
theorem upL_length (k : Nat) : (upL k).length = k := by
  induction k with
  | zero => rfl
  | succ k ih => simp [upL, ih]
theorem upL_mem (k : Nat) (x : Int) : x ∈ upL k ↔ 1 ≤ x ∧ x ≤ k := by
  induction k with
  | zero => simp [upL]; omega
  | succ k ih => simp only [upL, List.mem_append, ih, List.mem_singleton]; omega

set_option maxRecDepth 100000 in
set_option maxHeartbeats 4000000 in
theorem many_law (a0 : Int) (w : World) (h0 : 0 ≤ a0) (h1 : a0 ≤ 255) :
    Calls Try.prog 4 #[.int .u8 a0] w fun e w' => e = .returned (.bool true) ∧ Below w.heap.size w w' := by
  obtain ⟨a, rfl⟩ : ∃ a : Nat, a0 = (a : Int) := ⟨a0.toNat, by omega⟩
  have hnil := Try.eqNilNil
  have he25 := Try.eqNil25
  have he26 := Try.eqNil26
  go_enter Try.func4, Try.ntmps4
  go_wp2_with fail
  refine (known_any w).mono ?_
  rintro e w0 ⟨rfl, B0⟩
  replace B0 := hid B0
  go_wp2_with fail
  refine (new_any w0).mono ?_
  rintro e w1 ⟨rfl, F1, B1⟩
  have HB1 := hid (B0.out.trans (B1.mono B0.out.size))
  have hbs := hid B0.out.size
  clear B1 B0
  generalize hcb : w0.heap.size = cb at *
  generalize cb + 1 = pb at *
  replace hcb := hid hcb
  replace F1 := hid F1
  go_wp2
  go_loopg [4] 64 (fun g i wr => ∃ (k : Nat) (v : Value), k + g = 64 ∧ i = .int .i64 ((k : Int) + 1) ∧ Hid (ProcsAt wr cb pb cb v k (upL k) (upL k).length) ∧ Hid (Below w.heap.size w wr))
  case atStart => exact ⟨0, _, by omega, rfl, F1, HB1⟩
  case round =>
    obtain ⟨k, v, hk, rfl, hf, hb⟩ := hrel
    clear F1 HB1
    cases gk with
    | succ g =>
      have hw : IntKind.i64.wrap ((k : Int) + 1 + 1) = (k : Int) + 1 + 1 := by rw [IntKind.wrap_i64]; omega
      go_wp2_with fail
      refine (spawn_any _ cb pb cb _ k (upL k) hf.out (by rw [upL_length]; omega) (by omega)).mono ?_
      rw [show upL k ++ [(k : Int) + 1] = upL (k + 1) from rfl]
      rintro e w2 ⟨rfl, v2, F2, O2⟩
      have HB2 := hid (hb.out.trans ((O2.below hf.out).mono hbs.out))
      replace F2 := hid F2
      clear O2 hf hb
      go_wp2
      go_roundg g
      case rel => exact ⟨k + 1, v2, by omega, by go_num, by simpa using F2, HB2⟩
      case measure => omega
    | zero =>
      have hke : k = 64 := by omega
      subst hke
      obtain ⟨q, hq⟩ : ∃ q : Nat, a % 64 = q := ⟨_, rfl⟩
      have hq64 : q < 64 := by omega
      have hqi : (a : Int) % 64 = (q : Int) := by omega
      have hmem : ((q : Int) + 1) ∈ upL 64 := by rw [upL_mem]; omega
      replace hmem := hid hmem
      go_wp2_with fail
      refine (spawn_full _ cb pb cb _ _ (upL 64) hf.out (upL_length 64)).mono ?_
      rintro e w2 ⟨rfl, rfl⟩
      go_wp2_with fail
      refine (kill_any _ cb pb cb _ _ ((q : Int) + 1) (upL 64) hf.out hmem.out).mono ?_
      have hkl := killL_length (upL 64) ((q : Int) + 1) hf.out.rises hmem.out
      rw [upL_length] at hkl
      have hkm := killL_mem (upL 64) ((q : Int) + 1)
      generalize killL (upL 64) ((q : Int) + 1) = m at *
      rintro e w3 ⟨rfl, v3, F3, O3⟩
      have HB3 := hid (hb.out.trans ((O3.below hf.out).mono hbs.out))
      replace F3 := hid F3
      replace hkm := hid hkm
      clear O3 hf hb hmem
      go_wp2_with fail
      refine (spawn_any _ cb pb cb _ _ m F3.out (by omega) (by omega)).mono ?_
      rw [show ((64 : Nat) : Int) + 1 = 65 from rfl]
      rintro e w4 ⟨rfl, v4, F4, O4⟩
      have HB4 := hid (HB3.out.trans ((O4.below F3.out).mono hbs.out))
      replace F4 := hid F4
      clear O4 F3 HB3
      go_wp2_with fail
      refine (is_same26 _).mono ?_
      rintro e w5 ⟨rfl, rfl⟩
      go_wp2_with fail
      have hc : (m ++ [(65 : Int)]).contains ((q : Int) + 1) = false := by
        have : ¬ ((q : Int) + 1) ∈ m ++ [(65 : Int)] := by
          rw [List.mem_append, hkm.out]
          simp
          omega
        simpa using this
      refine (lives_any _ cb pb cb _ _ 65 ((q : Int) + 1) _ F4.out).mono ?_
      rw [hc]
      rintro e w6 ⟨rfl, Bw⟩
      have F6 := hid (F4.out.below Bw)
      have HB6 := hid (bel HB4.out Bw (by have := HB4.out.size; omega))
      clear Bw F4 HB4
      go_wp2_with fail
      refine (all_any _ cb pb cb _ _ 65 _ F6.out).mono ?_
      have hlen : (m ++ [(65 : Int)]).length = 64 := by simp; omega
      rintro e w7 ⟨lv, rfl, OL, Bw⟩
      obtain ⟨lo, lc, rfl⟩ := OL.slice
      rw [hlen]
      have HB7 := hid (bel HB6.out Bw (by have := HB6.out.size; omega))
      clear OL Bw F6 HB6
      go_wp2
      go_ret
      exact ⟨rfl, HB7.out⟩
end Go.Proofs.Yteafananeopigaa
