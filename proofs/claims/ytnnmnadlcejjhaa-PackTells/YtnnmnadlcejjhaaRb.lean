/- Contract of the reference Cut of package copyholdref1: Text. -/
import Derived.Test.YtnnmnadlcejjhaaRa
import Derived.Deep.QuietTactic
import Derived.BigQuiet
namespace Go.Proofs.Ytnnmnadlcejjhaa
open Go.RowKit

theorem or_two (a b : Nat) (ha : a < 256) (hb : b < 256) : bits .or .i64 (a : Int) ((b : Int) * 256) = ((a + 256 * b : Nat) : Int) := by
  rw [show (b : Int) * 256 = ((b * 256 : Nat) : Int) by omega]
  show IntKind.i64.wrap ((BitVec.ofInt 64 (a : Int) ||| BitVec.ofInt 64 ((b * 256 : Nat) : Int)).toNat : Int) = _
  rw [BitVec.toNat_or, ofInt_u64 a (by omega), ofInt_u64 (b * 256) (by omega), Nat.or_comm, nat_join 8 (b * 256) a (by simp) (by omega), IntWalk.i64_in _ (by omega)]
  omega
theorem textN_two (l : List UInt8) (h : 2 ≤ l.length) : textN l = l[0].toNat + 256 * l[1].toNat := by
  match l, h with
  | a :: b :: r, _ => simp [textN, leN]
theorem idx_list (l : List UInt8) (i : Nat) (h : i < l.length) (w : World) : (Instr.index 9 (.string ⟨l.toArray⟩) (.int .i64 (i : Int))).run Try.prog w = .ok (.int .u8 (l[i].toNat : Int)) w := by
  have hs := arr_size l
  have hi : i < (⟨l.toArray⟩ : ByteArray).size := by omega
  have : (⟨l.toArray⟩ : ByteArray)[i] = l[i] := rfl
  go_simp

theorem below_draws (w : World) (n : Nat) : Below w.heap.size w (w.drewN n) := ⟨rfl, rfl, rfl, Nat.le_refl _, fun _ _ => rfl⟩
theorem ref_drewN {w : World} {b : Nat} {l : List UInt8} {sh : Bool} (h : RefAt w b l sh) (n : Nat) : RefAt (w.drewN n) b l sh := by
  unfold RefAt at *
  simpa using h
theorem grown_two {a b c : World} {k : Nat} (h : a.grownBy b (some k)) (g : b.grownBy c (some k)) : a.grownBy c (some k) :=
  ⟨g.os.trans h.os, g.tape.trans h.tape, g.output.trans h.output, Nat.le_trans h.size g.size, fun i hi hne => (g.block i (Nat.lt_of_lt_of_le hi h.size) hne).trans (h.block i hi hne)⟩

set_option maxHeartbeats 400000 in
theorem refText_any (b : Nat) (l : List UInt8) (sh : Bool) (w : World) (h : RefAt w b l sh) (hm : l.length ≤ maxLen) :
    Calls Try.prog 18 #[.pointer (some ⟨b, 0, none⟩)] w fun e w' => e = .returned (.string ⟨(textV l sh).toArray⟩) ∧ RefAt w' b (textL l sh) (!textOk l sh) ∧ w.grownBy w' (some b) := by
  have hm0 := hm
  unfold maxLen at hm
  have hz := arr_size l
  obtain ⟨hc0, hc1, hf0, hf1⟩ := cells_ref h
  have HS : Hid _ := ref_short h
  by_cases h2 : sh = true ∨ l.length < 2
  · have hok : textOk l sh = false := by
      rcases h2 with h2 | h2
      · simp [textOk, h2]
      · simp [textOk]; omega
    have HOK : Hid _ := hok
    clear hok
    cases sh
    · have hlt : l.length < 2 := by simpa using h2
      clear h2 h
      go_enter Try.func18, Try.ntmps18
      go_wp2
      go_ret
      exact ⟨by simp [textV, HOK.out], by simp [textL, HOK.out]; exact HS.out, grown_setCell _ _ _ _⟩
    · clear h2 h
      go_enter Try.func18, Try.ntmps18
      go_wp2
      go_ret
      exact ⟨by simp [textV, HOK.out], by simp [textL, HOK.out]; exact HS.out, grown_setCell _ _ _ _⟩
  · have hsh : sh = false := by cases sh <;> simp_all
    subst hsh
    have hge : 2 ≤ l.length := by simpa using h2
    clear h2
    have x0 := idx_list l 0 (by omega)
    have x1 := idx_list l 1 (by omega)
    have hb0 := l[0].toNat_lt
    have hb1 := l[1].toNat_lt
    have HN : Hid (textN l = l[0].toNat + 256 * l[1].toNat) := textN_two l hge
    generalize l[0].toNat = a0 at *
    generalize l[1].toNat = a1 at *
    simp only [Int.cast_ofNat_Int] at x0 x1
    have ho := or_two a0 a1 hb0 hb1
    rw [← HN.out] at ho
    have hn5 := leN_two_le l
    clear HN
    by_cases hlt : l.length < 2 + textN l
    · have HOK : Hid (textOk l false = false) := by show _ = _; simp [textOk]; omega
      have H : Hid _ := h
      clear h HS
      go_enter Try.func18, Try.ntmps18
      go_wp2
      go_quiet (fail)
      go_wp2_with fail
      go_ret
      exact ⟨by simp [textV, HOK.out], by simp [textL, HOK.out]; exact ref_short (ref_drewN H.out nq), grown_of_below (below_draws w nq) rfl (grown_setCell _ _ _ _)⟩
    · have HOK : Hid (textOk l false = true) := by show _ = _; simp [textOk]; omega
      have H : Hid _ := h
      have hE := arr_drop l 2 l.length (Nat.le_refl _)
      clear h HS
      go_enter Try.func18, Try.ntmps18
      go_wp2
      go_quiet (fail)
      go_wp2_with fail
      refine (refTake_ok b (textN l) (l.drop 2) _ (ref_taken (ref_drewN H.out nq)) (by simp; omega) (by simp; omega)).mono ?_
      rintro e w2 ⟨rfl, h2, hg2⟩
      have H2 : Hid _ := h2
      have HG : Hid _ := hg2
      clear h2 hg2
      go_wp2
      go_ret
      refine ⟨by simp [textV, HOK.out], ?_, grown_of_below (below_draws w nq) rfl (grown_two (grown_setCell _ _ _ _) HG.out)⟩
      simp [textL, HOK.out]
      have h3 := H2.out
      rw [List.drop_drop] at h3
      exact h3
end Go.Proofs.Ytnnmnadlcejjhaa
