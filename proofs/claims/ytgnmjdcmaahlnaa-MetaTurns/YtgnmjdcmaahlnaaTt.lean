/- MetaTurns, walked. -/
import Derived.Test.YtgnmjdcmaahlnaaTe
namespace Go.Proofs.Ytgnmjdcmaahlnaa
open Go.RowKit Go.Sort

/-- A slice of truths, as it lies. -/
def IsBools (w : World) (a : Option Addr) (len : Nat) (z : Nat → Bool) : Prop :=
  ∀ i, i < len → ∃ x, a = some x ∧ w.cell? (x.add i) = some (.bool (z i))
theorem Try.elemBools : Try.prog.underlying 36 = some (.slice (Try.prog.elem 36)) := by kernel_rfl
theorem Try.sizeBools (w : World) : (Go.sizeOf (Try.prog.elem 36)).run Try.prog w = .ok 1 w := by kernel_rfl
theorem atBools {ao : Option Addr} {a : Addr} (len cap k : Nat) (ha : ao = some a) (h : k < len) (w : World) : (Instr.indexAt 36 (.slice ao len cap) (.int .i64 (k : Int))).run Try.prog w = .ok (.pointer (some (a.add k))) w := by
  subst ha
  rw [run_indexAt_slice (P := Try.prog) w 36 a len cap .i64 k Try.elemBools, if_pos (by omega), Try.sizeBools]
  simp [Result.andThen]

/-- The two texts in block S. -/
structure InT (w W : World) (S : Nat) (s0 s1 : ByteArray) : Prop where
  row : W.heap[S]? = some (.cells #[.string s0, .string s1] 38 (0, 0))
  below : Below w.heap.size w W
  hS : w.heap.size ≤ S
theorem InT.lt {w W : World} {S : Nat} {s0 s1 : ByteArray} (h : InT w W S s0 s1) : S < W.heap.size := (Array.getElem?_eq_some_iff.1 h.row).1
theorem InT.go {w W W' : World} {S : Nat} {s0 s1 : ByteArray} (h : InT w W S s0 s1) (hb : Below W.heap.size W W') : InT w W' S s0 s1 :=
  ⟨(hb.block S h.lt).trans h.row, bel h.below hb, h.hS⟩
theorem InT.new {w W : World} {S : Nat} {s0 s1 : ByteArray} (h : InT w W S s0 s1) (o : Obj) : InT w (W.alloc o) S s0 s1 := h.go ((Below.refl _ _).alloc (Nat.le_refl _) _)
theorem InT.set0 {w W : World} {S : Nat} {s0 s1 : ByteArray} (h : InT w W S s0 s1) (b : ByteArray) : InT w (W.setCell ⟨S, 0, none⟩ (.string b)) S b s1 :=
  ⟨by have := heap_setCell_same W S 0 _ 38 (.string b) h.row; simpa using this, h.below.setCell h.hS _, h.hS⟩
theorem InT.set1 {w W : World} {S : Nat} {s0 s1 : ByteArray} (h : InT w W S s0 s1) (b : ByteArray) : InT w (W.setCell ⟨S, 1, none⟩ (.string b)) S s0 b :=
  ⟨by have := heap_setCell_same W S 1 _ 38 (.string b) h.row; simpa using this, h.below.setCell h.hS _, h.hS⟩
/-- A text that is no meta in place k, or that of an elder version. -/
def Elder (s : ByteArray) (k t : Int) : Prop := sentL s.data.toList k = [] ∨ ∃ n, sentL s.data.toList k = [n] ∧ n.txn < t
def Holds (s : ByteArray) (k t : Int) : Prop := ∃ m, sentL s.data.toList k = [m] ∧ m.txn = t
/-- Version t counts. -/
def Turn (t : Int) (s0 s1 : ByteArray) : Prop := (s0.size ≤ 64 ∧ s1.size ≤ 64) ∧ ((t % 2 = 0 ∧ Holds s0 0 t ∧ Elder s1 1 t) ∨ (t % 2 = 1 ∧ Holds s1 1 t ∧ Elder s0 0 t))
theorem Turn.pick {t : Int} {s0 s1 : ByteArray} (h : Turn t s0 s1) : ∃ m, pickM (chooseL s0.data.toList s1.data.toList) = (m, true) ∧ m.txn = t := by
  unfold chooseL
  obtain ⟨_, ⟨_, ⟨m, hm, hmt⟩, he | ⟨n, hn, hnt⟩⟩ | ⟨_, ⟨m, hm, hmt⟩, he | ⟨n, hn, hnt⟩⟩⟩ := h
  · exact ⟨m, by rw [hm, he]; rfl, hmt⟩
  · exact ⟨m, by rw [hm, hn]; exact pick_two' (by omega), hmt⟩
  · exact ⟨m, by rw [hm, he]; rfl, hmt⟩
  · exact ⟨m, by rw [hm, hn]; exact pick_two (by omega), hmt⟩
theorem holds_new {t l k : Int} (h0 : 0 ≤ t) (h1 : t < 1000) (h2 : 2 ≤ l) (h3 : l ≤ 400) (hk : t % 2 = k) : Holds (bs (metaB (plainM t l))) k t := by
  refine ⟨plainM t l, ?_, rfl⟩
  rw [bs_list, sent_meta (plainM_is h2 h3) (plain_ok h0 (by omega)), if_pos (by exact hk)]
theorem Holds.elder {s : ByteArray} {k t : Int} (h : Holds s k t) : Elder s k (t + 1) := by
  obtain ⟨m, hm, hmt⟩ := h
  exact .inr ⟨m, hm, by omega⟩
theorem elder_cut {s : ByteArray} (h : s.size = 32) (k t : Int) : Elder s k t := by
  refine .inl (sent_not ?_ k)
  have : s.data.toList.length = s.size := Array.length_toList
  omega

set_option maxRecDepth 100000 in
set_option maxHeartbeats 4000000 in
theorem turns_long (a : Option Addr) (len cap : Nat) (w : World) (hl : len ≤ maxLen) (h : 60 < len) :
    Calls Try.prog 4 #[.slice a len cap] w fun e w' => e = .returned (.bool true) ∧ Below w.heap.size w w' := by
  unfold maxLen at hl
  go_enter Try.func4, Try.ntmps4
  go_wp2_with fail
  refine (known_any _).mono ?_
  rintro e w1 ⟨rfl, hb⟩
  go_wp2
  go_ret
  exact ⟨rfl, hb⟩

set_option maxRecDepth 100000 in
set_option maxHeartbeats 4000000 in
theorem turns_law (a : Option Addr) (len cap : Nat) (z : Nat → Bool) (w : World) (h : len ≤ 60) (hz : IsBools w a len z) :
    Calls Try.prog 4 #[.slice a len cap] w fun e w' => e = .returned (.bool true) ∧ Below w.heap.size w w' := by
  have HZ := hid hz
  clear hz
  have HB0 := hid (fun W => bytes_plain 0 2 W (by omega) (by omega))
  have HB1 := hid (fun W => bytes_plain 1 2 W (by omega) (by omega))
  go_enter Try.func4, Try.ntmps4
  go_wp2_with fail
  refine (known_any _).mono ?_
  rintro e w1 ⟨rfl, hb⟩
  have L1 := hid hb
  clear hb
  go_wp2_with fail
  refine (knownF0 _).mono ?_
  rintro e w2 ⟨rfl, hb⟩
  have L2 := hid (bel L1.out hb)
  clear hb L1
  go_wp2_with fail
  refine (HB0.out _).mono ?_
  rintro e w3 ⟨rfl, hb⟩
  have L3 := hid (bel L2.out hb)
  clear hb L2 HB0
  go_wp2_with fail
  refine (knownF1 _).mono ?_
  rintro e w4 ⟨rfl, hb⟩
  have L4 := hid (bel L3.out hb)
  clear hb L3
  go_wp2_with fail
  refine (HB1.out _).mono ?_
  rintro e w5 ⟨rfl, hb⟩
  have L5 := hid (bel L4.out hb)
  clear hb L4 HB1
  go_wp2_with fail
  have hS0 := heap_newL w5 (.cells #[.string (bs (metaB (plainM 0 2))), .string (bs (metaB (plainM 1 2)))] 38)
  have HI0 := hid (InT.mk (w := w) hS0 (belNew L5.out _) L5.out.size)
  have HT0 : Hid (Turn 1 (bs (metaB (plainM 0 2))) (bs (metaB (plainM 1 2)))) :=
    ⟨⟨by rw [bs_size, metaB_len (is01 0)]; omega, by rw [bs_size, metaB_len (is01 1)]; omega⟩, .inr ⟨by omega, holds_new (by omega) (by omega) (by omega) (by omega) (by omega), (holds_new (t := 0) (by omega) (by omega) (by omega) (by omega) (by omega)).elder⟩⟩
  clear hS0 L5
  generalize bs (metaB (plainM 0 2)) = S0 at *
  generalize bs (metaB (plainM 1 2)) = S1 at *
  generalize w5.alloc (.cells #[.string S0, .string S1] 38) = W5 at *
  generalize w5.heap.size = S at *
  go_loopw [4, 5] (fun tx i wr => ∃ (k : Nat) (t : Int) (s0 s1 : ByteArray), k ≤ len ∧ i = .int .i64 k ∧ tx = .int .u64 t ∧ 1 ≤ t ∧ t ≤ 1 + (k : Int) ∧ Hid (InT w wr S s0 s1) ∧ Hid (Turn t s0 s1)) (fun _ i _ => len - (intOf i).toNat)
  case atStart => exact ⟨0, 1, _, _, Nat.zero_le _, rfl, rfl, by omega, by omega, HI0, HT0⟩
  case round =>
    obtain ⟨k, t, s0, s1, hk, rfl, rfl, ht0, ht1, HI, HT⟩ := hrel
    clear HI0 HT0
    by_cases hlk : k < len
    · obtain ⟨x, rfl, hcx⟩ := HZ.out k hlk
      have hat := atBools (ao := some x) len cap k rfl hlk
      have lx : (x.add k).block < w.heap.size := World.block_lt_of_cell? w _ hcx
      have HN := hid (fun k' hk' => holds_new (t := t + 1) (l := 2 + (k : Int)) (k := k') (by omega) (by omega) (by omega) (by omega) hk')
      have HBY := hid (fun W => bytes_plain (t + 1) (2 + (k : Int)) W (by omega) (by omega))
      have zB : (bs (metaB (plainM (t + 1) (2 + (k : Int))))).size = 64 := by rw [bs_size, metaB_len (plainM_is (by omega) (by omega))]
      generalize bs (metaB (plainM (t + 1) (2 + (k : Int)))) = B at *
      have zC : (B.extract 0 32).size = 32 := by rw [ByteArray.size_extract]; omega
      by_cases hpar : t % 2 = 0
      · have hpl : (t + 1) % 2 = 1 := by omega
        have HH : Hid (Holds s0 0 t) := by
          rcases HT.out.2 with h | h
          · exact h.2.1
          · exact absurd hpar (by omega)
        cases hzk : z k
        · have HTZ : Hid (Turn (t) (s0) (B.extract 0 32)) := ⟨⟨HT.out.1.1, by omega⟩, .inl ⟨hpar, HH.out, elder_cut zC 1 t⟩⟩
          obtain ⟨m, hpick, hmt⟩ := HTZ.out.pick
          have HC := hid (fun W => chose (a := s0) (b := B.extract 0 32) (l := chooseL (s0).data.toList (B.extract 0 32).data.toList) (m := m) (t := true) W (Nat.le_trans HTZ.out.1.1 (by unfold maxLen; omega)) (Nat.le_trans HTZ.out.1.2 (by unfold maxLen; omega)) (Eq.refl _) hpick)
          clear hpick HN HH HT
          obtain ⟨m1, ⟨m2, m3, m4⟩, m5, m6⟩ := m
          obtain rfl : t = m1 := hmt.symm
          go_wp2_with fail
          refine (HBY.out _).mono ?_
          rintro e w6 ⟨rfl, hb⟩
          have HI6 := HI.out.go hb
          have cX := (HI6.below.cell lx).trans hcx
          have cS := cell_rowL HI6.row
          have fS := frozen_rowL HI6.row
          have HI7 := hid (HI6.set1 (B.extract 0 32))
          have hlt6 := HI6.lt
          replace HI6 := hid HI6
          clear hb HI HBY
          go_wp2_with fail
          refine (place_any (t + 1) _ (by omega) (by omega)).mono ?_
          rintro e w6' ⟨rfl, rfl⟩
          go_wp2_with fail
          clear cX cS fS
          refine (HC.out _).mono ?_
          rintro e w8 ⟨rfl, hb⟩
          have HI8 := hid ((HI7.out.go hb).new (.cells #[.int .u64 (t), .int .i64 m2, .int .i64 m3, .int .i64 m4, .int .i64 m5, .int .i64 m6] 26))
          simp only [metaA, errM, ↓reduceIte]
          clear hb HI7 HC HI6
          go_wp2
          go_roundw
          case rel => exact ⟨k + 1, t, _, _, by omega, by go_num, rfl, by omega, by omega, HI8, HTZ⟩
          case measure => simp [intOf]; omega
        · have HTZ : Hid (Turn (t + 1) (s0) (B)) := ⟨⟨HT.out.1.1, by omega⟩, .inr ⟨by omega, HN.out 1 hpl, HH.out.elder⟩⟩
          obtain ⟨m, hpick, hmt⟩ := HTZ.out.pick
          have HC := hid (fun W => chose (a := s0) (b := B) (l := chooseL (s0).data.toList (B).data.toList) (m := m) (t := true) W (Nat.le_trans HTZ.out.1.1 (by unfold maxLen; omega)) (Nat.le_trans HTZ.out.1.2 (by unfold maxLen; omega)) (Eq.refl _) hpick)
          clear hpick HN HH HT
          obtain ⟨m1, ⟨m2, m3, m4⟩, m5, m6⟩ := m
          obtain rfl : t + 1 = m1 := hmt.symm
          go_wp2_with fail
          refine (HBY.out _).mono ?_
          rintro e w6 ⟨rfl, hb⟩
          have HI6 := HI.out.go hb
          have cX := (HI6.below.cell lx).trans hcx
          have cS := cell_rowL HI6.row
          have fS := frozen_rowL HI6.row
          have HI7 := hid (HI6.set1 (B))
          have hlt6 := HI6.lt
          replace HI6 := hid HI6
          clear hb HI HBY
          go_wp2_with fail
          refine (place_any (t + 1) _ (by omega) (by omega)).mono ?_
          rintro e w6' ⟨rfl, rfl⟩
          go_wp2_with fail
          clear cX cS fS
          refine (HC.out _).mono ?_
          rintro e w8 ⟨rfl, hb⟩
          have HI8 := hid ((HI7.out.go hb).new (.cells #[.int .u64 (t + 1), .int .i64 m2, .int .i64 m3, .int .i64 m4, .int .i64 m5, .int .i64 m6] 26))
          simp only [metaA, errM, ↓reduceIte]
          clear hb HI7 HC HI6
          go_wp2
          go_roundw
          case rel => exact ⟨k + 1, t + 1, _, _, by omega, by go_num, rfl, by omega, by omega, HI8, HTZ⟩
          case measure => simp [intOf]; omega
      · have hpar : t % 2 = 1 := by omega
        have hpl : (t + 1) % 2 = 0 := by omega
        have HH : Hid (Holds s1 1 t) := by
          rcases HT.out.2 with h | h
          · exact absurd h.1 (by omega)
          · exact h.2.1
        cases hzk : z k
        · have HTZ : Hid (Turn (t) (B.extract 0 32) (s1)) := ⟨⟨by omega, HT.out.1.2⟩, .inr ⟨hpar, HH.out, elder_cut zC 0 t⟩⟩
          obtain ⟨m, hpick, hmt⟩ := HTZ.out.pick
          have HC := hid (fun W => chose (a := B.extract 0 32) (b := s1) (l := chooseL (B.extract 0 32).data.toList (s1).data.toList) (m := m) (t := true) W (Nat.le_trans HTZ.out.1.1 (by unfold maxLen; omega)) (Nat.le_trans HTZ.out.1.2 (by unfold maxLen; omega)) (Eq.refl _) hpick)
          clear hpick HN HH HT
          obtain ⟨m1, ⟨m2, m3, m4⟩, m5, m6⟩ := m
          obtain rfl : t = m1 := hmt.symm
          go_wp2_with fail
          refine (HBY.out _).mono ?_
          rintro e w6 ⟨rfl, hb⟩
          have HI6 := HI.out.go hb
          have cX := (HI6.below.cell lx).trans hcx
          have cS := cell_rowL HI6.row
          have fS := frozen_rowL HI6.row
          have HI7 := hid (HI6.set0 (B.extract 0 32))
          have hlt6 := HI6.lt
          replace HI6 := hid HI6
          clear hb HI HBY
          go_wp2_with fail
          refine (place_any (t + 1) _ (by omega) (by omega)).mono ?_
          rintro e w6' ⟨rfl, rfl⟩
          go_wp2_with fail
          clear cX cS fS
          refine (HC.out _).mono ?_
          rintro e w8 ⟨rfl, hb⟩
          have HI8 := hid ((HI7.out.go hb).new (.cells #[.int .u64 (t), .int .i64 m2, .int .i64 m3, .int .i64 m4, .int .i64 m5, .int .i64 m6] 26))
          simp only [metaA, errM, ↓reduceIte]
          clear hb HI7 HC HI6
          go_wp2
          go_roundw
          case rel => exact ⟨k + 1, t, _, _, by omega, by go_num, rfl, by omega, by omega, HI8, HTZ⟩
          case measure => simp [intOf]; omega
        · have HTZ : Hid (Turn (t + 1) (B) (s1)) := ⟨⟨by omega, HT.out.1.2⟩, .inl ⟨by omega, HN.out 0 hpl, HH.out.elder⟩⟩
          obtain ⟨m, hpick, hmt⟩ := HTZ.out.pick
          have HC := hid (fun W => chose (a := B) (b := s1) (l := chooseL (B).data.toList (s1).data.toList) (m := m) (t := true) W (Nat.le_trans HTZ.out.1.1 (by unfold maxLen; omega)) (Nat.le_trans HTZ.out.1.2 (by unfold maxLen; omega)) (Eq.refl _) hpick)
          clear hpick HN HH HT
          obtain ⟨m1, ⟨m2, m3, m4⟩, m5, m6⟩ := m
          obtain rfl : t + 1 = m1 := hmt.symm
          go_wp2_with fail
          refine (HBY.out _).mono ?_
          rintro e w6 ⟨rfl, hb⟩
          have HI6 := HI.out.go hb
          have cX := (HI6.below.cell lx).trans hcx
          have cS := cell_rowL HI6.row
          have fS := frozen_rowL HI6.row
          have HI7 := hid (HI6.set0 (B))
          have hlt6 := HI6.lt
          replace HI6 := hid HI6
          clear hb HI HBY
          go_wp2_with fail
          refine (place_any (t + 1) _ (by omega) (by omega)).mono ?_
          rintro e w6' ⟨rfl, rfl⟩
          go_wp2_with fail
          clear cX cS fS
          refine (HC.out _).mono ?_
          rintro e w8 ⟨rfl, hb⟩
          have HI8 := hid ((HI7.out.go hb).new (.cells #[.int .u64 (t + 1), .int .i64 m2, .int .i64 m3, .int .i64 m4, .int .i64 m5, .int .i64 m6] 26))
          simp only [metaA, errM, ↓reduceIte]
          clear hb HI7 HC HI6
          go_wp2
          go_roundw
          case rel => exact ⟨k + 1, t + 1, _, _, by omega, by go_num, rfl, by omega, by omega, HI8, HTZ⟩
          case measure => simp [intOf]; omega
    · go_wp2
      go_ret
      exact ⟨rfl, HI.out.below⟩
end Go.Proofs.Ytgnmjdcmaahlnaa
