/- MetaTells, walked: bytes, places, first metas and what is chosen are the reference's. -/
import Derived.Test.YtgnmjdcmaahlnaaGreatXq
import Derived.RegionTactic
import Derived.ChangeAlike
namespace Go.Proofs.YtgnmjdcmaahlnaaGreat
open Go.RowKit Go.Sort

theorem eqMetaV (a1 a2 a3 a4 a5 a6 : Int) (w : World) : (binOp .eql 26 (.agg #[.int .u64 a1, .int .i64 a2, .int .i64 a3, .int .i64 a4, .int .i64 a5, .int .i64 a6]) (.agg #[.int .u64 a1, .int .i64 a2, .int .i64 a3, .int .i64 a4, .int .i64 a5, .int .i64 a6])).run Tryz.prog w = .ok (.bool true) w := by
  go_simp
/-- The meta that is given, in its box. -/
structure OneM (w X : World) (cs : Array Value) : Prop where
  box : X.heap[w.heap.size]? = some (.cells cs 26 (0, 0))
  below : Below w.heap.size w X
theorem OneM.lt {w X : World} {cs : Array Value} (h : OneM w X cs) : w.heap.size < X.heap.size := (Array.getElem?_eq_some_iff.1 h.box).1
theorem OneM.go {w X Y : World} {cs : Array Value} (h : OneM w X cs) (hb : Below X.heap.size X Y) : OneM w Y cs := ⟨(hb.block _ h.lt).trans h.box, h.below.trans (hb.mono h.below.size)⟩
theorem oneM_start (w : World) (cs : Array Value) : OneM w (w.alloc (.cells cs 26)) cs := ⟨heap_newL w _, (Below.refl _ _).alloc (Nat.le_refl _) _⟩

set_option maxRecDepth 100000 in
set_option maxHeartbeats 8000000 in
theorem mt_biga (m1 m2 m3 m4 m5 m6 i : Int) (a b : ByteArray) (w : World) (ha : a.size ≤ maxLen) (hz : 1000 < a.size) :
    Calls Tryz.prog 3 #[.agg #[.int .u64 m1, .int .i64 m2, .int .i64 m3, .int .i64 m4, .int .i64 m5, .int .i64 m6], .int .i64 i, .string a, .string b] w fun e w' => e = .returned (.bool true) ∧ Below w.heap.size w w' := by
  unfold maxLen at ha
  have HT0 := hid (oneM_start w #[.int .u64 m1, .int .i64 m2, .int .i64 m3, .int .i64 m4, .int .i64 m5, .int .i64 m6])
  go_enter Tryz.func3, Tryz.ntmps3
  go_wp2_with fail
  refine (known_any _).mono ?_
  rintro e w1 ⟨rfl, hb1⟩
  have HT1 := hid (HT0.out.go hb1)
  clear hb1 HT0
  go_wp2
  go_ret
  exact ⟨rfl, HT1.out.below⟩

set_option maxRecDepth 100000 in
set_option maxHeartbeats 8000000 in
theorem mt_bigb (m1 m2 m3 m4 m5 m6 i : Int) (a b : ByteArray) (w : World) (ha : a.size ≤ maxLen) (hb : b.size ≤ maxLen) (hz0 : ¬ 1000 < a.size) (hz : 1000 < b.size) :
    Calls Tryz.prog 3 #[.agg #[.int .u64 m1, .int .i64 m2, .int .i64 m3, .int .i64 m4, .int .i64 m5, .int .i64 m6], .int .i64 i, .string a, .string b] w fun e w' => e = .returned (.bool true) ∧ Below w.heap.size w w' := by
  unfold maxLen at ha hb
  have HT0 := hid (oneM_start w #[.int .u64 m1, .int .i64 m2, .int .i64 m3, .int .i64 m4, .int .i64 m5, .int .i64 m6])
  go_enter Tryz.func3, Tryz.ntmps3
  go_wp2_with fail
  refine (known_any _).mono ?_
  rintro e w1 ⟨rfl, hb1⟩
  have HT1 := hid (HT0.out.go hb1)
  clear hb1 HT0
  go_wp2
  go_ret
  exact ⟨rfl, HT1.out.below⟩

set_option maxRecDepth 100000 in
set_option maxHeartbeats 8000000 in
theorem mt_true (m1 m2 m3 m4 m5 m6 i : Int) (a b : ByteArray) (w : World) (hm0 : 0 ≤ m1) (hm1 : m1 < 18446744073709551616) (ha : a.size ≤ maxLen) (hb : b.size ≤ maxLen) (hz0 : ¬ 1000 < a.size) (hz1 : ¬ 1000 < b.size) (ht : (pickM (chooseL a.data.toList b.data.toList)).2 = true) :
    Calls Tryz.prog 3 #[.agg #[.int .u64 m1, .int .i64 m2, .int .i64 m3, .int .i64 m4, .int .i64 m5, .int .i64 m6], .int .i64 i, .string a, .string b] w fun e w' => e = .returned (.bool true) ∧ Below w.heap.size w w' := by
  have HC := hid (fun W => choose_any a b W ha hb)
  have HD := hid (fun W => rchoose_any a b W ha hb)
  rw [ht] at HC HD
  have HB := hid (fun W => metaBytes_any ⟨m1, ⟨m2, m3, m4⟩, m5, m6⟩ W ⟨hm0, hm1⟩)
  have HBR := hid (fun W => rmetaBytes_any ⟨m1, ⟨m2, m3, m4⟩, m5, m6⟩ W ⟨hm0, hm1⟩)
  have HF := hid (fun W => fresh_any i W)
  have HFR := hid (fun W => rfresh_any i W)
  have HP := hid (fun W => place_any m1 W hm0 hm1)
  have HPR := hid (fun W => rplace_any m1 W hm0 hm1)
  generalize freshM i = FM at *
  obtain ⟨f1, ⟨f2, f3, f4⟩, f5, f6⟩ := FM
  generalize (pickM (chooseL a.data.toList b.data.toList)).1 = M at *
  obtain ⟨n1, ⟨n2, n3, n4⟩, n5, n6⟩ := M
  generalize bs (metaB ⟨m1, ⟨m2, m3, m4⟩, m5, m6⟩) = BM at *
  unfold maxLen at ha hb
  generalize m1 % 2 = pm at *
  clear hm0 hm1 ht
  have HT0 := hid (oneM_start w #[.int .u64 m1, .int .i64 m2, .int .i64 m3, .int .i64 m4, .int .i64 m5, .int .i64 m6])
  go_enter Tryz.func3, Tryz.ntmps3
  go_wp2_with fail
  refine (known_any _).mono ?_
  rintro e w1 ⟨rfl, hb1⟩
  have HT1 := hid (HT0.out.go hb1)
  clear hb1 HT0
  go_wp2_with fail
  refine (HC.out _).mono ?_
  rintro e w2 ⟨rfl, hb2⟩
  have bA := (Below.refl w2.heap.size w2).alloc (Nat.le_refl _) (.cells #[.int .u64 n1, .int .i64 n2, .int .i64 n3, .int .i64 n4, .int .i64 n5, .int .i64 n6] 26)
  have HT2 := hid ((HT1.out.go hb2).go bA)
  have HN2 := hid (heap_newL w2 (.cells #[.int .u64 n1, .int .i64 n2, .int .i64 n3, .int .i64 n4, .int .i64 n5, .int .i64 n6] 26))
  clear HT1 hb2 bA HC
  simp only [metaA, errM]
  go_wp2_with fail
  generalize (w2.alloc (.cells #[.int .u64 n1, .int .i64 n2, .int .i64 n3, .int .i64 n4, .int .i64 n5, .int .i64 n6] 26)) = W2 at *
  generalize w2.heap.size = PX at *
  refine (HD.out _).mono ?_
  rintro e w3 ⟨rfl, hb3⟩
  have bA := (Below.refl w3.heap.size w3).alloc (Nat.le_refl _) (.cells #[.int .u64 n1, .int .i64 n2, .int .i64 n3, .int .i64 n4, .int .i64 n5, .int .i64 n6] 26)
  have b23 := hb3.trans (bA.mono hb3.size)
  have HT3 := hid (HT2.out.go b23)
  have HNX := hid ((b23.block PX (Array.getElem?_eq_some_iff.1 HN2.out).1).trans HN2.out)
  have HNY := hid (heap_newL w3 (.cells #[.int .u64 n1, .int .i64 n2, .int .i64 n3, .int .i64 n4, .int .i64 n5, .int .i64 n6] 26))
  clear HT2 hb3 bA b23 HN2 HD
  simp only [metaA, numM]
  go_wp2_with fail
  generalize (w3.alloc (.cells #[.int .u64 n1, .int .i64 n2, .int .i64 n3, .int .i64 n4, .int .i64 n5, .int .i64 n6] 26)) = X at *
  generalize w3.heap.size = PY at *
  have cX := fun d os => cell_rowL (((below_regrown X d os).block PX (Array.getElem?_eq_some_iff.1 HNX.out).1).trans HNX.out)
  have cY := fun d os => cell_rowL (((below_regrown X d os).block PY (Array.getElem?_eq_some_iff.1 HNY.out).1).trans HNY.out)
  have cA := fun d os => cell_rowL (((below_regrown X d os).block w.heap.size HT3.out.lt).trans HT3.out.box)
  have same_below : ∀ {W : World} {n : Nat} {args : Array Value} {v : Value}, Calls Tryz.prog n args W (fun e w' => e = .returned v ∧ w' = W) → Calls Tryz.prog n args W (fun e w' => e = .returned v ∧ Below W.heap.size W w') := fun h => h.mono (by rintro e w' ⟨rfl, rfl⟩; exact ⟨rfl, Below.refl _ _⟩)
  have G1 : Hid (∀ d os, Calls Tryz.prog 7 #[.agg #[.int .u64 m1, .int .i64 m2, .int .i64 m3, .int .i64 m4, .int .i64 m5, .int .i64 m6]] (grow (redrawn X d) os) fun e w'' => e = .returned (.string BM) ∧ ∃ p : Regrown, w'' = grow (redrawn X p.d) p.os) := hid (fun d os => Calls.regrown_of (HB.out _))
  have G2 : Hid (∀ d os, Calls Tryz.prog 8 #[.agg #[.int .u64 m1, .int .i64 m2, .int .i64 m3, .int .i64 m4, .int .i64 m5, .int .i64 m6]] (grow (redrawn X d) os) fun e w'' => e = .returned (.string BM) ∧ ∃ p : Regrown, w'' = grow (redrawn X p.d) p.os) := hid (fun d os => Calls.regrown_of (HBR.out _))
  have G3 : Hid (∀ d os, Calls Tryz.prog 9 #[.int .u64 m1] (grow (redrawn X d) os) fun e w'' => e = .returned (.int .i64 pm) ∧ ∃ p : Regrown, w'' = grow (redrawn X p.d) p.os) := hid (fun d os => Calls.regrown_of (same_below (HP.out _)))
  have G4 : Hid (∀ d os, Calls Tryz.prog 10 #[.int .u64 m1] (grow (redrawn X d) os) fun e w'' => e = .returned (.int .i64 pm) ∧ ∃ p : Regrown, w'' = grow (redrawn X p.d) p.os) := hid (fun d os => Calls.regrown_of (same_below (HPR.out _)))
  have G5 : Hid (∀ d os, Calls Tryz.prog 11 #[.int .i64 i] (grow (redrawn X d) os) fun e w'' => e = .returned (.agg #[.int .u64 f1, .int .i64 f2, .int .i64 f3, .int .i64 f4, .int .i64 f5, .int .i64 f6]) ∧ ∃ p : Regrown, w'' = grow (redrawn X p.d) p.os) := hid (fun d os => Calls.regrown_of (HF.out _))
  have G6 : Hid (∀ d os, Calls Tryz.prog 12 #[.int .i64 i] (grow (redrawn X d) os) fun e w'' => e = .returned (.agg #[.int .u64 f1, .int .i64 f2, .int .i64 f3, .int .i64 f4, .int .i64 f5, .int .i64 f6]) ∧ ∃ p : Regrown, w'' = grow (redrawn X p.d) p.os) := hid (fun d os => Calls.regrown_of (HFR.out _))
  have G7 : Hid (∀ d os, Calls Tryz.prog 13 #[.iface 38 (.int .i64 12), .iface 38 (.int .i64 12)] (grow (redrawn X d) os) fun e w'' => e = .returned (.bool true) ∧ ∃ p : Regrown, w'' = grow (redrawn X p.d) p.os) := hid (fun d os => Calls.regrown_of (same_below (is_same _)))
  have hnl := Tryz.eqNilNil
  have hel := Tryz.eqNil
  have heqf := eqMetaV f1 f2 f3 f4 f5 f6
  have heqn := eqMetaV n1 n2 n3 n4 n5 n6
  have HB3 := hid HT3.out.below
  clear same_below HB HBR HP HPR HF HFR HT3 HNX HNY hz0 hz1 ha hb
  refine wp_region_quiet_below (by kernel_rfl) (by kernel_rfl) ?_
  repeat (go_big_quiet_step (first | exact G1.out _ _ | exact G2.out _ _ | exact G3.out _ _ | exact G4.out _ _ | exact G5.out _ _ | exact G6.out _ _ | exact G7.out _ _))
  refine wpQuiet_nil ?_
  intro _ hw'
  obtain ⟨⟨dq, osq⟩, hw''⟩ := hw'
  subst hw''
  have HB6 := hid (HB3.out.trans ((below_regrown X dq osq).mono HB3.out.size))
  clear cX cY cA G1 G2 G3 G4 G5 G6 G7
  generalize grow (redrawn X dq) osq = Y at *
  go_wp2
  go_ret
  exact ⟨rfl, HB6.out⟩

set_option maxRecDepth 100000 in
set_option maxHeartbeats 8000000 in
theorem mt_false (m1 m2 m3 m4 m5 m6 i : Int) (a b : ByteArray) (w : World) (hm0 : 0 ≤ m1) (hm1 : m1 < 18446744073709551616) (ha : a.size ≤ maxLen) (hb : b.size ≤ maxLen) (hz0 : ¬ 1000 < a.size) (hz1 : ¬ 1000 < b.size) (ht : (pickM (chooseL a.data.toList b.data.toList)).2 = false) :
    Calls Tryz.prog 3 #[.agg #[.int .u64 m1, .int .i64 m2, .int .i64 m3, .int .i64 m4, .int .i64 m5, .int .i64 m6], .int .i64 i, .string a, .string b] w fun e w' => e = .returned (.bool true) ∧ Below w.heap.size w w' := by
  have HC := hid (fun W => choose_any a b W ha hb)
  have HD := hid (fun W => rchoose_any a b W ha hb)
  rw [ht] at HC HD
  have HB := hid (fun W => metaBytes_any ⟨m1, ⟨m2, m3, m4⟩, m5, m6⟩ W ⟨hm0, hm1⟩)
  have HBR := hid (fun W => rmetaBytes_any ⟨m1, ⟨m2, m3, m4⟩, m5, m6⟩ W ⟨hm0, hm1⟩)
  have HF := hid (fun W => fresh_any i W)
  have HFR := hid (fun W => rfresh_any i W)
  have HP := hid (fun W => place_any m1 W hm0 hm1)
  have HPR := hid (fun W => rplace_any m1 W hm0 hm1)
  generalize freshM i = FM at *
  obtain ⟨f1, ⟨f2, f3, f4⟩, f5, f6⟩ := FM
  generalize (pickM (chooseL a.data.toList b.data.toList)).1 = M at *
  obtain ⟨n1, ⟨n2, n3, n4⟩, n5, n6⟩ := M
  generalize bs (metaB ⟨m1, ⟨m2, m3, m4⟩, m5, m6⟩) = BM at *
  unfold maxLen at ha hb
  generalize m1 % 2 = pm at *
  clear hm0 hm1 ht
  have HT0 := hid (oneM_start w #[.int .u64 m1, .int .i64 m2, .int .i64 m3, .int .i64 m4, .int .i64 m5, .int .i64 m6])
  go_enter Tryz.func3, Tryz.ntmps3
  go_wp2_with fail
  refine (known_any _).mono ?_
  rintro e w1 ⟨rfl, hb1⟩
  have HT1 := hid (HT0.out.go hb1)
  clear hb1 HT0
  go_wp2_with fail
  refine (HC.out _).mono ?_
  rintro e w2 ⟨rfl, hb2⟩
  have bA := (Below.refl w2.heap.size w2).alloc (Nat.le_refl _) (.cells #[.int .u64 n1, .int .i64 n2, .int .i64 n3, .int .i64 n4, .int .i64 n5, .int .i64 n6] 26)
  have HT2 := hid ((HT1.out.go hb2).go bA)
  have HN2 := hid (heap_newL w2 (.cells #[.int .u64 n1, .int .i64 n2, .int .i64 n3, .int .i64 n4, .int .i64 n5, .int .i64 n6] 26))
  clear HT1 hb2 bA HC
  simp only [metaA, errM]
  go_wp2_with fail
  generalize (w2.alloc (.cells #[.int .u64 n1, .int .i64 n2, .int .i64 n3, .int .i64 n4, .int .i64 n5, .int .i64 n6] 26)) = W2 at *
  generalize w2.heap.size = PX at *
  refine (HD.out _).mono ?_
  rintro e w3 ⟨rfl, hb3⟩
  have bA := (Below.refl w3.heap.size w3).alloc (Nat.le_refl _) (.cells #[.int .u64 n1, .int .i64 n2, .int .i64 n3, .int .i64 n4, .int .i64 n5, .int .i64 n6] 26)
  have b23 := hb3.trans (bA.mono hb3.size)
  have HT3 := hid (HT2.out.go b23)
  have HNX := hid ((b23.block PX (Array.getElem?_eq_some_iff.1 HN2.out).1).trans HN2.out)
  have HNY := hid (heap_newL w3 (.cells #[.int .u64 n1, .int .i64 n2, .int .i64 n3, .int .i64 n4, .int .i64 n5, .int .i64 n6] 26))
  clear HT2 hb3 bA b23 HN2 HD
  simp only [metaA, numM]
  go_wp2_with fail
  generalize (w3.alloc (.cells #[.int .u64 n1, .int .i64 n2, .int .i64 n3, .int .i64 n4, .int .i64 n5, .int .i64 n6] 26)) = X at *
  generalize w3.heap.size = PY at *
  have cX := fun d os => cell_rowL (((below_regrown X d os).block PX (Array.getElem?_eq_some_iff.1 HNX.out).1).trans HNX.out)
  have cY := fun d os => cell_rowL (((below_regrown X d os).block PY (Array.getElem?_eq_some_iff.1 HNY.out).1).trans HNY.out)
  have cA := fun d os => cell_rowL (((below_regrown X d os).block w.heap.size HT3.out.lt).trans HT3.out.box)
  have same_below : ∀ {W : World} {n : Nat} {args : Array Value} {v : Value}, Calls Tryz.prog n args W (fun e w' => e = .returned v ∧ w' = W) → Calls Tryz.prog n args W (fun e w' => e = .returned v ∧ Below W.heap.size W w') := fun h => h.mono (by rintro e w' ⟨rfl, rfl⟩; exact ⟨rfl, Below.refl _ _⟩)
  have G1 : Hid (∀ d os, Calls Tryz.prog 7 #[.agg #[.int .u64 m1, .int .i64 m2, .int .i64 m3, .int .i64 m4, .int .i64 m5, .int .i64 m6]] (grow (redrawn X d) os) fun e w'' => e = .returned (.string BM) ∧ ∃ p : Regrown, w'' = grow (redrawn X p.d) p.os) := hid (fun d os => Calls.regrown_of (HB.out _))
  have G2 : Hid (∀ d os, Calls Tryz.prog 8 #[.agg #[.int .u64 m1, .int .i64 m2, .int .i64 m3, .int .i64 m4, .int .i64 m5, .int .i64 m6]] (grow (redrawn X d) os) fun e w'' => e = .returned (.string BM) ∧ ∃ p : Regrown, w'' = grow (redrawn X p.d) p.os) := hid (fun d os => Calls.regrown_of (HBR.out _))
  have G3 : Hid (∀ d os, Calls Tryz.prog 9 #[.int .u64 m1] (grow (redrawn X d) os) fun e w'' => e = .returned (.int .i64 pm) ∧ ∃ p : Regrown, w'' = grow (redrawn X p.d) p.os) := hid (fun d os => Calls.regrown_of (same_below (HP.out _)))
  have G4 : Hid (∀ d os, Calls Tryz.prog 10 #[.int .u64 m1] (grow (redrawn X d) os) fun e w'' => e = .returned (.int .i64 pm) ∧ ∃ p : Regrown, w'' = grow (redrawn X p.d) p.os) := hid (fun d os => Calls.regrown_of (same_below (HPR.out _)))
  have G5 : Hid (∀ d os, Calls Tryz.prog 11 #[.int .i64 i] (grow (redrawn X d) os) fun e w'' => e = .returned (.agg #[.int .u64 f1, .int .i64 f2, .int .i64 f3, .int .i64 f4, .int .i64 f5, .int .i64 f6]) ∧ ∃ p : Regrown, w'' = grow (redrawn X p.d) p.os) := hid (fun d os => Calls.regrown_of (HF.out _))
  have G6 : Hid (∀ d os, Calls Tryz.prog 12 #[.int .i64 i] (grow (redrawn X d) os) fun e w'' => e = .returned (.agg #[.int .u64 f1, .int .i64 f2, .int .i64 f3, .int .i64 f4, .int .i64 f5, .int .i64 f6]) ∧ ∃ p : Regrown, w'' = grow (redrawn X p.d) p.os) := hid (fun d os => Calls.regrown_of (HFR.out _))
  have G7 : Hid (∀ d os, Calls Tryz.prog 13 #[.iface 38 (.int .i64 12), .iface 38 (.int .i64 12)] (grow (redrawn X d) os) fun e w'' => e = .returned (.bool true) ∧ ∃ p : Regrown, w'' = grow (redrawn X p.d) p.os) := hid (fun d os => Calls.regrown_of (same_below (is_same _)))
  have hnl := Tryz.eqNilNil
  have hel := Tryz.eqNil
  have heqf := eqMetaV f1 f2 f3 f4 f5 f6
  have heqn := eqMetaV n1 n2 n3 n4 n5 n6
  have HB3 := hid HT3.out.below
  clear same_below HB HBR HP HPR HF HFR HT3 HNX HNY hz0 hz1 ha hb
  refine wp_region_quiet_below (by kernel_rfl) (by kernel_rfl) ?_
  repeat (go_big_quiet_step (first | exact G1.out _ _ | exact G2.out _ _ | exact G3.out _ _ | exact G4.out _ _ | exact G5.out _ _ | exact G6.out _ _ | exact G7.out _ _))
  refine wpQuiet_nil ?_
  intro _ hw'
  obtain ⟨⟨dq, osq⟩, hw''⟩ := hw'
  subst hw''
  have HB6 := hid (HB3.out.trans ((below_regrown X dq osq).mono HB3.out.size))
  clear cX cY cA G1 G2 G3 G4 G5 G6 G7
  generalize grow (redrawn X dq) osq = Y at *
  go_wp2
  go_ret
  exact ⟨rfl, HB6.out⟩

theorem metaTells_law (m : MetaD) (i : Int) (a b : ByteArray) (w : World) (hm : MOk m) (ha : a.size ≤ maxLen) (hb : b.size ≤ maxLen) :
    Calls Tryz.prog 3 #[metaA m, .int .i64 i, .string a, .string b] w fun e w' => e = .returned (.bool true) ∧ Below w.heap.size w w' := by
  obtain ⟨m1, ⟨m2, m3, m4⟩, m5, m6⟩ := m
  by_cases hz0 : 1000 < a.size
  · exact mt_biga _ _ _ _ _ _ i a b w ha hz0
  by_cases hz1 : 1000 < b.size
  · exact mt_bigb _ _ _ _ _ _ i a b w ha hb hz0 hz1
  cases ht : (pickM (chooseL a.data.toList b.data.toList)).2
  · exact mt_false _ _ _ _ _ _ i a b w hm.1 hm.2 ha hb hz0 hz1 ht
  · exact mt_true _ _ _ _ _ _ i a b w hm.1 hm.2 ha hb hz0 hz1 ht
end Go.Proofs.YtgnmjdcmaahlnaaGreat
