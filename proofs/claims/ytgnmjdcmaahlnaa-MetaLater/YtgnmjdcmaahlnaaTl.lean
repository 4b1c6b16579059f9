/- MetaLater, walked, case by case. -/
import Derived.Test.YtgnmjdcmaahlnaaTe
import Derived.RegionTactic
import Derived.ChangeAlike
namespace Go.Proofs.Ytgnmjdcmaahlnaa
open Go.RowKit Go.Sort

theorem eqMeta (a1 a2 a3 a4 a5 a6 : Int) (w : World) : (binOp .eql 26 (.agg #[.int .u64 a1, .int .i64 a2, .int .i64 a3, .int .i64 a4, .int .i64 a5, .int .i64 a6]) (.agg #[.int .u64 a1, .int .i64 a2, .int .i64 a3, .int .i64 a4, .int .i64 a5, .int .i64 a6])).run Try.prog w = .ok (.bool true) w := by
  go_simp
theorem boxes2 {w X : World} {o1 o2 : Obj} (h : Below ((w.alloc o1).alloc o2).heap.size ((w.alloc o1).alloc o2) X) : X.heap[w.heap.size]? = some o1 ∧ X.heap[w.heap.size + 1]? = some o2 := by
  refine ⟨(h.block _ (by simp; omega)).trans ((Below.heap_alloc _ _ _ (by simp)).trans (heap_newL w _)), (h.block _ (by simp)).trans ?_⟩
  have := heap_newL (w.alloc o1) o2
  simpa only [World.size_alloc] using this
theorem ne_nil {X : List UInt8} (h : X.length = 64) : ((bs X).toList == []) = false := by
  rw [ByteArray.toList_eq, bs_list]
  cases X with
  | nil => simp at h
  | cons a l => rfl
theorem eq_nil : ((bs []).toList == []) = true := by rw [ByteArray.toList_eq, bs_list]; rfl

set_option maxRecDepth 100000 in
set_option maxHeartbeats 4000000 in
theorem later_x (X Y : List UInt8) (m1 m2 m3 m4 m5 m6 n1 n2 n3 n4 n5 n6 k : Int) (w : World) (_hk0 : 0 ≤ k) (_hk1 : k < 256) (_hm0 : 0 ≤ m1) (_hm1 : m1 < 18446744073709551616) (_hn0 : 0 ≤ n1) (_hn1 : n1 < 18446744073709551616)
    (HX0 : ∀ W, Calls Try.prog 7 #[.agg #[.int .u64 m1, .int .i64 m2, .int .i64 m3, .int .i64 m4, .int .i64 m5, .int .i64 m6]] W fun e w' => e = .returned (.string (bs X)) ∧ Below W.heap.size W w')
    (HY0 : ∀ W, Calls Try.prog 7 #[.agg #[.int .u64 n1, .int .i64 n2, .int .i64 n3, .int .i64 n4, .int .i64 n5, .int .i64 n6]] W fun e w' => e = .returned (.string (bs Y)) ∧ Below W.heap.size W w')
    (hX : ((bs X).toList == []) = true) :
    Calls Try.prog 3 #[.agg #[.int .u64 m1, .int .i64 m2, .int .i64 m3, .int .i64 m4, .int .i64 m5, .int .i64 m6], .agg #[.int .u64 n1, .int .i64 n2, .int .i64 n3, .int .i64 n4, .int .i64 n5, .int .i64 n6], .int .u8 k] w fun e w' => e = .returned (.bool true) ∧ Below w.heap.size w w' := by
  have HX := hid (fun W d os => Calls.regrown_of (HX0 (grow (redrawn W d) os)))
  have HY := hid (fun W d os => Calls.regrown_of (HY0 (grow (redrawn W d) os)))
  clear HX0 HY0

  go_enter Try.func3, Try.ntmps3
  go_wp2_with fail
  refine (known_any _).mono ?_
  rintro e w1 ⟨rfl, hb⟩
  obtain ⟨hM1, hN1⟩ := boxes2 hb
  have L1 := hid (((Below.refl w.heap.size w).alloc (Nat.le_refl _) (.cells #[.int .u64 m1, .int .i64 m2, .int .i64 m3, .int .i64 m4, .int .i64 m5, .int .i64 m6] 26)).alloc (by simp) (.cells #[.int .u64 n1, .int .i64 n2, .int .i64 n3, .int .i64 n4, .int .i64 n5, .int .i64 n6] 26) |>.trans (hb.mono (by simp; omega)))
  have z1 : w.heap.size + 1 < w1.heap.size := (Array.getElem?_eq_some_iff.1 hN1).1
  have hcM := fun d os => cell_rowL (((below_regrown w1 d os).block w.heap.size (by omega)).trans hM1)
  have hcN := fun d os => cell_rowL (((below_regrown w1 d os).block (w.heap.size + 1) (by omega)).trans hN1)
  clear hb
  go_wp2_with fail
  refine wp_region_quiet_below (by kernel_rfl) (by kernel_rfl) ?_
  repeat (go_big_quiet_step (first | exact HX.out _ _ _ | exact HY.out _ _ _))
  refine wpQuiet_nil ?_
  intro _ hw'
  obtain ⟨⟨dq, osq⟩, hw''⟩ := hw'
  subst hw''
  have L3 := hid (L1.out.trans ((below_regrown w1 dq osq).mono L1.out.size))
  have hM3 := ((below_regrown w1 dq osq).block w.heap.size (by omega)).trans hM1
  have hN3 := ((below_regrown w1 dq osq).block (w.heap.size + 1) (by omega)).trans hN1
  have z3 : w.heap.size + 1 < (grow (redrawn w1 dq) osq).heap.size := Nat.lt_of_lt_of_le z1 (below_regrown w1 dq osq).size
  clear hcM hcN hM1 hN1 L1 z1 HX HY
  generalize grow (redrawn w1 dq) osq = w3 at *
  have cM := cell_rowL hM3
  have cN := cell_rowL hN3
  go_wp2
  go_ret
  exact ⟨rfl, L3.out⟩

set_option maxRecDepth 100000 in
set_option maxHeartbeats 4000000 in
theorem later_y (X Y : List UInt8) (m1 m2 m3 m4 m5 m6 n1 n2 n3 n4 n5 n6 k : Int) (w : World) (_hk0 : 0 ≤ k) (_hk1 : k < 256) (_hm0 : 0 ≤ m1) (_hm1 : m1 < 18446744073709551616) (_hn0 : 0 ≤ n1) (_hn1 : n1 < 18446744073709551616)
    (HX0 : ∀ W, Calls Try.prog 7 #[.agg #[.int .u64 m1, .int .i64 m2, .int .i64 m3, .int .i64 m4, .int .i64 m5, .int .i64 m6]] W fun e w' => e = .returned (.string (bs X)) ∧ Below W.heap.size W w')
    (HY0 : ∀ W, Calls Try.prog 7 #[.agg #[.int .u64 n1, .int .i64 n2, .int .i64 n3, .int .i64 n4, .int .i64 n5, .int .i64 n6]] W fun e w' => e = .returned (.string (bs Y)) ∧ Below W.heap.size W w')
    (hX : ((bs X).toList == []) = false) (hY : ((bs Y).toList == []) = true) :
    Calls Try.prog 3 #[.agg #[.int .u64 m1, .int .i64 m2, .int .i64 m3, .int .i64 m4, .int .i64 m5, .int .i64 m6], .agg #[.int .u64 n1, .int .i64 n2, .int .i64 n3, .int .i64 n4, .int .i64 n5, .int .i64 n6], .int .u8 k] w fun e w' => e = .returned (.bool true) ∧ Below w.heap.size w w' := by
  have HX := hid (fun W d os => Calls.regrown_of (HX0 (grow (redrawn W d) os)))
  have HY := hid (fun W d os => Calls.regrown_of (HY0 (grow (redrawn W d) os)))
  clear HX0 HY0

  go_enter Try.func3, Try.ntmps3
  go_wp2_with fail
  refine (known_any _).mono ?_
  rintro e w1 ⟨rfl, hb⟩
  obtain ⟨hM1, hN1⟩ := boxes2 hb
  have L1 := hid (((Below.refl w.heap.size w).alloc (Nat.le_refl _) (.cells #[.int .u64 m1, .int .i64 m2, .int .i64 m3, .int .i64 m4, .int .i64 m5, .int .i64 m6] 26)).alloc (by simp) (.cells #[.int .u64 n1, .int .i64 n2, .int .i64 n3, .int .i64 n4, .int .i64 n5, .int .i64 n6] 26) |>.trans (hb.mono (by simp; omega)))
  have z1 : w.heap.size + 1 < w1.heap.size := (Array.getElem?_eq_some_iff.1 hN1).1
  have hcM := fun d os => cell_rowL (((below_regrown w1 d os).block w.heap.size (by omega)).trans hM1)
  have hcN := fun d os => cell_rowL (((below_regrown w1 d os).block (w.heap.size + 1) (by omega)).trans hN1)
  clear hb
  go_wp2_with fail
  refine wp_region_quiet_below (by kernel_rfl) (by kernel_rfl) ?_
  repeat (go_big_quiet_step (first | exact HX.out _ _ _ | exact HY.out _ _ _))
  refine wpQuiet_nil ?_
  intro _ hw'
  obtain ⟨⟨dq, osq⟩, hw''⟩ := hw'
  subst hw''
  have L3 := hid (L1.out.trans ((below_regrown w1 dq osq).mono L1.out.size))
  have hM3 := ((below_regrown w1 dq osq).block w.heap.size (by omega)).trans hM1
  have hN3 := ((below_regrown w1 dq osq).block (w.heap.size + 1) (by omega)).trans hN1
  have z3 : w.heap.size + 1 < (grow (redrawn w1 dq) osq).heap.size := Nat.lt_of_lt_of_le z1 (below_regrown w1 dq osq).size
  clear hcM hcN hM1 hN1 L1 z1 HX HY
  generalize grow (redrawn w1 dq) osq = w3 at *
  have cM := cell_rowL hM3
  have cN := cell_rowL hN3
  go_wp2
  go_ret
  exact ⟨rfl, L3.out⟩

set_option maxRecDepth 100000 in
set_option maxHeartbeats 4000000 in
theorem later_odd (X Y : List UInt8) (m1 m2 m3 m4 m5 m6 n1 n2 n3 n4 n5 n6 k : Int) (w : World) (_hk0 : 0 ≤ k) (_hk1 : k < 256) (_hm0 : 0 ≤ m1) (_hm1 : m1 < 18446744073709551616) (_hn0 : 0 ≤ n1) (_hn1 : n1 < 18446744073709551616)
    (HX0 : ∀ W, Calls Try.prog 7 #[.agg #[.int .u64 m1, .int .i64 m2, .int .i64 m3, .int .i64 m4, .int .i64 m5, .int .i64 m6]] W fun e w' => e = .returned (.string (bs X)) ∧ Below W.heap.size W w')
    (HY0 : ∀ W, Calls Try.prog 7 #[.agg #[.int .u64 n1, .int .i64 n2, .int .i64 n3, .int .i64 n4, .int .i64 n5, .int .i64 n6]] W fun e w' => e = .returned (.string (bs Y)) ∧ Below W.heap.size W w')
    (hX : ((bs X).toList == []) = false) (hY : ((bs Y).toList == []) = false) (hp : ¬ m1 % 2 = 0)
    (HC1 : ∀ W, Calls Try.prog 8 #[.string (bs X), .string ⟨#[]⟩] W fun e w' => e = .returned (.tuple #[.agg #[.int .u64 0, .int .i64 0, .int .i64 0, .int .i64 0, .int .i64 0, .int .i64 0], .iface 34 (.int .i64 12)]) ∧ Below W.heap.size W w')
    (HC2 : ∀ W, Calls Try.prog 8 #[.string ⟨#[]⟩, .string (bs X)] W fun e w' => e = .returned (.tuple #[.agg #[.int .u64 m1, .int .i64 m2, .int .i64 m3, .int .i64 m4, .int .i64 m5, .int .i64 m6], .nilIface]) ∧ Below W.heap.size W w') :
    Calls Try.prog 3 #[.agg #[.int .u64 m1, .int .i64 m2, .int .i64 m3, .int .i64 m4, .int .i64 m5, .int .i64 m6], .agg #[.int .u64 n1, .int .i64 n2, .int .i64 n3, .int .i64 n4, .int .i64 n5, .int .i64 n6], .int .u8 k] w fun e w' => e = .returned (.bool true) ∧ Below w.heap.size w w' := by
  have HX := hid (fun W d os => Calls.regrown_of (HX0 (grow (redrawn W d) os)))
  have HY := hid (fun W d os => Calls.regrown_of (HY0 (grow (redrawn W d) os)))
  clear HX0 HY0
  replace HC1 := hid HC1
  replace HC2 := hid HC2
  have hnil := Try.eqNilNil
  have heq := eqMeta m1 m2 m3 m4 m5 m6
  go_enter Try.func3, Try.ntmps3
  go_wp2_with fail
  refine (known_any _).mono ?_
  rintro e w1 ⟨rfl, hb⟩
  obtain ⟨hM1, hN1⟩ := boxes2 hb
  have L1 := hid (((Below.refl w.heap.size w).alloc (Nat.le_refl _) (.cells #[.int .u64 m1, .int .i64 m2, .int .i64 m3, .int .i64 m4, .int .i64 m5, .int .i64 m6] 26)).alloc (by simp) (.cells #[.int .u64 n1, .int .i64 n2, .int .i64 n3, .int .i64 n4, .int .i64 n5, .int .i64 n6] 26) |>.trans (hb.mono (by simp; omega)))
  have z1 : w.heap.size + 1 < w1.heap.size := (Array.getElem?_eq_some_iff.1 hN1).1
  have hcM := fun d os => cell_rowL (((below_regrown w1 d os).block w.heap.size (by omega)).trans hM1)
  have hcN := fun d os => cell_rowL (((below_regrown w1 d os).block (w.heap.size + 1) (by omega)).trans hN1)
  clear hb
  go_wp2_with fail
  refine wp_region_quiet_below (by kernel_rfl) (by kernel_rfl) ?_
  repeat (go_big_quiet_step (first | exact HX.out _ _ _ | exact HY.out _ _ _))
  refine wpQuiet_nil ?_
  intro _ hw'
  obtain ⟨⟨dq, osq⟩, hw''⟩ := hw'
  subst hw''
  have L3 := hid (L1.out.trans ((below_regrown w1 dq osq).mono L1.out.size))
  have hM3 := ((below_regrown w1 dq osq).block w.heap.size (by omega)).trans hM1
  have hN3 := ((below_regrown w1 dq osq).block (w.heap.size + 1) (by omega)).trans hN1
  have z3 : w.heap.size + 1 < (grow (redrawn w1 dq) osq).heap.size := Nat.lt_of_lt_of_le z1 (below_regrown w1 dq osq).size
  clear hcM hcN hM1 hN1 L1 z1 HX HY
  generalize grow (redrawn w1 dq) osq = w3 at *
  have cM := cell_rowL hM3
  have cN := cell_rowL hN3
  clear hN3 cN
  go_wp2_with fail
  refine (HC1.out _).mono ?_
  rintro e w4 ⟨rfl, hb⟩
  have L4 := hid (belNew (bel L3.out hb) (.cells #[.int .u64 0, .int .i64 0, .int .i64 0, .int .i64 0, .int .i64 0, .int .i64 0] 26))
  have hM4 := (Below.heap_alloc w4 (.cells #[.int .u64 0, .int .i64 0, .int .i64 0, .int .i64 0, .int .i64 0, .int .i64 0] 26) w.heap.size (Nat.lt_of_lt_of_le (by omega) hb.size)).trans ((hb.block _ (by omega)).trans hM3)
  have z4 : w.heap.size + 1 < (w4.alloc (.cells #[.int .u64 0, .int .i64 0, .int .i64 0, .int .i64 0, .int .i64 0, .int .i64 0] 26)).heap.size := by have := hb.size; simp; omega
  clear hb hM3 L3 cM z3 HC1
  go_wp2_with fail
  generalize w4.alloc (.cells #[.int .u64 0, .int .i64 0, .int .i64 0, .int .i64 0, .int .i64 0, .int .i64 0] 26) = X4 at *
  refine (HC2.out _).mono ?_
  rintro e w5 ⟨rfl, hb⟩
  have L5 := hid (belNew (bel L4.out hb) (.cells #[.int .u64 m1, .int .i64 m2, .int .i64 m3, .int .i64 m4, .int .i64 m5, .int .i64 m6] 26))
  have hM5 := (Below.heap_alloc w5 (.cells #[.int .u64 m1, .int .i64 m2, .int .i64 m3, .int .i64 m4, .int .i64 m5, .int .i64 m6] 26) w.heap.size (Nat.lt_of_lt_of_le (by omega) hb.size)).trans ((hb.block _ (by omega)).trans hM4)
  have hE5 := heap_newL w5 (.cells #[.int .u64 m1, .int .i64 m2, .int .i64 m3, .int .i64 m4, .int .i64 m5, .int .i64 m6] 26)
  have c5 := cell_rowL hM5
  clear hb hM4 L4 z4 HC2
  go_wp2_with fail
  refine (is_same _).mono ?_
  rintro e w6 ⟨rfl, rfl⟩
  go_wp2
  go_ret
  exact ⟨rfl, L5.out⟩

set_option maxRecDepth 100000 in
set_option maxHeartbeats 4000000 in
theorem later_even (X Y : List UInt8) (m1 m2 m3 m4 m5 m6 n1 n2 n3 n4 n5 n6 k : Int) (w : World) (_hk0 : 0 ≤ k) (_hk1 : k < 256) (_hm0 : 0 ≤ m1) (_hm1 : m1 < 18446744073709551616) (_hn0 : 0 ≤ n1) (_hn1 : n1 < 18446744073709551616)
    (HX0 : ∀ W, Calls Try.prog 7 #[.agg #[.int .u64 m1, .int .i64 m2, .int .i64 m3, .int .i64 m4, .int .i64 m5, .int .i64 m6]] W fun e w' => e = .returned (.string (bs X)) ∧ Below W.heap.size W w')
    (HY0 : ∀ W, Calls Try.prog 7 #[.agg #[.int .u64 n1, .int .i64 n2, .int .i64 n3, .int .i64 n4, .int .i64 n5, .int .i64 n6]] W fun e w' => e = .returned (.string (bs Y)) ∧ Below W.heap.size W w')
    (hX : ((bs X).toList == []) = false) (hY : ((bs Y).toList == []) = false) (hp : m1 % 2 = 0) (hq : ¬ n1 % 2 = 1)
    (HC1 : ∀ W, Calls Try.prog 8 #[.string ⟨#[]⟩, .string (bs Y)] W fun e w' => e = .returned (.tuple #[.agg #[.int .u64 0, .int .i64 0, .int .i64 0, .int .i64 0, .int .i64 0, .int .i64 0], .iface 34 (.int .i64 12)]) ∧ Below W.heap.size W w') :
    Calls Try.prog 3 #[.agg #[.int .u64 m1, .int .i64 m2, .int .i64 m3, .int .i64 m4, .int .i64 m5, .int .i64 m6], .agg #[.int .u64 n1, .int .i64 n2, .int .i64 n3, .int .i64 n4, .int .i64 n5, .int .i64 n6], .int .u8 k] w fun e w' => e = .returned (.bool true) ∧ Below w.heap.size w w' := by
  have HX := hid (fun W d os => Calls.regrown_of (HX0 (grow (redrawn W d) os)))
  have HY := hid (fun W d os => Calls.regrown_of (HY0 (grow (redrawn W d) os)))
  clear HX0 HY0
  replace HC1 := hid HC1
  go_enter Try.func3, Try.ntmps3
  go_wp2_with fail
  refine (known_any _).mono ?_
  rintro e w1 ⟨rfl, hb⟩
  obtain ⟨hM1, hN1⟩ := boxes2 hb
  have L1 := hid (((Below.refl w.heap.size w).alloc (Nat.le_refl _) (.cells #[.int .u64 m1, .int .i64 m2, .int .i64 m3, .int .i64 m4, .int .i64 m5, .int .i64 m6] 26)).alloc (by simp) (.cells #[.int .u64 n1, .int .i64 n2, .int .i64 n3, .int .i64 n4, .int .i64 n5, .int .i64 n6] 26) |>.trans (hb.mono (by simp; omega)))
  have z1 : w.heap.size + 1 < w1.heap.size := (Array.getElem?_eq_some_iff.1 hN1).1
  have hcM := fun d os => cell_rowL (((below_regrown w1 d os).block w.heap.size (by omega)).trans hM1)
  have hcN := fun d os => cell_rowL (((below_regrown w1 d os).block (w.heap.size + 1) (by omega)).trans hN1)
  clear hb
  go_wp2_with fail
  refine wp_region_quiet_below (by kernel_rfl) (by kernel_rfl) ?_
  repeat (go_big_quiet_step (first | exact HX.out _ _ _ | exact HY.out _ _ _))
  refine wpQuiet_nil ?_
  intro _ hw'
  obtain ⟨⟨dq, osq⟩, hw''⟩ := hw'
  subst hw''
  have L3 := hid (L1.out.trans ((below_regrown w1 dq osq).mono L1.out.size))
  have hM3 := ((below_regrown w1 dq osq).block w.heap.size (by omega)).trans hM1
  have hN3 := ((below_regrown w1 dq osq).block (w.heap.size + 1) (by omega)).trans hN1
  have z3 : w.heap.size + 1 < (grow (redrawn w1 dq) osq).heap.size := Nat.lt_of_lt_of_le z1 (below_regrown w1 dq osq).size
  clear hcM hcN hM1 hN1 L1 z1 HX HY
  generalize grow (redrawn w1 dq) osq = w3 at *
  have cM := cell_rowL hM3
  have cN := cell_rowL hN3
  go_wp2_with fail
  refine (HC1.out _).mono ?_
  rintro e w4 ⟨rfl, hb⟩
  have L4 := hid (belNew (bel L3.out hb) (.cells #[.int .u64 0, .int .i64 0, .int .i64 0, .int .i64 0, .int .i64 0, .int .i64 0] 26))
  clear hb hM3 hN3 L3 cM cN z3 HC1
  go_wp2_with fail
  refine (is_same _).mono ?_
  rintro e w6 ⟨rfl, rfl⟩
  go_wp2
  go_ret
  exact ⟨rfl, L4.out⟩

set_option maxRecDepth 100000 in
set_option maxHeartbeats 4000000 in
theorem later_0a (X Y : List UInt8) (m1 m2 m3 m4 m5 m6 n1 n2 n3 n4 n5 n6 k : Int) (w : World) (_hk0 : 0 ≤ k) (_hk1 : k < 256) (_hm0 : 0 ≤ m1) (_hm1 : m1 < 18446744073709551616) (_hn0 : 0 ≤ n1) (_hn1 : n1 < 18446744073709551616)
    (HX0 : ∀ W, Calls Try.prog 7 #[.agg #[.int .u64 m1, .int .i64 m2, .int .i64 m3, .int .i64 m4, .int .i64 m5, .int .i64 m6]] W fun e w' => e = .returned (.string (bs X)) ∧ Below W.heap.size W w')
    (HY0 : ∀ W, Calls Try.prog 7 #[.agg #[.int .u64 n1, .int .i64 n2, .int .i64 n3, .int .i64 n4, .int .i64 n5, .int .i64 n6]] W fun e w' => e = .returned (.string (bs Y)) ∧ Below W.heap.size W w')
    (hX : ((bs X).toList == []) = false) (hY : ((bs Y).toList == []) = false) (_zX : (bs X).size = 64) (_zY : (bs Y).size = 64) (hp : m1 % 2 = 0) (hq : n1 % 2 = 1) (hk : k % 3 = 0) (hlt : m1 < n1)
    (HC1 : ∀ W, Calls Try.prog 8 #[.string (bs X), .string (bs Y)] W fun e w' => e = .returned (.tuple #[.agg #[.int .u64 n1, .int .i64 n2, .int .i64 n3, .int .i64 n4, .int .i64 n5, .int .i64 n6], .nilIface]) ∧ Below W.heap.size W w') :
    Calls Try.prog 3 #[.agg #[.int .u64 m1, .int .i64 m2, .int .i64 m3, .int .i64 m4, .int .i64 m5, .int .i64 m6], .agg #[.int .u64 n1, .int .i64 n2, .int .i64 n3, .int .i64 n4, .int .i64 n5, .int .i64 n6], .int .u8 k] w fun e w' => e = .returned (.bool true) ∧ Below w.heap.size w w' := by
  have HX := hid (fun W d os => Calls.regrown_of (HX0 (grow (redrawn W d) os)))
  have HY := hid (fun W d os => Calls.regrown_of (HY0 (grow (redrawn W d) os)))
  clear HX0 HY0
  replace HC1 := hid HC1
  have hnil := Try.eqNilNil
  have heq := eqMeta n1 n2 n3 n4 n5 n6
  go_enter Try.func3, Try.ntmps3
  go_wp2_with fail
  refine (known_any _).mono ?_
  rintro e w1 ⟨rfl, hb⟩
  obtain ⟨hM1, hN1⟩ := boxes2 hb
  have L1 := hid (((Below.refl w.heap.size w).alloc (Nat.le_refl _) (.cells #[.int .u64 m1, .int .i64 m2, .int .i64 m3, .int .i64 m4, .int .i64 m5, .int .i64 m6] 26)).alloc (by simp) (.cells #[.int .u64 n1, .int .i64 n2, .int .i64 n3, .int .i64 n4, .int .i64 n5, .int .i64 n6] 26) |>.trans (hb.mono (by simp; omega)))
  have z1 : w.heap.size + 1 < w1.heap.size := (Array.getElem?_eq_some_iff.1 hN1).1
  have hcM := fun d os => cell_rowL (((below_regrown w1 d os).block w.heap.size (by omega)).trans hM1)
  have hcN := fun d os => cell_rowL (((below_regrown w1 d os).block (w.heap.size + 1) (by omega)).trans hN1)
  clear hb
  go_wp2_with fail
  refine wp_region_quiet_below (by kernel_rfl) (by kernel_rfl) ?_
  repeat (go_big_quiet_step (first | exact HX.out _ _ _ | exact HY.out _ _ _))
  refine wpQuiet_nil ?_
  intro _ hw'
  obtain ⟨⟨dq, osq⟩, hw''⟩ := hw'
  subst hw''
  have L3 := hid (L1.out.trans ((below_regrown w1 dq osq).mono L1.out.size))
  have hM3 := ((below_regrown w1 dq osq).block w.heap.size (by omega)).trans hM1
  have hN3 := ((below_regrown w1 dq osq).block (w.heap.size + 1) (by omega)).trans hN1
  have z3 : w.heap.size + 1 < (grow (redrawn w1 dq) osq).heap.size := Nat.lt_of_lt_of_le z1 (below_regrown w1 dq osq).size
  clear hcM hcN hM1 hN1 L1 z1 HX HY
  generalize grow (redrawn w1 dq) osq = w3 at *
  have cM := cell_rowL hM3
  have cN := cell_rowL hN3
  have z3' : w.heap.size < w3.heap.size := by omega
  clear hM3 hN3
  go_wp2_with fail
  have L4 := belNew L3.out (.cells #[.int .u64 n1, .int .i64 n2, .int .i64 n3, .int .i64 n4, .int .i64 n5, .int .i64 n6] 26)
  have hD := heap_newL w3 (.cells #[.int .u64 n1, .int .i64 n2, .int .i64 n3, .int .i64 n4, .int .i64 n5, .int .i64 n6] 26)
  replace L4 := hid L4
  generalize w3.alloc (.cells #[.int .u64 n1, .int .i64 n2, .int .i64 n3, .int .i64 n4, .int .i64 n5, .int .i64 n6] 26) = X4 at *
  generalize w3.heap.size = D at *
  refine (HC1.out _).mono ?_
  rintro e w5 ⟨rfl, hb⟩
  have ltX : D < X4.heap.size := (Array.getElem?_eq_some_iff.1 hD).1
  have L5 := hid (belNew (bel L4.out hb) (.cells #[.int .u64 n1, .int .i64 n2, .int .i64 n3, .int .i64 n4, .int .i64 n5, .int .i64 n6] 26))
  have hD5 := (Below.heap_alloc w5 (.cells #[.int .u64 n1, .int .i64 n2, .int .i64 n3, .int .i64 n4, .int .i64 n5, .int .i64 n6] 26) D (Nat.lt_of_lt_of_le ltX hb.size)).trans ((hb.block D ltX).trans hD)
  have hE5 := heap_newL w5 (.cells #[.int .u64 n1, .int .i64 n2, .int .i64 n3, .int .i64 n4, .int .i64 n5, .int .i64 n6] 26)
  have c5 := cell_rowL hD5
  clear hb L4 HC1 hD
  go_wp2
  go_ret
  exact ⟨rfl, L5.out⟩

set_option maxRecDepth 100000 in
set_option maxHeartbeats 4000000 in
theorem later_0b (X Y : List UInt8) (m1 m2 m3 m4 m5 m6 n1 n2 n3 n4 n5 n6 k : Int) (w : World) (_hk0 : 0 ≤ k) (_hk1 : k < 256) (_hm0 : 0 ≤ m1) (_hm1 : m1 < 18446744073709551616) (_hn0 : 0 ≤ n1) (_hn1 : n1 < 18446744073709551616)
    (HX0 : ∀ W, Calls Try.prog 7 #[.agg #[.int .u64 m1, .int .i64 m2, .int .i64 m3, .int .i64 m4, .int .i64 m5, .int .i64 m6]] W fun e w' => e = .returned (.string (bs X)) ∧ Below W.heap.size W w')
    (HY0 : ∀ W, Calls Try.prog 7 #[.agg #[.int .u64 n1, .int .i64 n2, .int .i64 n3, .int .i64 n4, .int .i64 n5, .int .i64 n6]] W fun e w' => e = .returned (.string (bs Y)) ∧ Below W.heap.size W w')
    (hX : ((bs X).toList == []) = false) (hY : ((bs Y).toList == []) = false) (_zX : (bs X).size = 64) (_zY : (bs Y).size = 64) (hp : m1 % 2 = 0) (hq : n1 % 2 = 1) (hk : k % 3 = 0) (hlt : ¬ m1 < n1)
    (HC1 : ∀ W, Calls Try.prog 8 #[.string (bs X), .string (bs Y)] W fun e w' => e = .returned (.tuple #[.agg #[.int .u64 m1, .int .i64 m2, .int .i64 m3, .int .i64 m4, .int .i64 m5, .int .i64 m6], .nilIface]) ∧ Below W.heap.size W w') :
    Calls Try.prog 3 #[.agg #[.int .u64 m1, .int .i64 m2, .int .i64 m3, .int .i64 m4, .int .i64 m5, .int .i64 m6], .agg #[.int .u64 n1, .int .i64 n2, .int .i64 n3, .int .i64 n4, .int .i64 n5, .int .i64 n6], .int .u8 k] w fun e w' => e = .returned (.bool true) ∧ Below w.heap.size w w' := by
  have HX := hid (fun W d os => Calls.regrown_of (HX0 (grow (redrawn W d) os)))
  have HY := hid (fun W d os => Calls.regrown_of (HY0 (grow (redrawn W d) os)))
  clear HX0 HY0
  replace HC1 := hid HC1
  have hnil := Try.eqNilNil
  have heq := eqMeta m1 m2 m3 m4 m5 m6
  go_enter Try.func3, Try.ntmps3
  go_wp2_with fail
  refine (known_any _).mono ?_
  rintro e w1 ⟨rfl, hb⟩
  obtain ⟨hM1, hN1⟩ := boxes2 hb
  have L1 := hid (((Below.refl w.heap.size w).alloc (Nat.le_refl _) (.cells #[.int .u64 m1, .int .i64 m2, .int .i64 m3, .int .i64 m4, .int .i64 m5, .int .i64 m6] 26)).alloc (by simp) (.cells #[.int .u64 n1, .int .i64 n2, .int .i64 n3, .int .i64 n4, .int .i64 n5, .int .i64 n6] 26) |>.trans (hb.mono (by simp; omega)))
  have z1 : w.heap.size + 1 < w1.heap.size := (Array.getElem?_eq_some_iff.1 hN1).1
  have hcM := fun d os => cell_rowL (((below_regrown w1 d os).block w.heap.size (by omega)).trans hM1)
  have hcN := fun d os => cell_rowL (((below_regrown w1 d os).block (w.heap.size + 1) (by omega)).trans hN1)
  clear hb
  go_wp2_with fail
  refine wp_region_quiet_below (by kernel_rfl) (by kernel_rfl) ?_
  repeat (go_big_quiet_step (first | exact HX.out _ _ _ | exact HY.out _ _ _))
  refine wpQuiet_nil ?_
  intro _ hw'
  obtain ⟨⟨dq, osq⟩, hw''⟩ := hw'
  subst hw''
  have L3 := hid (L1.out.trans ((below_regrown w1 dq osq).mono L1.out.size))
  have hM3 := ((below_regrown w1 dq osq).block w.heap.size (by omega)).trans hM1
  have hN3 := ((below_regrown w1 dq osq).block (w.heap.size + 1) (by omega)).trans hN1
  have z3 : w.heap.size + 1 < (grow (redrawn w1 dq) osq).heap.size := Nat.lt_of_lt_of_le z1 (below_regrown w1 dq osq).size
  clear hcM hcN hM1 hN1 L1 z1 HX HY
  generalize grow (redrawn w1 dq) osq = w3 at *
  have cM := cell_rowL hM3
  have cN := cell_rowL hN3
  have z3' : w.heap.size < w3.heap.size := by omega
  clear hM3 hN3
  go_wp2_with fail
  have L4 := belNew L3.out (.cells #[.int .u64 m1, .int .i64 m2, .int .i64 m3, .int .i64 m4, .int .i64 m5, .int .i64 m6] 26)
  have hD := heap_newL w3 (.cells #[.int .u64 m1, .int .i64 m2, .int .i64 m3, .int .i64 m4, .int .i64 m5, .int .i64 m6] 26)
  replace L4 := hid L4
  generalize w3.alloc (.cells #[.int .u64 m1, .int .i64 m2, .int .i64 m3, .int .i64 m4, .int .i64 m5, .int .i64 m6] 26) = X4 at *
  generalize w3.heap.size = D at *
  refine (HC1.out _).mono ?_
  rintro e w5 ⟨rfl, hb⟩
  have ltX : D < X4.heap.size := (Array.getElem?_eq_some_iff.1 hD).1
  have L5 := hid (belNew (bel L4.out hb) (.cells #[.int .u64 m1, .int .i64 m2, .int .i64 m3, .int .i64 m4, .int .i64 m5, .int .i64 m6] 26))
  have hD5 := (Below.heap_alloc w5 (.cells #[.int .u64 m1, .int .i64 m2, .int .i64 m3, .int .i64 m4, .int .i64 m5, .int .i64 m6] 26) D (Nat.lt_of_lt_of_le ltX hb.size)).trans ((hb.block D ltX).trans hD)
  have hE5 := heap_newL w5 (.cells #[.int .u64 m1, .int .i64 m2, .int .i64 m3, .int .i64 m4, .int .i64 m5, .int .i64 m6] 26)
  have c5 := cell_rowL hD5
  clear hb L4 HC1 hD
  go_wp2
  go_ret
  exact ⟨rfl, L5.out⟩

set_option maxRecDepth 100000 in
set_option maxHeartbeats 4000000 in
theorem later_1a (X Y : List UInt8) (m1 m2 m3 m4 m5 m6 n1 n2 n3 n4 n5 n6 k : Int) (w : World) (_hk0 : 0 ≤ k) (_hk1 : k < 256) (_hm0 : 0 ≤ m1) (_hm1 : m1 < 18446744073709551616) (_hn0 : 0 ≤ n1) (_hn1 : n1 < 18446744073709551616)
    (HX0 : ∀ W, Calls Try.prog 7 #[.agg #[.int .u64 m1, .int .i64 m2, .int .i64 m3, .int .i64 m4, .int .i64 m5, .int .i64 m6]] W fun e w' => e = .returned (.string (bs X)) ∧ Below W.heap.size W w')
    (HY0 : ∀ W, Calls Try.prog 7 #[.agg #[.int .u64 n1, .int .i64 n2, .int .i64 n3, .int .i64 n4, .int .i64 n5, .int .i64 n6]] W fun e w' => e = .returned (.string (bs Y)) ∧ Below W.heap.size W w')
    (hX : ((bs X).toList == []) = false) (hY : ((bs Y).toList == []) = false) (_zX : (bs X).size = 64) (_zY : (bs Y).size = 64) (hp : m1 % 2 = 0) (hq : n1 % 2 = 1) (hk : k % 3 = 1) (hlt : m1 < n1)
    (HC1 : ∀ W, Calls Try.prog 8 #[.string ((bs X).extract 1 64), .string (bs Y)] W fun e w' => e = .returned (.tuple #[.agg #[.int .u64 n1, .int .i64 n2, .int .i64 n3, .int .i64 n4, .int .i64 n5, .int .i64 n6], .nilIface]) ∧ Below W.heap.size W w') :
    Calls Try.prog 3 #[.agg #[.int .u64 m1, .int .i64 m2, .int .i64 m3, .int .i64 m4, .int .i64 m5, .int .i64 m6], .agg #[.int .u64 n1, .int .i64 n2, .int .i64 n3, .int .i64 n4, .int .i64 n5, .int .i64 n6], .int .u8 k] w fun e w' => e = .returned (.bool true) ∧ Below w.heap.size w w' := by
  have HX := hid (fun W d os => Calls.regrown_of (HX0 (grow (redrawn W d) os)))
  have HY := hid (fun W d os => Calls.regrown_of (HY0 (grow (redrawn W d) os)))
  clear HX0 HY0
  replace HC1 := hid HC1
  have hnil := Try.eqNilNil
  have heq := eqMeta n1 n2 n3 n4 n5 n6
  go_enter Try.func3, Try.ntmps3
  go_wp2_with fail
  refine (known_any _).mono ?_
  rintro e w1 ⟨rfl, hb⟩
  obtain ⟨hM1, hN1⟩ := boxes2 hb
  have L1 := hid (((Below.refl w.heap.size w).alloc (Nat.le_refl _) (.cells #[.int .u64 m1, .int .i64 m2, .int .i64 m3, .int .i64 m4, .int .i64 m5, .int .i64 m6] 26)).alloc (by simp) (.cells #[.int .u64 n1, .int .i64 n2, .int .i64 n3, .int .i64 n4, .int .i64 n5, .int .i64 n6] 26) |>.trans (hb.mono (by simp; omega)))
  have z1 : w.heap.size + 1 < w1.heap.size := (Array.getElem?_eq_some_iff.1 hN1).1
  have hcM := fun d os => cell_rowL (((below_regrown w1 d os).block w.heap.size (by omega)).trans hM1)
  have hcN := fun d os => cell_rowL (((below_regrown w1 d os).block (w.heap.size + 1) (by omega)).trans hN1)
  clear hb
  go_wp2_with fail
  refine wp_region_quiet_below (by kernel_rfl) (by kernel_rfl) ?_
  repeat (go_big_quiet_step (first | exact HX.out _ _ _ | exact HY.out _ _ _))
  refine wpQuiet_nil ?_
  intro _ hw'
  obtain ⟨⟨dq, osq⟩, hw''⟩ := hw'
  subst hw''
  have L3 := hid (L1.out.trans ((below_regrown w1 dq osq).mono L1.out.size))
  have hM3 := ((below_regrown w1 dq osq).block w.heap.size (by omega)).trans hM1
  have hN3 := ((below_regrown w1 dq osq).block (w.heap.size + 1) (by omega)).trans hN1
  have z3 : w.heap.size + 1 < (grow (redrawn w1 dq) osq).heap.size := Nat.lt_of_lt_of_le z1 (below_regrown w1 dq osq).size
  clear hcM hcN hM1 hN1 L1 z1 HX HY
  generalize grow (redrawn w1 dq) osq = w3 at *
  have cM := cell_rowL hM3
  have cN := cell_rowL hN3
  have z3' : w.heap.size < w3.heap.size := by omega
  clear hM3 hN3
  go_wp2_with fail
  go_region
  go_wp2_with fail
  have L4 := belNew L3.out (.cells #[.int .u64 n1, .int .i64 n2, .int .i64 n3, .int .i64 n4, .int .i64 n5, .int .i64 n6] 26)
  have hD := heap_newL w3 (.cells #[.int .u64 n1, .int .i64 n2, .int .i64 n3, .int .i64 n4, .int .i64 n5, .int .i64 n6] 26)
  replace L4 := below_drew L4
  replace L4 := hid L4
  replace hD : ((w3.alloc (.cells #[.int .u64 n1, .int .i64 n2, .int .i64 n3, .int .i64 n4, .int .i64 n5, .int .i64 n6] 26)).drew).heap[w3.heap.size]? = _ := hD
  generalize (w3.alloc (.cells #[.int .u64 n1, .int .i64 n2, .int .i64 n3, .int .i64 n4, .int .i64 n5, .int .i64 n6] 26)).drew = X4 at *
  generalize w3.heap.size = D at *
  refine (HC1.out _).mono ?_
  rintro e w5 ⟨rfl, hb⟩
  have ltX : D < X4.heap.size := (Array.getElem?_eq_some_iff.1 hD).1
  have L5 := hid (belNew (bel L4.out hb) (.cells #[.int .u64 n1, .int .i64 n2, .int .i64 n3, .int .i64 n4, .int .i64 n5, .int .i64 n6] 26))
  have hD5 := (Below.heap_alloc w5 (.cells #[.int .u64 n1, .int .i64 n2, .int .i64 n3, .int .i64 n4, .int .i64 n5, .int .i64 n6] 26) D (Nat.lt_of_lt_of_le ltX hb.size)).trans ((hb.block D ltX).trans hD)
  have hE5 := heap_newL w5 (.cells #[.int .u64 n1, .int .i64 n2, .int .i64 n3, .int .i64 n4, .int .i64 n5, .int .i64 n6] 26)
  have c5 := cell_rowL hD5
  clear hb L4 HC1 hD
  go_wp2
  go_ret
  exact ⟨rfl, L5.out⟩

set_option maxRecDepth 100000 in
set_option maxHeartbeats 4000000 in
theorem later_1b (X Y : List UInt8) (m1 m2 m3 m4 m5 m6 n1 n2 n3 n4 n5 n6 k : Int) (w : World) (_hk0 : 0 ≤ k) (_hk1 : k < 256) (_hm0 : 0 ≤ m1) (_hm1 : m1 < 18446744073709551616) (_hn0 : 0 ≤ n1) (_hn1 : n1 < 18446744073709551616)
    (HX0 : ∀ W, Calls Try.prog 7 #[.agg #[.int .u64 m1, .int .i64 m2, .int .i64 m3, .int .i64 m4, .int .i64 m5, .int .i64 m6]] W fun e w' => e = .returned (.string (bs X)) ∧ Below W.heap.size W w')
    (HY0 : ∀ W, Calls Try.prog 7 #[.agg #[.int .u64 n1, .int .i64 n2, .int .i64 n3, .int .i64 n4, .int .i64 n5, .int .i64 n6]] W fun e w' => e = .returned (.string (bs Y)) ∧ Below W.heap.size W w')
    (hX : ((bs X).toList == []) = false) (hY : ((bs Y).toList == []) = false) (_zX : (bs X).size = 64) (_zY : (bs Y).size = 64) (hp : m1 % 2 = 0) (hq : n1 % 2 = 1) (hk : k % 3 = 1) (hlt : ¬ m1 < n1)
    (HC1 : ∀ W, Calls Try.prog 8 #[.string ((bs X).extract 1 64), .string (bs Y)] W fun e w' => e = .returned (.tuple #[.agg #[.int .u64 n1, .int .i64 n2, .int .i64 n3, .int .i64 n4, .int .i64 n5, .int .i64 n6], .nilIface]) ∧ Below W.heap.size W w') :
    Calls Try.prog 3 #[.agg #[.int .u64 m1, .int .i64 m2, .int .i64 m3, .int .i64 m4, .int .i64 m5, .int .i64 m6], .agg #[.int .u64 n1, .int .i64 n2, .int .i64 n3, .int .i64 n4, .int .i64 n5, .int .i64 n6], .int .u8 k] w fun e w' => e = .returned (.bool true) ∧ Below w.heap.size w w' := by
  have HX := hid (fun W d os => Calls.regrown_of (HX0 (grow (redrawn W d) os)))
  have HY := hid (fun W d os => Calls.regrown_of (HY0 (grow (redrawn W d) os)))
  clear HX0 HY0
  replace HC1 := hid HC1
  have hnil := Try.eqNilNil
  have heq := eqMeta n1 n2 n3 n4 n5 n6
  go_enter Try.func3, Try.ntmps3
  go_wp2_with fail
  refine (known_any _).mono ?_
  rintro e w1 ⟨rfl, hb⟩
  obtain ⟨hM1, hN1⟩ := boxes2 hb
  have L1 := hid (((Below.refl w.heap.size w).alloc (Nat.le_refl _) (.cells #[.int .u64 m1, .int .i64 m2, .int .i64 m3, .int .i64 m4, .int .i64 m5, .int .i64 m6] 26)).alloc (by simp) (.cells #[.int .u64 n1, .int .i64 n2, .int .i64 n3, .int .i64 n4, .int .i64 n5, .int .i64 n6] 26) |>.trans (hb.mono (by simp; omega)))
  have z1 : w.heap.size + 1 < w1.heap.size := (Array.getElem?_eq_some_iff.1 hN1).1
  have hcM := fun d os => cell_rowL (((below_regrown w1 d os).block w.heap.size (by omega)).trans hM1)
  have hcN := fun d os => cell_rowL (((below_regrown w1 d os).block (w.heap.size + 1) (by omega)).trans hN1)
  clear hb
  go_wp2_with fail
  refine wp_region_quiet_below (by kernel_rfl) (by kernel_rfl) ?_
  repeat (go_big_quiet_step (first | exact HX.out _ _ _ | exact HY.out _ _ _))
  refine wpQuiet_nil ?_
  intro _ hw'
  obtain ⟨⟨dq, osq⟩, hw''⟩ := hw'
  subst hw''
  have L3 := hid (L1.out.trans ((below_regrown w1 dq osq).mono L1.out.size))
  have hM3 := ((below_regrown w1 dq osq).block w.heap.size (by omega)).trans hM1
  have hN3 := ((below_regrown w1 dq osq).block (w.heap.size + 1) (by omega)).trans hN1
  have z3 : w.heap.size + 1 < (grow (redrawn w1 dq) osq).heap.size := Nat.lt_of_lt_of_le z1 (below_regrown w1 dq osq).size
  clear hcM hcN hM1 hN1 L1 z1 HX HY
  generalize grow (redrawn w1 dq) osq = w3 at *
  have cM := cell_rowL hM3
  have cN := cell_rowL hN3
  have z3' : w.heap.size < w3.heap.size := by omega
  clear hM3 hN3
  go_wp2_with fail
  go_region
  go_wp2_with fail
  have L4 := belNew L3.out (.cells #[.int .u64 n1, .int .i64 n2, .int .i64 n3, .int .i64 n4, .int .i64 n5, .int .i64 n6] 26)
  have hD := heap_newL w3 (.cells #[.int .u64 n1, .int .i64 n2, .int .i64 n3, .int .i64 n4, .int .i64 n5, .int .i64 n6] 26)
  replace L4 := below_drew L4
  replace L4 := hid L4
  replace hD : ((w3.alloc (.cells #[.int .u64 n1, .int .i64 n2, .int .i64 n3, .int .i64 n4, .int .i64 n5, .int .i64 n6] 26)).drew).heap[w3.heap.size]? = _ := hD
  generalize (w3.alloc (.cells #[.int .u64 n1, .int .i64 n2, .int .i64 n3, .int .i64 n4, .int .i64 n5, .int .i64 n6] 26)).drew = X4 at *
  generalize w3.heap.size = D at *
  refine (HC1.out _).mono ?_
  rintro e w5 ⟨rfl, hb⟩
  have ltX : D < X4.heap.size := (Array.getElem?_eq_some_iff.1 hD).1
  have L5 := hid (belNew (bel L4.out hb) (.cells #[.int .u64 n1, .int .i64 n2, .int .i64 n3, .int .i64 n4, .int .i64 n5, .int .i64 n6] 26))
  have hD5 := (Below.heap_alloc w5 (.cells #[.int .u64 n1, .int .i64 n2, .int .i64 n3, .int .i64 n4, .int .i64 n5, .int .i64 n6] 26) D (Nat.lt_of_lt_of_le ltX hb.size)).trans ((hb.block D ltX).trans hD)
  have hE5 := heap_newL w5 (.cells #[.int .u64 n1, .int .i64 n2, .int .i64 n3, .int .i64 n4, .int .i64 n5, .int .i64 n6] 26)
  have c5 := cell_rowL hD5
  clear hb L4 HC1 hD
  go_wp2
  go_ret
  exact ⟨rfl, L5.out⟩

set_option maxRecDepth 100000 in
set_option maxHeartbeats 4000000 in
theorem later_2a (X Y : List UInt8) (m1 m2 m3 m4 m5 m6 n1 n2 n3 n4 n5 n6 k : Int) (w : World) (_hk0 : 0 ≤ k) (_hk1 : k < 256) (_hm0 : 0 ≤ m1) (_hm1 : m1 < 18446744073709551616) (_hn0 : 0 ≤ n1) (_hn1 : n1 < 18446744073709551616)
    (HX0 : ∀ W, Calls Try.prog 7 #[.agg #[.int .u64 m1, .int .i64 m2, .int .i64 m3, .int .i64 m4, .int .i64 m5, .int .i64 m6]] W fun e w' => e = .returned (.string (bs X)) ∧ Below W.heap.size W w')
    (HY0 : ∀ W, Calls Try.prog 7 #[.agg #[.int .u64 n1, .int .i64 n2, .int .i64 n3, .int .i64 n4, .int .i64 n5, .int .i64 n6]] W fun e w' => e = .returned (.string (bs Y)) ∧ Below W.heap.size W w')
    (hX : ((bs X).toList == []) = false) (hY : ((bs Y).toList == []) = false) (_zX : (bs X).size = 64) (_zY : (bs Y).size = 64) (hp : m1 % 2 = 0) (hq : n1 % 2 = 1) (hk : k % 3 = 2) (hlt : m1 < n1)
    (HC1 : ∀ W, Calls Try.prog 8 #[.string (bs X), .string (bs Y ++ ⟨#[122]⟩)] W fun e w' => e = .returned (.tuple #[.agg #[.int .u64 m1, .int .i64 m2, .int .i64 m3, .int .i64 m4, .int .i64 m5, .int .i64 m6], .nilIface]) ∧ Below W.heap.size W w') :
    Calls Try.prog 3 #[.agg #[.int .u64 m1, .int .i64 m2, .int .i64 m3, .int .i64 m4, .int .i64 m5, .int .i64 m6], .agg #[.int .u64 n1, .int .i64 n2, .int .i64 n3, .int .i64 n4, .int .i64 n5, .int .i64 n6], .int .u8 k] w fun e w' => e = .returned (.bool true) ∧ Below w.heap.size w w' := by
  have HX := hid (fun W d os => Calls.regrown_of (HX0 (grow (redrawn W d) os)))
  have HY := hid (fun W d os => Calls.regrown_of (HY0 (grow (redrawn W d) os)))
  clear HX0 HY0
  replace HC1 := hid HC1
  have hnil := Try.eqNilNil
  have heq := eqMeta m1 m2 m3 m4 m5 m6
  go_enter Try.func3, Try.ntmps3
  go_wp2_with fail
  refine (known_any _).mono ?_
  rintro e w1 ⟨rfl, hb⟩
  obtain ⟨hM1, hN1⟩ := boxes2 hb
  have L1 := hid (((Below.refl w.heap.size w).alloc (Nat.le_refl _) (.cells #[.int .u64 m1, .int .i64 m2, .int .i64 m3, .int .i64 m4, .int .i64 m5, .int .i64 m6] 26)).alloc (by simp) (.cells #[.int .u64 n1, .int .i64 n2, .int .i64 n3, .int .i64 n4, .int .i64 n5, .int .i64 n6] 26) |>.trans (hb.mono (by simp; omega)))
  have z1 : w.heap.size + 1 < w1.heap.size := (Array.getElem?_eq_some_iff.1 hN1).1
  have hcM := fun d os => cell_rowL (((below_regrown w1 d os).block w.heap.size (by omega)).trans hM1)
  have hcN := fun d os => cell_rowL (((below_regrown w1 d os).block (w.heap.size + 1) (by omega)).trans hN1)
  clear hb
  go_wp2_with fail
  refine wp_region_quiet_below (by kernel_rfl) (by kernel_rfl) ?_
  repeat (go_big_quiet_step (first | exact HX.out _ _ _ | exact HY.out _ _ _))
  refine wpQuiet_nil ?_
  intro _ hw'
  obtain ⟨⟨dq, osq⟩, hw''⟩ := hw'
  subst hw''
  have L3 := hid (L1.out.trans ((below_regrown w1 dq osq).mono L1.out.size))
  have hM3 := ((below_regrown w1 dq osq).block w.heap.size (by omega)).trans hM1
  have hN3 := ((below_regrown w1 dq osq).block (w.heap.size + 1) (by omega)).trans hN1
  have z3 : w.heap.size + 1 < (grow (redrawn w1 dq) osq).heap.size := Nat.lt_of_lt_of_le z1 (below_regrown w1 dq osq).size
  clear hcM hcN hM1 hN1 L1 z1 HX HY
  generalize grow (redrawn w1 dq) osq = w3 at *
  have cM := cell_rowL hM3
  have cN := cell_rowL hN3
  have z3' : w.heap.size < w3.heap.size := by omega
  clear hM3 hN3
  go_wp2_with fail
  go_region
  go_wp2_with fail
  have L4 := belNew L3.out (.cells #[.int .u64 m1, .int .i64 m2, .int .i64 m3, .int .i64 m4, .int .i64 m5, .int .i64 m6] 26)
  have hD := heap_newL w3 (.cells #[.int .u64 m1, .int .i64 m2, .int .i64 m3, .int .i64 m4, .int .i64 m5, .int .i64 m6] 26)
  replace L4 := below_drew L4
  replace L4 := hid L4
  replace hD : ((w3.alloc (.cells #[.int .u64 m1, .int .i64 m2, .int .i64 m3, .int .i64 m4, .int .i64 m5, .int .i64 m6] 26)).drew).heap[w3.heap.size]? = _ := hD
  generalize (w3.alloc (.cells #[.int .u64 m1, .int .i64 m2, .int .i64 m3, .int .i64 m4, .int .i64 m5, .int .i64 m6] 26)).drew = X4 at *
  generalize w3.heap.size = D at *
  refine (HC1.out _).mono ?_
  rintro e w5 ⟨rfl, hb⟩
  have ltX : D < X4.heap.size := (Array.getElem?_eq_some_iff.1 hD).1
  have L5 := hid (belNew (bel L4.out hb) (.cells #[.int .u64 m1, .int .i64 m2, .int .i64 m3, .int .i64 m4, .int .i64 m5, .int .i64 m6] 26))
  have hD5 := (Below.heap_alloc w5 (.cells #[.int .u64 m1, .int .i64 m2, .int .i64 m3, .int .i64 m4, .int .i64 m5, .int .i64 m6] 26) D (Nat.lt_of_lt_of_le ltX hb.size)).trans ((hb.block D ltX).trans hD)
  have hE5 := heap_newL w5 (.cells #[.int .u64 m1, .int .i64 m2, .int .i64 m3, .int .i64 m4, .int .i64 m5, .int .i64 m6] 26)
  have c5 := cell_rowL hD5
  clear hb L4 HC1 hD
  go_wp2
  go_ret
  exact ⟨rfl, L5.out⟩

set_option maxRecDepth 100000 in
set_option maxHeartbeats 4000000 in
theorem later_2b (X Y : List UInt8) (m1 m2 m3 m4 m5 m6 n1 n2 n3 n4 n5 n6 k : Int) (w : World) (_hk0 : 0 ≤ k) (_hk1 : k < 256) (_hm0 : 0 ≤ m1) (_hm1 : m1 < 18446744073709551616) (_hn0 : 0 ≤ n1) (_hn1 : n1 < 18446744073709551616)
    (HX0 : ∀ W, Calls Try.prog 7 #[.agg #[.int .u64 m1, .int .i64 m2, .int .i64 m3, .int .i64 m4, .int .i64 m5, .int .i64 m6]] W fun e w' => e = .returned (.string (bs X)) ∧ Below W.heap.size W w')
    (HY0 : ∀ W, Calls Try.prog 7 #[.agg #[.int .u64 n1, .int .i64 n2, .int .i64 n3, .int .i64 n4, .int .i64 n5, .int .i64 n6]] W fun e w' => e = .returned (.string (bs Y)) ∧ Below W.heap.size W w')
    (hX : ((bs X).toList == []) = false) (hY : ((bs Y).toList == []) = false) (_zX : (bs X).size = 64) (_zY : (bs Y).size = 64) (hp : m1 % 2 = 0) (hq : n1 % 2 = 1) (hk : k % 3 = 2) (hlt : ¬ m1 < n1)
    (HC1 : ∀ W, Calls Try.prog 8 #[.string (bs X), .string (bs Y ++ ⟨#[122]⟩)] W fun e w' => e = .returned (.tuple #[.agg #[.int .u64 m1, .int .i64 m2, .int .i64 m3, .int .i64 m4, .int .i64 m5, .int .i64 m6], .nilIface]) ∧ Below W.heap.size W w') :
    Calls Try.prog 3 #[.agg #[.int .u64 m1, .int .i64 m2, .int .i64 m3, .int .i64 m4, .int .i64 m5, .int .i64 m6], .agg #[.int .u64 n1, .int .i64 n2, .int .i64 n3, .int .i64 n4, .int .i64 n5, .int .i64 n6], .int .u8 k] w fun e w' => e = .returned (.bool true) ∧ Below w.heap.size w w' := by
  have HX := hid (fun W d os => Calls.regrown_of (HX0 (grow (redrawn W d) os)))
  have HY := hid (fun W d os => Calls.regrown_of (HY0 (grow (redrawn W d) os)))
  clear HX0 HY0
  replace HC1 := hid HC1
  have hnil := Try.eqNilNil
  have heq := eqMeta m1 m2 m3 m4 m5 m6
  go_enter Try.func3, Try.ntmps3
  go_wp2_with fail
  refine (known_any _).mono ?_
  rintro e w1 ⟨rfl, hb⟩
  obtain ⟨hM1, hN1⟩ := boxes2 hb
  have L1 := hid (((Below.refl w.heap.size w).alloc (Nat.le_refl _) (.cells #[.int .u64 m1, .int .i64 m2, .int .i64 m3, .int .i64 m4, .int .i64 m5, .int .i64 m6] 26)).alloc (by simp) (.cells #[.int .u64 n1, .int .i64 n2, .int .i64 n3, .int .i64 n4, .int .i64 n5, .int .i64 n6] 26) |>.trans (hb.mono (by simp; omega)))
  have z1 : w.heap.size + 1 < w1.heap.size := (Array.getElem?_eq_some_iff.1 hN1).1
  have hcM := fun d os => cell_rowL (((below_regrown w1 d os).block w.heap.size (by omega)).trans hM1)
  have hcN := fun d os => cell_rowL (((below_regrown w1 d os).block (w.heap.size + 1) (by omega)).trans hN1)
  clear hb
  go_wp2_with fail
  refine wp_region_quiet_below (by kernel_rfl) (by kernel_rfl) ?_
  repeat (go_big_quiet_step (first | exact HX.out _ _ _ | exact HY.out _ _ _))
  refine wpQuiet_nil ?_
  intro _ hw'
  obtain ⟨⟨dq, osq⟩, hw''⟩ := hw'
  subst hw''
  have L3 := hid (L1.out.trans ((below_regrown w1 dq osq).mono L1.out.size))
  have hM3 := ((below_regrown w1 dq osq).block w.heap.size (by omega)).trans hM1
  have hN3 := ((below_regrown w1 dq osq).block (w.heap.size + 1) (by omega)).trans hN1
  have z3 : w.heap.size + 1 < (grow (redrawn w1 dq) osq).heap.size := Nat.lt_of_lt_of_le z1 (below_regrown w1 dq osq).size
  clear hcM hcN hM1 hN1 L1 z1 HX HY
  generalize grow (redrawn w1 dq) osq = w3 at *
  have cM := cell_rowL hM3
  have cN := cell_rowL hN3
  have z3' : w.heap.size < w3.heap.size := by omega
  clear hM3 hN3
  go_wp2_with fail
  go_region
  go_wp2_with fail
  have L4 := belNew L3.out (.cells #[.int .u64 m1, .int .i64 m2, .int .i64 m3, .int .i64 m4, .int .i64 m5, .int .i64 m6] 26)
  have hD := heap_newL w3 (.cells #[.int .u64 m1, .int .i64 m2, .int .i64 m3, .int .i64 m4, .int .i64 m5, .int .i64 m6] 26)
  replace L4 := below_drew L4
  replace L4 := hid L4
  replace hD : ((w3.alloc (.cells #[.int .u64 m1, .int .i64 m2, .int .i64 m3, .int .i64 m4, .int .i64 m5, .int .i64 m6] 26)).drew).heap[w3.heap.size]? = _ := hD
  generalize (w3.alloc (.cells #[.int .u64 m1, .int .i64 m2, .int .i64 m3, .int .i64 m4, .int .i64 m5, .int .i64 m6] 26)).drew = X4 at *
  generalize w3.heap.size = D at *
  refine (HC1.out _).mono ?_
  rintro e w5 ⟨rfl, hb⟩
  have ltX : D < X4.heap.size := (Array.getElem?_eq_some_iff.1 hD).1
  have L5 := hid (belNew (bel L4.out hb) (.cells #[.int .u64 m1, .int .i64 m2, .int .i64 m3, .int .i64 m4, .int .i64 m5, .int .i64 m6] 26))
  have hD5 := (Below.heap_alloc w5 (.cells #[.int .u64 m1, .int .i64 m2, .int .i64 m3, .int .i64 m4, .int .i64 m5, .int .i64 m6] 26) D (Nat.lt_of_lt_of_le ltX hb.size)).trans ((hb.block D ltX).trans hD)
  have hE5 := heap_newL w5 (.cells #[.int .u64 m1, .int .i64 m2, .int .i64 m3, .int .i64 m4, .int .i64 m5, .int .i64 m6] 26)
  have c5 := cell_rowL hD5
  clear hb L4 HC1 hD
  go_wp2
  go_ret
  exact ⟨rfl, L5.out⟩
end Go.Proofs.Ytgnmjdcmaahlnaa
