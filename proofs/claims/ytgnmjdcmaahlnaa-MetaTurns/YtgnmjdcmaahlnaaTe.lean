/- Contract of the statements' own opening test known: it returns true and leaves what was there. -/
import Derived.Test.YtgnmjdcmaahlnaaTd
import Derived.Test.YtgnmjdcmaahlnaaWi
namespace Go.Proofs.Ytgnmjdcmaahlnaa
open Go.RowKit Go.Sort

theorem fresh0 : freshM 0 = plainM 0 2 := by simp [freshM, plainM]; decide
theorem fresh1 : freshM 1 = plainM 1 2 := by simp [freshM, plainM]; decide
theorem plain_ok {t l : Int} (h0 : 0 ≤ t) (h1 : t < 18446744073709551616) : MOk (plainM t l) := ⟨h0, h1⟩
theorem size64 {m : MetaD} (h : isM m = true) : (bs (metaB m)).size ≤ maxLen := by rw [bs_size, metaB_len h]; unfold maxLen; omega
/-- The bytes of a meta whose parts are written out. -/
theorem bytes_plain (t l : Int) (w : World) (h0 : 0 ≤ t) (h1 : t < 18446744073709551616) :
    Calls Try.prog 7 #[.agg #[.int .u64 t, .int .i64 0, .int .i64 0, .int .i64 0, .int .i64 0, .int .i64 l]] w fun e w' => e = .returned (.string (bs (metaB (plainM t l)))) ∧ Below w.heap.size w w' :=
  metaBytes_any (plainM t l) w (plain_ok h0 h1)
theorem chose {a b : ByteArray} {l : List MetaD} {m : MetaD} {t : Bool} (w : World) (ha : a.size ≤ maxLen) (hb : b.size ≤ maxLen) (hl : chooseL a.data.toList b.data.toList = l) (hp : pickM l = (m, t)) :
    Calls Try.prog 8 #[.string a, .string b] w fun e w' => e = .returned (.tuple #[metaA m, errM t]) ∧ Below w.heap.size w w' := by
  have h := choose_any a b w ha hb
  rw [hl, hp] at h
  exact h
theorem is01 (t : Int) : isM (plainM t 2) = true := plainM_is (by omega) (by omega)
theorem known1 (w : World) : Calls Try.prog 8 #[.string (bs (metaB (plainM 0 2))), .string (bs (metaB (plainM 1 2)))] w fun e w' => e = .returned (.tuple #[.agg #[.int .u64 1, .int .i64 0, .int .i64 0, .int .i64 0, .int .i64 0, .int .i64 2], .nilIface]) ∧ Below w.heap.size w w' :=
  chose (l := [plainM 0 2, plainM 1 2]) (m := plainM 1 2) (t := true) w (size64 (is01 0)) (size64 (is01 1)) (by
    rw [bs_list, bs_list, chooseL, sent_meta (is01 0) (plain_ok (by omega) (by omega)), sent_meta (is01 1) (plain_ok (by omega) (by omega))]
    simp [plainM]) (pick_two (by simp [plainM]))
theorem known2 (w : World) : Calls Try.prog 8 #[.string (bs (metaB (plainM 0 2))), .string ⟨#[120]⟩] w fun e w' => e = .returned (.tuple #[.agg #[.int .u64 0, .int .i64 0, .int .i64 0, .int .i64 0, .int .i64 0, .int .i64 2], .nilIface]) ∧ Below w.heap.size w w' :=
  chose (l := [plainM 0 2]) (m := plainM 0 2) (t := true) w (size64 (is01 0)) (by decide) (by
    rw [bs_list, chooseL, sent_meta (is01 0) (plain_ok (by omega) (by omega)), sent_not (by simp)]
    simp [plainM]) rfl
theorem known3 (w : World) : Calls Try.prog 8 #[.string (bs (metaB (plainM 1 2))), .string (bs (metaB (plainM 0 2)))] w fun e w' => e = .returned (.tuple #[.agg #[.int .u64 0, .int .i64 0, .int .i64 0, .int .i64 0, .int .i64 0, .int .i64 0], .iface 34 (.int .i64 12)]) ∧ Below w.heap.size w w' :=
  chose (l := []) (m := noMeta) (t := false) w (size64 (is01 1)) (size64 (is01 0)) (by
    rw [bs_list, bs_list, chooseL, sent_meta (is01 0) (plain_ok (by omega) (by omega)), sent_meta (is01 1) (plain_ok (by omega) (by omega))]
    simp [plainM]) rfl
theorem known4 (w : World) : Calls Try.prog 7 #[.agg #[.int .u64 0, .int .i64 0, .int .i64 0, .int .i64 0, .int .i64 0, .int .i64 0]] w fun e w' => e = .returned (.string ⟨#[]⟩) ∧ Below w.heap.size w w' := by
  have h := metaBytes_any noMeta w ⟨by decide, by decide⟩
  rw [noMeta_none] at h
  exact h
theorem knownF0 (w : World) : Calls Try.prog 10 #[.int .i64 0] w fun e w' => e = .returned (.agg #[.int .u64 0, .int .i64 0, .int .i64 0, .int .i64 0, .int .i64 0, .int .i64 2]) ∧ Below w.heap.size w w' := by
  have h := fresh_any 0 w
  rw [fresh0] at h
  exact h
theorem knownF1 (w : World) : Calls Try.prog 10 #[.int .i64 1] w fun e w' => e = .returned (.agg #[.int .u64 1, .int .i64 0, .int .i64 0, .int .i64 0, .int .i64 0, .int .i64 2]) ∧ Below w.heap.size w w' := by
  have h := fresh_any 1 w
  rw [fresh1] at h
  exact h
theorem knownP (w : World) : Calls Try.prog 11 #[.int .u64 7] w fun e w' => e = .returned (.int .i64 1) ∧ w' = w := place_any 7 w (by omega) (by omega)
theorem bel {w W W' : World} (h : Below w.heap.size w W) (h' : Below W.heap.size W W') : Below w.heap.size w W' := h.trans (h'.mono h.size)
theorem belNew {w W : World} (h : Below w.heap.size w W) (o : Obj) : Below w.heap.size w (W.alloc o) := h.alloc h.size o

set_option maxRecDepth 100000 in
set_option maxHeartbeats 4000000 in
theorem known_any (w : World) : Calls Try.prog 6 #[] w fun e w' => e = .returned (.bool true) ∧ Below w.heap.size w w' := by
  have H1 := hid known1
  have H2 := hid known2
  have H3 := hid known3
  have HB0 := hid (fun W => bytes_plain 0 2 W (by omega) (by omega))
  have HB1 := hid (fun W => bytes_plain 1 2 W (by omega) (by omega))
  have z0 : (bs (metaB (plainM 0 2))).size = 64 := by rw [bs_size, metaB_len (is01 0)]
  generalize bs (metaB (plainM 0 2)) = A at *
  generalize bs (metaB (plainM 1 2)) = B at *
  have hnil := Try.eqNilNil
  go_enter Try.func6, Try.ntmps6
  go_wp2_with fail
  refine (knownF0 _).mono ?_
  rintro e w1 ⟨rfl, hb⟩
  have L1 := hid hb
  clear hb
  go_wp2_with fail
  refine (HB0.out _).mono ?_
  rintro e w2 ⟨rfl, hb⟩
  have L2 := hid (bel L1.out hb)
  clear hb L1 HB0
  go_wp2_with fail
  refine (knownF1 _).mono ?_
  rintro e w3 ⟨rfl, hb⟩
  have L3 := hid (bel L2.out hb)
  clear hb L2
  go_wp2_with fail
  refine (HB1.out _).mono ?_
  rintro e w4 ⟨rfl, hb⟩
  have L4 := hid (bel L3.out hb)
  clear hb L3 HB1
  go_wp2_with fail
  refine (H1.out _).mono ?_
  rintro e w5 ⟨rfl, hb⟩
  have L5 := hid (belNew (bel L4.out hb) (.cells #[.int .u64 1, .int .i64 0, .int .i64 0, .int .i64 0, .int .i64 0, .int .i64 2] 26))
  have M5 := heap_newL w5 (.cells #[.int .u64 1, .int .i64 0, .int .i64 0, .int .i64 0, .int .i64 0, .int .i64 2] 26)
  clear hb L4 H1
  go_wp2_with fail
  generalize w5.alloc (.cells #[.int .u64 1, .int .i64 0, .int .i64 0, .int .i64 0, .int .i64 0, .int .i64 2] 26) = X5 at *
  generalize w5.heap.size = P5 at *
  refine (H2.out _).mono ?_
  rintro e w6 ⟨rfl, hb⟩
  have L6 := hid (belNew (bel L5.out hb) (.cells #[.int .u64 0, .int .i64 0, .int .i64 0, .int .i64 0, .int .i64 0, .int .i64 2] 26))
  have M6 := heap_newL w6 (.cells #[.int .u64 0, .int .i64 0, .int .i64 0, .int .i64 0, .int .i64 0, .int .i64 2] 26)
  have k5 : P5 < X5.heap.size := (Array.getElem?_eq_some_iff.1 M5).1
  have N5 := (hb.block P5 k5).trans M5
  have k6 : P5 < w6.heap.size := Nat.lt_of_lt_of_le k5 hb.size
  have N6 := (Below.heap_alloc w6 (.cells #[.int .u64 0, .int .i64 0, .int .i64 0, .int .i64 0, .int .i64 0, .int .i64 2] 26) P5 k6).trans N5
  clear hb L5 H2 M5 N5 k5
  go_wp2_with fail
  generalize w6.alloc (.cells #[.int .u64 0, .int .i64 0, .int .i64 0, .int .i64 0, .int .i64 0, .int .i64 2] 26) = X6 at *
  generalize w6.heap.size = P6 at *
  refine (H3.out _).mono ?_
  rintro e w7 ⟨rfl, hb⟩
  have L7 := hid (belNew (bel L6.out hb) (.cells #[.int .u64 0, .int .i64 0, .int .i64 0, .int .i64 0, .int .i64 0, .int .i64 0] 26))
  have j5 : P5 < X6.heap.size := (Array.getElem?_eq_some_iff.1 N6).1
  have j6 : P6 < X6.heap.size := (Array.getElem?_eq_some_iff.1 M6).1
  have n5 := (Below.heap_alloc w7 (.cells #[.int .u64 0, .int .i64 0, .int .i64 0, .int .i64 0, .int .i64 0, .int .i64 0] 26) P5 (Nat.lt_of_lt_of_le j5 hb.size)).trans ((hb.block P5 j5).trans N6)
  have n6 := (Below.heap_alloc w7 (.cells #[.int .u64 0, .int .i64 0, .int .i64 0, .int .i64 0, .int .i64 0, .int .i64 0] 26) P6 (Nat.lt_of_lt_of_le j6 hb.size)).trans ((hb.block P6 j6).trans M6)
  have c5 := cell_rowL n5
  have c6 := cell_rowL n6
  clear hb L6 H3 M6 N6 j5 j6 n5 n6 k6
  go_wp2_with fail
  refine (is_same _).mono ?_
  rintro e w8 ⟨rfl, rfl⟩
  go_wp2_with fail
  refine (knownP _).mono ?_
  rintro e w8 ⟨rfl, rfl⟩
  go_wp2_with fail
  refine (known4 _).mono ?_
  rintro e w8 ⟨rfl, hb⟩
  have L8 := hid (bel L7.out hb)
  clear hb L7 c5 c6
  go_wp2
  go_ret
  exact ⟨rfl, L8.out⟩
end Go.Proofs.Ytgnmjdcmaahlnaa
