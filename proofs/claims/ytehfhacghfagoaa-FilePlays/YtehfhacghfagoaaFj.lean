/- Contract of the statements' own opening test known: it returns true and leaves what was there. -/
import Derived.Test.YtehfhacghfagoaaFg
import Derived.Test.YtehfhacghfagoaaFh
import Derived.Test.YtehfhacghfagoaaFi
namespace Go.Proofs.Ytehfhacghfagoaa
open Go.RowKit

theorem Fo.keeps {w w' : World} {B fb b : Nat} {v v' : Value} {l : List Sh} {cs : Array Value} {T : TypeId} {fr : Nat × Nat} (h : Fo fb w v w' v') (hf : FileAt w B fb v l) (hb : w.heap[b]? = some (.cells cs T fr)) (h1 : T ≠ 56) (h2 : T ≠ 58) : w'.heap[b]? = w.heap[b]? := by
  refine h.block b (lt_of_heap hb) (fun e => ?_) (fun e => ?_)
  · subst e
    rw [hf.obj] at hb
    simp only [Option.some.injEq, Obj.cells.injEq] at hb
    exact h1 hb.2.1.symm
  · rcases hf.row.2 with ⟨rfl, _⟩ | ⟨g, cap, cur, rfl, _, hg, _⟩
    · simp [Value.ownBlock] at e
    · simp [Value.ownBlock] at e
      subst e
      rw [hg] at hb
      simp only [Option.some.injEq, Obj.cells.injEq] at hb
      exact h2 hb.2.1.symm
theorem OwnInts.block {w w' : World} {base : Nat} {u : Value} {l : List Int} (h : OwnInts w base u l) (hk : ∀ (b : Nat) (cs : Array Value) (fr : Nat × Nat), w.heap[b]? = some (Obj.cells cs 3 fr) → w'.heap[b]? = w.heap[b]?) : OwnInts w' base u l := by
  refine ⟨h.1, ?_⟩
  rcases h.2 with hn | ⟨g, cap, cur, rfl, hb, hgg, rest⟩
  · exact .inl hn
  · exact .inr ⟨g, cap, cur, rfl, hb, (hk g _ _ hgg).trans hgg, rest⟩
theorem OwnInts.fo {w w' : World} {base B fb : Nat} {u v v' : Value} {l : List Int} {m : List Sh} (h : OwnInts w base u l) (hf : FileAt w B fb v m) (ho : Fo fb w v w' v') : OwnInts w' base u l :=
  h.block fun _ _ _ hb => ho.keeps hf hb (by decide) (by decide)
theorem OwnInts.below {w w' : World} {base : Nat} {u : Value} {l : List Int} (h : OwnInts w base u l) (hb : Below w.heap.size w w') : OwnInts w' base u l :=
  h.block fun b _ _ hh => hb.block b (lt_of_heap hh)
theorem FileAt.other {w w' : World} {B2 fb cb : Nat} {v v' u : Value} {m : List Sh} (hc : FileAt w B2 cb u m) (h : Fo fb w v w' v') (h1 : fb < B2) (h2 : ∀ g, v.ownBlock = some g → g < B2) : FileAt w' B2 cb u m :=
  hc.kept (h.block cb hc.lt (by have := hc.base; omega) (fun e => by have := h2 _ e; have := hc.base; omega)) (fun g e => h.block g (hc.rowLt g e).2 (by have := (hc.rowLt g e).1; omega) (fun e' => by have := h2 _ e'; have := (hc.rowLt g e).1; omega))
theorem bel {w W W' : World} {B : Nat} (h : Below B w W) (h' : Below W.heap.size W W') (hB : B ≤ W.heap.size) : Below B w W' := h.trans (h'.mono hB)
def aB : ByteArray := ⟨#[97]⟩
def cB : ByteArray := ⟨#[99]⟩
def eB : ByteArray := ⟨#[]⟩
def L1 : List Sh := [⟨aB, aB, false⟩]
def L2 : List Sh := [⟨aB, aB, false⟩, ⟨eB, eB, true⟩, ⟨cB, eB, true⟩]
def L3 : List Sh := [⟨aB, aB, false⟩, ⟨eB, eB, false⟩, ⟨cB, cB, false⟩]
theorem e_new : newL [aB] = L1 := rfl
theorem e_write : writeL L1 2 cB = L2 := rfl
theorem e_loose : looseL L2 0 = [1, 2] := rfl
theorem e_power : powerL L2 [false, true] = L3 := by
  simp [powerL, keptP, L2, L3, nextL, cutL, cutN, syncL, syS, cB, eB]
theorem e_loose3 : looseL L3 0 = [] := rfl
theorem strs_one (w : World) (s : ByteArray) (hs : s.size ≤ maxLen) : StrsAt (w.alloc (.cells #[.string s] 9)) (.slice (some ⟨w.heap.size, 0, none⟩) 1 1) [s] := by
  refine ⟨some ⟨w.heap.size, 0, none⟩, 1, rfl, ⟨by simp [maxLen], by simp⟩, fun i hi => ⟨_, rfl, ?_⟩⟩
  have : i = 0 := by simpa using hi
  subst this
  rw [Addr.add_mid, cell_rowL (heap_newL w _)]
  exact ⟨rfl, hs⟩
theorem bools_two (w : World) (a b : Bool) : BoolsAt (w.alloc (.cells #[.bool a, .bool b] 4)) (.slice (some ⟨w.heap.size, 0, none⟩) 2 2) [a, b] := by
  refine ⟨some ⟨w.heap.size, 0, none⟩, 2, rfl, ⟨by simp [maxLen], by simp⟩, fun i hi => ⟨_, rfl, ?_⟩⟩
  rw [Addr.add_mid, cell_rowL (heap_newL w _)]
  match i, hi with
  | 0, _ => rfl
  | 1, _ => rfl
theorem ints_two (w : World) (a b : Int) : IntsAt (w.alloc (.cells #[.int .i64 a, .int .i64 b] 3)) (.slice (some ⟨w.heap.size, 0, none⟩) 2 2) [a, b] := by
  refine ⟨some ⟨w.heap.size, 0, none⟩, 2, rfl, by simp [maxLen], fun i hi => ⟨_, rfl, ?_⟩⟩
  rw [Addr.add_mid, cell_rowL (heap_newL w _)]
  match i, hi with
  | 0, _ => rfl
  | 1, _ => rfl

set_option maxRecDepth 100000 in
set_option maxHeartbeats 4000000 in
theorem known_any (w : World) : Calls Try.prog 8 #[] w fun e w' => e = .returned (.bool true) ∧ Below w.heap.size w w' := by
  have hnil := Try.eqNilNil
  have hsz0 : (w.alloc (.cells #[.string aB] 9)).heap.size = w.heap.size + 1 := by simp
  have HNew := hid (new_any [aB] _ _ (strs_one w aB (by decide)) (by simp))
  rw [e_new, hsz0] at HNew
  go_enter Try.func8, Try.ntmps8
  go_wp2_with fail
  refine HNew.out.mono ?_
  rintro e w1 ⟨rfl, v1, F1, B1⟩
  have HB1 := hid (((Below.refl w.heap.size w).alloc (Nat.le_refl _) (.cells #[.string aB] 9)).trans (B1.mono (by omega)))
  have hs1 := hid B1.size
  rw [hsz0] at hs1
  replace F1 := hid F1
  clear B1 HNew
  generalize hfb : w.heap.size + 1 = fb at *
  replace hfb := hid hfb
  clear hsz0
  go_wp2_with fail
  refine (write_any _ fb fb _ L1 2 cB F1.out (by omega)).mono ?_
  rw [e_write]
  rintro e w2 ⟨rfl, v2, F2, O2⟩
  have HB2 := hid (HB1.out.trans ((O2.below F1.out).mono (by have := hfb.out; omega)))
  replace F2 := hid F2
  clear O2 F1 HB1 hs1
  go_wp2_with fail
  refine (write_not _ fb (-1) ⟨#[120]⟩ (by omega)).mono ?_
  rintro e w3 ⟨rfl, rfl⟩
  go_wp2_with fail
  refine (write_not _ fb 400 ⟨#[120]⟩ (by omega)).mono ?_
  rintro e w3 ⟨rfl, rfl⟩
  go_wp2_with fail
  refine (loose_any _ fb fb _ _ F2.out).mono ?_
  rw [e_loose]
  rintro e w4 ⟨lv, rfl, OL4, B4⟩
  have F4 := hid (F2.out.below B4)
  have HB4 := hid (bel HB2.out B4 (by have := HB2.out.size; omega))
  obtain ⟨lo, lc, rfl⟩ := OL4.slice
  replace OL4 := hid OL4
  clear B4 F2 HB2
  go_wp2_with fail
  refine (copy_any _ fb fb _ _ F4.out).mono ?_
  rintro e w5 ⟨cb, cv, rfl, hcb, FC5, B5⟩
  have hrow : ∀ g, v2.ownBlock = some g → g < w4.heap.size := fun g hg => (F4.out.rowLt g hg).2
  have hfl := F4.out.lt
  have F5 := hid (F4.out.below B5)
  have OL5 := hid (OL4.out.below B5)
  have HB5 := hid (bel HB4.out B5 (by have := HB4.out.size; omega))
  have hs5 := B5.size
  generalize w4.heap.size = B2 at *
  replace FC5 := hid FC5
  replace hrow := hid hrow
  clear B5 F4 HB4 OL4
  go_wp2_with fail
  have BV := (Below.refl w5.heap.size w5).alloc (Nat.le_refl _) (.cells #[.bool false, .bool true] 4)
  have F6 := F5.out.below BV
  have FC6 := FC5.out.below BV
  have OL6 := OL5.out.below BV
  have HB6 := hid (bel HB5.out BV (by have := HB5.out.size; omega))
  refine (power_any _ fb fb _ _ _ [false, true] F6 (bools_two w5 false true)).mono ?_
  rw [e_power]
  rintro e w7 ⟨rfl, v7, F7, O7⟩
  have FC7 := hid (FC6.other O7 hfl hrow.out)
  have OL7 := hid (OL6.fo F6 O7)
  have HB7 := hid (HB6.out.trans ((O7.below F6).mono (by have := hfb.out; omega)))
  replace F7 := hid F7
  clear BV F6 FC6 OL6 HB6 O7 F5 FC5 OL5 HB5
  go_wp2_with fail
  refine (is_same _).mono ?_
  rintro e w8 ⟨rfl, rfl⟩
  go_wp2_with fail
  refine (is_same _).mono ?_
  rintro e w8 ⟨rfl, rfl⟩
  go_wp2_with fail
  have BV := (Below.refl w8.heap.size w8).alloc (Nat.le_refl _) (.cells #[.int .i64 1, .int .i64 2] 3)
  refine (refSameInts_any [1, 2] [1, 2] _ _ _ ((OL7.out.below BV).at (by simp [maxLen])) (ints_two w8 1 2)).mono ?_
  rintro e w9 ⟨rfl, B9⟩
  have BV2 := BV.trans (B9.mono BV.size)
  have F9 := hid (F7.out.below BV2)
  have FC9 := hid (FC7.out.below BV2)
  have HB9 := hid (bel HB7.out BV2 (by have := HB7.out.size; omega))
  clear BV BV2 B9 F7 FC7 OL7 HB7
  go_wp2_with fail
  refine (len_any _ fb fb _ _ F9.out).mono ?_
  rw [show L3.length = 3 from rfl]
  rintro e wx ⟨rfl, rfl⟩
  go_wp2_with fail
  refine (read_any _ fb fb _ _ 2 F9.out).mono ?_
  rw [show readL L3 2 = ⟨#[99]⟩ from rfl]
  rintro e wx ⟨rfl, rfl⟩
  go_wp2_with fail
  refine (read_any _ fb fb _ _ 1 F9.out).mono ?_
  rw [show readL L3 1 = ⟨#[]⟩ from rfl]
  rintro e wx ⟨rfl, rfl⟩
  go_wp2_with fail
  refine (read_any _ fb fb _ _ 9 F9.out).mono ?_
  rw [show readL L3 9 = ⟨#[]⟩ from rfl]
  rintro e wx ⟨rfl, rfl⟩
  go_wp2_with fail
  refine (loose_any _ fb fb _ _ F9.out).mono ?_
  rw [e_loose3]
  rintro e wy ⟨lv, rfl, OLy, By⟩
  obtain ⟨lo2, lc2, rfl⟩ := OLy.slice
  have FCy := hid (FC9.out.below By)
  have HBy := hid (bel HB9.out By (by have := HB9.out.size; omega))
  clear OLy By F9 FC9 HB9
  go_wp2_with fail
  refine (loose_any _ _ cb _ _ FCy.out).mono ?_
  rw [e_loose]
  rintro e wz ⟨lv, rfl, OLz, Bz⟩
  obtain ⟨lo3, lc3, rfl⟩ := OLz.slice
  have HBz := hid (bel HBy.out Bz (by have := HBy.out.size; omega))
  clear OLz Bz FCy HBy
  go_wp2
  go_ret
  exact ⟨rfl, HBz.out⟩
end Go.Proofs.Ytehfhacghfagoaa
