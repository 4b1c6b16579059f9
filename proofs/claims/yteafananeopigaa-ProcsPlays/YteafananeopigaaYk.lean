/- Contract of the statements' own opening test known: it returns true and leaves what was there. -/
import Derived.Test.YteafananeopigaaYf
import Derived.Test.YteafananeopigaaYb
import Derived.Test.YteafananeopigaaYi
namespace Go.Proofs.Yteafananeopigaa
open Go.RowKit

theorem bel {w W W' : World} {B : Nat} (h : Below B w W) (h' : Below W.heap.size W W') (hB : B ≤ W.heap.size) : Below B w W' := h.trans (h'.mono hB)
/-- What a method of the object turns is no row of another's. -/
theorem OwnInts.po {w w' : World} {base B pb cb n : Nat} {u v v' : Value} {last : Int} {l m : List Int} (h : OwnInts w base u m) (hP : ProcsAt w B pb cb v last l n) (ho : Po pb cb w v w' v') (hne : ∀ g, u.ownBlock = some g → v.ownBlock ≠ some g) : OwnInts w' base u m := by
  refine h.kept (fun g hg => ?_)
  obtain ⟨cur, hc⟩ := own_block h hg
  refine ho.block g (lt_of_heap hc) (fun e => ?_) (fun e => ?_) (hne g hg)
  · subst e
    have := hP.obj
    rw [hc] at this
    simp at this
  · subst e
    obtain ⟨s, r, hch⟩ := hP.ch
    rw [hc] at hch
    simp at hch
theorem OwnInts.below {w w' : World} {base : Nat} {u : Value} {l : List Int} (h : OwnInts w base u l) (hb : Below w.heap.size w w') : OwnInts w' base u l :=
  h.kept (fun g hg => hb.block g (World.ownsRow.lt h g hg).2)
theorem ints_two (w : World) (a b : Int) : IntsAt (w.alloc (.cells #[.int .i64 a, .int .i64 b] 3)) (.slice (some ⟨w.heap.size, 0, none⟩) 2 2) [a, b] := by
  refine ⟨some ⟨w.heap.size, 0, none⟩, 2, rfl, by simp [maxLen], fun i hi => ⟨_, rfl, ?_⟩⟩
  rw [Addr.add_mid, cell_rowL (heap_newL w _)]
  match i, hi with
  | 0, _ => rfl
  | 1, _ => rfl
theorem eqPtr (b : Nat) (w : World) : (binOp .eql 24 (.pointer (some ⟨b, 0, none⟩)) (.pointer none)).run Try.prog w = .ok (.bool false) w := by
  simp [go_sem, Try.underlying24]

set_option maxRecDepth 100000 in
set_option maxHeartbeats 4000000 in
theorem known_any (w : World) : Calls Try.prog 6 #[] w fun e w' => e = .returned (.bool true) ∧ Below w.heap.size w w' := by
  have hnil := Try.eqNilNil
  have HNew := hid (new_any w)
  generalize hpb : w.heap.size + 1 = pb at *
  go_enter Try.func6, Try.ntmps6
  go_wp2_with fail
  refine HNew.out.mono ?_
  rintro e w1 ⟨rfl, F1, B1⟩
  replace F1 := hid F1
  replace B1 := hid B1
  clear HNew
  replace hpb := hid hpb
  generalize hcb : w.heap.size = cb at *
  replace hcb := hid hcb
  go_wp2_with fail
  refine (spawn_any _ cb pb cb _ 0 [] F1.out (by simp) (by omega)).mono ?_
  rw [show ([] : List Int) ++ [0 + 1] = [1] from rfl, show (0 : Int) + 1 = 1 from rfl]
  rintro e w2 ⟨rfl, v2, F2, O2⟩
  have B2 := hid (B1.out.trans (O2.below F1.out))
  replace F2 := hid F2
  clear O2 F1 B1
  go_wp2_with fail
  refine (spawn_any _ cb pb cb _ 1 [1] F2.out (by simp) (by omega)).mono ?_
  rw [show ([1] : List Int) ++ [1 + 1] = [1, 2] from rfl, show (1 : Int) + 1 = 2 from rfl]
  rintro e w3 ⟨rfl, v3, F3, O3⟩
  have B3 := hid (B2.out.trans (O3.below F2.out))
  replace F3 := hid F3
  clear O3 F2 B2
  go_wp2_with fail
  refine (kill_any _ cb pb cb _ 2 1 [1, 2] F3.out (by simp)).mono ?_
  rw [show killL [1, 2] 1 = [2] from rfl]
  rintro e w4 ⟨rfl, v4, F4, O4⟩
  have B4 := hid (B3.out.trans (O4.below F3.out))
  replace F4 := hid F4
  clear O4 F3 B3
  go_wp2_with fail
  refine (kill_not _ cb pb cb _ _ 2 1 [2] F4.out (by simp)).mono ?_
  rintro e w5 ⟨rfl, Bw⟩
  have F5 := hid (F4.out.below Bw)
  have B5 := hid (bel B4.out Bw (by have := B4.out.size; have := F4.out.baseLe; omega))
  clear Bw F4 B4
  go_wp2_with fail
  refine (spawn_any _ cb pb cb _ 2 [2] F5.out (by simp) (by omega)).mono ?_
  rw [show ([2] : List Int) ++ [2 + 1] = [2, 3] from rfl, show (2 : Int) + 1 = 3 from rfl]
  rintro e w6 ⟨rfl, v6, F6, O6⟩
  have B6 := hid (B5.out.trans (O6.below F5.out))
  replace F6 := hid F6
  clear O6 F5 B5
  go_wp2_with fail
  refine (all_any _ cb pb cb _ _ 3 [2, 3] F6.out).mono ?_
  rintro e w7 ⟨lv, rfl, OL7, Bw⟩
  have hrow : ∀ g, lv.ownBlock = some g → v6.ownBlock ≠ some g := fun g h1 h2 => by have := (World.ownsRow.lt OL7 g h1).1; have := (F6.out.rowLt g h2).2; omega
  have F7 := hid (F6.out.below Bw)
  have B7 := hid (bel B6.out Bw (by have := F6.out.baseLe; omega))
  obtain ⟨lo, lc, rfl⟩ := OL7.slice
  replace OL7 := hid OL7
  replace hrow := hid hrow
  clear Bw F6 B6
  go_wp2_with fail
  refine (power_any _ cb pb cb _ _ 3 [2, 3] F7.out).mono ?_
  rintro e w8 ⟨rfl, F8, O8⟩
  have OL8 := hid (OL7.out.po F7.out O8 hrow.out)
  have B8 := hid (B7.out.trans (O8.below F7.out))
  replace F8 := hid F8
  clear O8 F7 B7 OL7 hrow
  go_wp2_with fail
  refine (is_same25 _).mono ?_
  rintro e w9 ⟨rfl, rfl⟩
  go_wp2_with fail
  have BV := (Below.refl w9.heap.size w9).alloc (Nat.le_refl _) (.cells #[.int .i64 2, .int .i64 3] 3)
  refine (refSameInts_any [2, 3] [2, 3] _ _ _ ((OL8.out.below BV).at (by simp [maxLen])) (ints_two w9 2 3)).mono ?_
  rintro e w10 ⟨rfl, Bx⟩
  have BV2 := BV.trans (Bx.mono BV.size)
  have F10 := hid (F8.out.below BV2)
  have B10 := hid (bel B8.out BV2 (by have := F8.out.baseLe; omega))
  clear BV BV2 Bx F8 B8 OL8
  go_wp2_with fail
  refine (lives_any _ cb pb cb _ _ 3 2 [] F10.out).mono ?_
  rw [show ([] : List Int).contains 2 = false from rfl]
  rintro e w11 ⟨rfl, Bw⟩
  have F11 := hid (F10.out.below Bw)
  have B11 := hid (bel B10.out Bw (by have := F10.out.baseLe; omega))
  clear Bw F10 B10
  go_wp2_with fail
  refine (all_any _ cb pb cb _ _ 3 [] F11.out).mono ?_
  rintro e w12 ⟨lv, rfl, OLy, Bw⟩
  obtain ⟨lo2, lc2, rfl⟩ := OLy.slice
  have B12 := hid (bel B11.out Bw (by have := F11.out.baseLe; omega))
  clear OLy Bw F11 B11
  go_wp2
  go_ret
  exact ⟨rfl, by have := B12.out; rw [← hcb.out] at this; exact this⟩
end Go.Proofs.Yteafananeopigaa
