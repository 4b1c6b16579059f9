/- Contract of the statements' own opening test known: it returns true and leaves what was there. -/
import Derived.Test.YtpionokcabjokaaGreatZE7
import Derived.Test.YtpionokcabjokaaGreatXI
import Derived.Test.YtpionokcabjokaaGreatZl
namespace Go.Proofs.YtpionokcabjokaaGreat
open Go.RowKit Go.Sort Go.Conc
open H (Up up_ext mergeL dropL Fit RunI RunIs OwnInts RowAt)

theorem eqPtrF (b : Nat) (w : World) : (binOp .eql 37 (.pointer (some ⟨b, 0, none⟩)) (.pointer none)).run Tryz.prog w = .ok (.bool false) w := by
  simp [go_sem, Tryz.underlying37]
theorem eqPtrS (b : Nat) (w : World) : (binOp .eql 39 (.pointer (some ⟨b, 0, none⟩)) (.pointer none)).run Tryz.prog w = .ok (.bool false) w := by
  simp [go_sem, Tryz.underlying39]
theorem errV_10 : errV 10 = .iface 59 (.int .i64 10) := rfl
theorem errV_14 : errV 14 = .iface 59 (.int .i64 14) := rfl
theorem errV_17 : errV 17 = .iface 59 (.int .i64 17) := rfl
theorem errV_12 : errV 12 = .iface 59 (.int .i64 12) := rfl
theorem strs_four {W : World} {b : Nat} {a0 a1 a2 a3 : ByteArray} {fr : Nat × Nat} (h : W.heap[b]? = some (.cells #[.string a0, .string a1, .string a2, .string a3] 9 fr)) (h0 : a0.size ≤ 100000000000) (h1 : a1.size ≤ 100000000000) (h2 : a2.size ≤ 100000000000) (h3 : a3.size ≤ 100000000000) : F.StrsAt W (.slice (some ⟨b, 0, none⟩) 4 4) [a0, a1, a2, a3] := by
  refine ⟨some ⟨b, 0, none⟩, 4, rfl, ⟨by simp [maxLen], by simp⟩, fun i hi => ⟨⟨b, 0, none⟩, rfl, ?_, ?_⟩⟩
  · rw [Addr.add_mid, Nat.zero_add]
    have h9 : W.cell? ⟨b, i, none⟩ = (#[.string a0, .string a1, .string a2, .string a3] : Array Value)[i]? := by simp [World.cell?, h]
    rw [h9]
    have : i = 0 ∨ i = 1 ∨ i = 2 ∨ i = 3 := by simp at hi; omega
    rcases this with rfl | rfl | rfl | rfl <;> rfl
  · have : i = 0 ∨ i = 1 ∨ i = 2 ∨ i = 3 := by simp at hi; omega
    unfold maxLen
    rcases this with rfl | rfl | rfl | rfl <;> simp <;> omega
theorem row_lit {W : World} {b : Nat} {cs : List Int} {fr : Nat × Nat} (h : W.heap[b]? = some (.cells (cs.map (Value.int .i64)).toArray 3 fr)) : RowAt W (some ⟨b, 0, none⟩) cs.length cs := by
  refine ⟨Nat.le_refl _, (fun e => by cases e), (fun a e _ => ⟨b, 0, by simpa using e.symm⟩), fun i hi => ⟨b, 0, rfl, ?_⟩⟩
  rw [Nat.zero_add]
  simp [World.cell?, h, List.getD, hi]
/-- A leaf's row. -/
theorem leaf_open {W : World} {k : ByteArray} {vi vk vd vv vg : Value} (h : Hangs W (leafK1 k) vi vk vd vv vg) : ∃ b o cap, vi = .slice (some ⟨b, o, none⟩) 1 cap ∧ W.cell? ⟨b, o, none⟩ = some (.string k) ∧ b < W.heap.size := by
  obtain ⟨ao, cap, rfl, _, hc⟩ := h.items
  obtain ⟨b, o, u, rfl, hb, hr, _⟩ := hc 0 (by simp [leafK1])
  have := hr 0 (.string k) (by simp [leafK1, leafI, itemCells])
  exact ⟨b, o, cap, by simp [leafK1], by simpa using this, hb⟩
theorem leaf_cell {W : World} {k : ByteArray} {b o cap : Nat} {vk vd vv vg : Value} (h : Hangs W (leafK1 k) (.slice (some ⟨b, o, none⟩) 1 cap) vk vd vv vg) : W.cell? ⟨b, o, none⟩ = some (.string k) := by
  obtain ⟨b', o', cap', e, h1, _⟩ := leaf_open h
  simp only [Value.slice.injEq, Option.some.injEq, Addr.mk.injEq, and_true] at e
  obtain ⟨⟨rfl, rfl⟩, _⟩ := e
  exact h1
theorem hangs_nils (W : World) : Hangs W noPage (.slice none 0 0) (.slice none 0 0) (.slice none 0 0) (.slice none 0 0) (.slice none 0 0) := ⟨items_nil _, strs_nil _, ints_nil _, text_nil_le, strs_nil _, frees_nil _⟩
theorem item_at (b o cap : Nat) (W : World) : (Instr.indexAt 27 (.slice (some ⟨b, o, none⟩) 1 cap) (.int .i64 0)).run Tryz.prog W = .ok (.pointer (some ⟨b, o, none⟩)) W := by
  have := atItems (ao := some ⟨b, o, none⟩) 1 cap 0 rfl (by omega) W
  simpa using this
theorem file_mono {w : World} {B C fb : Nat} {v : Value} {l : List F.Sh} (h : F.FileAt w B fb v l) (hC : C ≤ B) : F.FileAt w C fb v l := ⟨h.obj, Nat.le_trans hC h.base, ⟨h.row.1, h.row.2.imp id fun ⟨g, cap, cur, h1, h2, h3⟩ => ⟨g, cap, cur, h1, Nat.le_trans hC h2, h3⟩⟩, h.len⟩
theorem refl_agree (B : Nat) (W : World) : Agree B W W := ⟨Nat.le_refl _, fun _ _ _ => rfl⟩

set_option maxRecDepth 100000 in
set_option maxHeartbeats 4000000 in
theorem known_st (w : World) : Calls Tryz.prog 7 #[] w fun e w' => e = .returned (.bool true) ∧ Below w.heap.size w w' := by
  have hq1 := eqPtrF
  have hq2 := eqPtrS
  have hnil := Tryz.eqNilNil
  have hsA := hidS (bytesD_small knA (leaf_txn _))
  have hsB := hidS (bytesD_small knB (leaf_txn _))
  go_enter Tryz.func7, Tryz.ntmps7
  go_wp2_with fail
  refine (leaf_any ⟨#[97]⟩ w (by decide)).mono ?_
  rintro e w1 ⟨v1, rfl, hH1, hb1⟩
  have C1 : Hid (Calls Tryz.prog 8 #[.agg (pageCells (leafK1 ⟨#[97]⟩) v1 (.slice none 0 0) (.slice none 0 0) (.slice none 0 0) (.slice none 0 0)).toArray] w1 fun e w' => e = .returned (.string (bs (bytesD knA))) ∧ Below w1.heap.size w1 w') := hidS (rbytes_any _ _ _ _ _ _ w1 (hH1 w1 (refl_agree _ _)) (leaf_free _) (leaf_txn _))
  replace hb1 := hidS hb1
  clear hH1
  go_wp2_with fail
  refine C1.out.mono ?_
  rintro e w2 ⟨rfl, hb2⟩
  replace hb2 := hidS (hb1.out.trans (hb2.mono hb1.out.size))
  clear C1 hb1
  go_wp2_with fail
  refine (leaf_any ⟨#[98]⟩ w2 (by decide)).mono ?_
  rintro e w3 ⟨v3, rfl, hH3, hb3⟩
  have C3 : Hid (Calls Tryz.prog 8 #[.agg (pageCells (leafK1 ⟨#[98]⟩) v3 (.slice none 0 0) (.slice none 0 0) (.slice none 0 0) (.slice none 0 0)).toArray] w3 fun e w' => e = .returned (.string (bs (bytesD knB))) ∧ Below w3.heap.size w3 w') := hidS (rbytes_any _ _ _ _ _ _ w3 (hH3 w3 (refl_agree _ _)) (leaf_free _) (leaf_txn _))
  replace hb3 := hidS (hb2.out.trans (hb3.mono hb2.out.size))
  clear hH3 hb2
  go_wp2_with fail
  refine C3.out.mono ?_
  rintro e w4 ⟨rfl, hb4⟩
  replace hb4 := hidS (hb3.out.trans (hb4.mono hb3.out.size))
  clear C3 hb3
  have C5 := hidS (F.new_any [⟨#[]⟩, ⟨#[]⟩, bs (bytesD knA), bs (bytesD knB)] (.slice (some ⟨w4.heap.size, 0, none⟩) 4 4) (w4.alloc (.cells #[.string ⟨#[]⟩, .string ⟨#[]⟩, .string (bs (bytesD knA)), .string (bs (bytesD knB))] 9)) (strs_four (heap_newL w4 _) (by simp [ByteArray.size]) (by simp [ByteArray.size]) hsA.out hsB.out) (by simp))
  have hb5 := hidS (hb4.out.alloc hb4.out.size (.cells #[.string ⟨#[]⟩, .string ⟨#[]⟩, .string (bs (bytesD knA)), .string (bs (bytesD knB))] 9))
  go_wp2_with fail
  refine C5.out.mono ?_
  rintro e w6 ⟨rfl, u6, hf6, hb6⟩
  have hF6 := hidS (show F.FileAt w6 w.heap.size (w4.alloc (.cells #[.string ⟨#[]⟩, .string ⟨#[]⟩, .string (bs (bytesD knA)), .string (bs (bytesD knB))] 9)).heap.size u6 knL from file_mono hf6 hb5.out.size)
  replace hb6 := hidS (hb5.out.trans (hb6.mono hb5.out.size))
  clear hf6 C5 hb5 hb4 hsA hsB
  generalize (w4.alloc (.cells #[.string ⟨#[]⟩, .string ⟨#[]⟩, .string (bs (bytesD knA)), .string (bs (bytesD knB))] 9)).heap.size = fb at *
  clear w1 w2 w3
  have C7 := hidS (new_sf (w := w) (X := w6.alloc (.cells #[.int .i64 3] 3)) (L := knL) fb 4 6 [3] (some ⟨w6.heap.size, 0, none⟩) 1 1 rfl (hb6.out.alloc hb6.out.size _) (hF6.out.alloc _) (row_lit (cs := [3]) (heap_newL w6 _)) (by simp))
  rw [kn0] at C7
  clear hF6 hb6
  go_wp2_with fail
  refine C7.out.mono ?_
  rintro e w8 ⟨sb, mb, rfl, S8⟩
  replace S8 := hidS S8
  clear C7
  go_wp2_with fail
  refine (leaf_sf S8.out ⟨#[99]⟩ (by decide)).mono ?_
  rintro e w9 ⟨v9, rfl, hK9, S9, -⟩
  have C9 := hidS (add_sf S9 hK9 (leaf_txn _))
  rw [show addD K0 (leafK1 ⟨#[99]⟩) = (3, 0, K1) from kn1] at C9
  simp only [errV_0] at C9
  clear S8 S9 hK9
  go_wp2_with fail
  refine C9.out.mono ?_
  rintro e w10 ⟨rfl, S10, -⟩
  have C10 := hidS (touch_sf S10 knL_ok 2 (by unfold InI; omega))
  rw [kn2] at C10
  simp only [errV_0] at C10
  clear C9 S10
  go_wp2_with fail
  refine C10.out.mono ?_
  rintro e w11 ⟨rfl, S11, -⟩
  have C11 := hidS (touch_sf S11 knL_ok 2 (by unfold InI; omega))
  rw [kn3] at C11
  simp only [errV_0] at C11
  clear C10 S11
  go_wp2_with fail
  refine C11.out.mono ?_
  rintro e w12 ⟨rfl, S12, -⟩
  have L12 := S12.lt
  have C12 := hidS (read_sf S12 knL_ok 4 (by unfold InI; omega))
  rw [kn4] at C12
  simp only [errV_0] at C12
  clear C11 S12
  go_wp2_with fail
  refine C12.out.mono ?_
  rintro e w13 ⟨vi, vk, vd, vv, vg, rfl, hH, S13, -⟩
  have hK := HangsK.new (sb := sb) (mb := mb) hH (refl_agree _ _) L12.1 L12.2
  obtain ⟨b, o, cap, rfl, _, _⟩ := leaf_open (k := ⟨#[97]⟩) hK.here
  obtain ⟨ak, mk, ck, rfl⟩ := hK.here.keys.slice
  obtain ⟨ad, md, cd, rfl⟩ := hK.here.kids.slice
  obtain ⟨av, mv, cv, rfl⟩ := hK.here.vals.slice
  obtain ⟨af, mf, cf, rfl⟩ := hK.here.free.slice
  rw [show (pageCells knA (.slice (some ⟨b, o, none⟩) 1 cap) (.slice ak mk ck) (.slice ad md cd) (.slice av mv cv) (.slice af mf cf)).toArray = #[.int .i64 1, .slice (some ⟨b, o, none⟩) 1 cap, .slice ak mk ck, .slice ad md cd, .string ⟨#[]⟩, .slice av mv cv, .slice af mf cf, .int .i64 0, .int .u64 0, .int .i64 0, .int .i64 0, .int .i64 0, .int .i64 0, .int .i64 0] from rfl]
  have HK := hidS hK
  have S13L := S13.lt
  have C13 : Hid (∀ W, Below w13.heap.size w13 W → Calls Tryz.prog 12 #[.pointer (some ⟨sb, 0, none⟩), .agg #[.int .i64 0, .slice none 0 0, .slice none 0 0, .slice none 0 0, .string ⟨#[]⟩, .slice none 0 0, .slice none 0 0, .int .i64 0, .int .u64 0, .int .i64 0, .int .i64 0, .int .i64 0, .int .i64 0, .int .i64 0]] W fun e Y => e = .returned (.tuple #[.int .i64 0, .iface 59 (.int .i64 10)]) ∧ Sf w Y sb mb fb K3 knL ∧ So sb mb W Y) := hidS fun W hW => by
    have := add_sf (S13.below hW) (p := noPage) (fun V _ => hangs_nils V) noPage_txn
    rw [kn5] at this
    exact this
  replace S13L := hidS S13L
  clear C12 hH hK S13 L12
  have hR := hidS (heap_newL w13 (.cells #[.int .i64 1, .slice (some ⟨b, o, none⟩) 1 cap, .slice ak mk ck, .slice ad md cd, .string ⟨#[]⟩, .slice av mv cv, .slice af mf cf, .int .i64 0, .int .u64 0, .int .i64 0, .int .i64 0, .int .i64 0, .int .i64 0, .int .i64 0] 35))
  have hbA := hidS ((Below.refl w13.heap.size w13).alloc (Nat.le_refl _) (.cells #[.int .i64 1, .slice (some ⟨b, o, none⟩) 1 cap, .slice ak mk ck, .slice ad md cd, .string ⟨#[]⟩, .slice av mv cv, .slice af mf cf, .int .i64 0, .int .u64 0, .int .i64 0, .int .i64 0, .int .i64 0, .int .i64 0, .int .i64 0] 35))
  go_wp2_with fail
  refine (C13.out _ hbA.out).mono ?_
  rintro e w14 ⟨rfl, S14, So14⟩
  have hR14 := (So14.block w13.heap.size (by simp) (by have := S13L.out; omega) (by have := S13L.out; omega)).trans hR.out
  have HK14 := hidS (HK.out.so ((So.of_below hbA.out).trans So14))
  have C15 := hidS (read_sf S14 knL_ok 1 (by unfold InI; omega))
  rw [kn6] at C15
  simp only [errV_14] at C15
  have HP : Hid (w13.heap.size < w14.heap.size) := hidS (Array.getElem?_eq_some_iff.1 hR14).1
  replace hR14 := hidS hR14
  clear HK C13 hR hbA S13L S14 So14
  generalize w13.heap.size = P at *
  go_wp2_with fail
  refine C15.out.mono ?_
  rintro e w15 ⟨ui, uk, ud, uv, ug, rfl, hH15, S15, hb15⟩
  have hg := hH15 w15 (refl_agree _ _)
  obtain ⟨bi, ni, di, rfl⟩ := hg.items.slice
  obtain ⟨bk, nk, dk, rfl⟩ := hg.keys.slice
  obtain ⟨bd, nd, dd, rfl⟩ := hg.kids.slice
  obtain ⟨bv, nv, dv, rfl⟩ := hg.vals.slice
  obtain ⟨bf, nf, df, rfl⟩ := hg.free.slice
  rw [show (pageCells noPage (.slice bi ni di) (.slice bk nk dk) (.slice bd nd dd) (.slice bv nv dv) (.slice bf nf df)).toArray = #[.int .i64 0, .slice bi ni di, .slice bk nk dk, .slice bd nd dd, .string ⟨#[]⟩, .slice bv nv dv, .slice bf nf df, .int .i64 0, .int .u64 0, .int .i64 0, .int .i64 0, .int .i64 0, .int .i64 0, .int .i64 0] from rfl]
  have hc1 : ∀ ob, (w15.alloc ob).cell? ⟨P, 1, none⟩ = some (.slice (some ⟨b, o, none⟩) 1 cap) := fun ob => (World.cell?_of_block (a := ⟨P, 1, none⟩) ((Below.heap_alloc _ _ _ (Nat.lt_of_lt_of_le HP.out hb15.size)).trans (hb15.block P HP.out))).trans (cell_rowL hR14.out 1)
  have hc2 : ∀ ob, (w15.alloc ob).cell? ⟨b, o, none⟩ = some (.string ⟨#[97]⟩) := fun ob => leaf_cell (k := ⟨#[97]⟩) ((HK14.out.so ((So.of_below hb15).trans (So.of_below ((Below.refl _ _).alloc (Nat.le_refl _) ob)))).here)
  have hix := item_at b o cap
  have S16 := hidS (fun ob => S15.alloc ob)
  clear hH15 hg hb15 S15 C15 HK14 hR14
  go_wp2_with fail
  have S17 := hidS (S16.out (.cells #[.int .i64 0, .slice bi ni di, .slice bk nk dk, .slice bd nd dd, .string ⟨#[]⟩, .slice bv nv dv, .slice bf nf df, .int .i64 0, .int .u64 0, .int .i64 0, .int .i64 0, .int .i64 0, .int .i64 0, .int .i64 0] 35))
  clear S16 hc1 hc2 hix
  refine (is_same10 _).mono ?_
  rintro e w16 ⟨rfl, hw16⟩
  rw [hw16]
  clear hw16
  go_wp2_with fail
  refine (is_same14 _).mono ?_
  rintro e w17 ⟨rfl, hw17⟩
  rw [hw17]
  clear hw17
  generalize w15.alloc (.cells #[.int .i64 0, .slice bi ni di, .slice bk nk dk, .slice bd nd dd, .string ⟨#[]⟩, .slice bv nv dv, .slice bf nf df, .int .i64 0, .int .u64 0, .int .i64 0, .int .i64 0, .int .i64 0, .int .i64 0, .int .i64 0] 35) = Z at *
  go_wp2_with fail
  refine (last_sf S17.out).mono ?_
  rintro e w18 ⟨rfl, hw18⟩
  rw [hw18, show ((K3.last : Nat) : Int) = 6 from rfl]
  clear hw18
  go_wp2_with fail
  refine (dirty_sf S17.out).mono ?_
  rintro e w19 ⟨ao19, ca19, rfl, hr19, hb19⟩
  have S19 := hidS (S17.out.below hb19)
  have C19 : Hid (Calls Tryz.prog 26 #[.slice ao19 K3.dirty.length ca19, .slice (some ⟨w19.heap.size, 0, none⟩) 3 3] (w19.alloc (.cells #[.int .i64 3, .int .i64 4, .int .i64 5] 3)) fun e w' => e = .returned (.bool true) ∧ Below (w19.alloc (.cells #[.int .i64 3, .int .i64 4, .int .i64 5] 3)).heap.size (w19.alloc (.cells #[.int .i64 3, .int .i64 4, .int .i64 5] 3)) w') := hidS (by
    have hu : RowAt (w19.alloc (.cells #[.int .i64 3, .int .i64 4, .int .i64 5] 3)) (some ⟨w19.heap.size, 0, none⟩) 3 [3, 4, 5] := row_lit (cs := [3, 4, 5]) (heap_newL w19 _)
    have := H.refSameInts_any K3.dirty [3, 4, 5] _ _ (w19.alloc (.cells #[.int .i64 3, .int .i64 4, .int .i64 5] 3)) ((hr19.below ((Below.refl _ w19).alloc (Nat.le_refl _) _) (Nat.le_refl _)).at (by decide)) (hu.at (by decide))
    rw [show decide (K3.dirty = [3, 4, 5]) = true from rfl] at this
    exact this)
  clear S17 hr19 hb19
  generalize K3.dirty.length = dl at *
  go_wp2_with fail
  refine C19.out.mono ?_
  rintro e w20 ⟨rfl, hb20⟩
  have S20 := hidS ((S19.out.alloc _).below hb20)
  clear C19 S19 hb20
  go_wp2_with fail
  refine (freed_sf S20.out).mono ?_
  rintro e w21 ⟨ao21, ca21, rfl, hr21, hb21⟩
  have S21 := hidS (S20.out.below hb21)
  have C21 : Hid (Calls Tryz.prog 26 #[.slice ao21 K3.freed.length ca21, .slice (some ⟨w21.heap.size, 0, none⟩) 1 1] (w21.alloc (.cells #[.int .i64 2] 3)) fun e w' => e = .returned (.bool true) ∧ Below (w21.alloc (.cells #[.int .i64 2] 3)).heap.size (w21.alloc (.cells #[.int .i64 2] 3)) w') := hidS (by
    have hu : RowAt (w21.alloc (.cells #[.int .i64 2] 3)) (some ⟨w21.heap.size, 0, none⟩) 1 [2] := row_lit (cs := [2]) (heap_newL w21 _)
    have := H.refSameInts_any K3.freed [2] _ _ (w21.alloc (.cells #[.int .i64 2] 3)) ((hr21.below ((Below.refl _ w21).alloc (Nat.le_refl _) _) (Nat.le_refl _)).at (by decide)) (hu.at (by decide))
    rw [show decide (K3.freed = [2]) = true from rfl] at this
    exact this)
  clear S20 hr21 hb21
  generalize K3.freed.length = fl at *
  go_wp2_with fail
  refine C21.out.mono ?_
  rintro e w22 ⟨rfl, hb22⟩
  have S22 := hidS ((S21.out.alloc _).below hb22)
  clear C21 S21 hb22
  go_wp2_with fail
  refine (avail_sf S22.out).mono ?_
  rintro e w23 ⟨ao23, ca23, rfl, -, hb23⟩
  have S23 := hidS (S22.out.below hb23)
  rw [show K3.avail.length = 0 from rfl]
  clear hb23 S22
  go_wp2
  go_ret
  exact ⟨rfl, S23.out.bel⟩
end Go.Proofs.YtpionokcabjokaaGreat
