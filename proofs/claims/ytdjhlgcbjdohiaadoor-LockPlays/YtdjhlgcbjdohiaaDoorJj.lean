/- Contract of package lock's Read: of bytes that a lock was written as, and of bytes too short. -/
import Derived.Test.YtdjhlgcbjdohiaaDoorJi
namespace Go.Proofs.YtdjhlgcbjdohiaaDoor
open Go.RowKit Go.Conc

theorem neqNil (w : World) : (binOp .neq 45 .nilIface .nilIface).run Tryd.prog w = .ok (.bool false) w := by kernel_rfl
theorem neqErr11 (w : World) : (binOp .neq 45 (.iface 69 (.int .i64 11)) .nilIface).run Tryd.prog w = .ok (.bool true) w := by kernel_rfl
theorem lockB_eq (W : Int) (S : List SlotD) : lockB W S = lowB 4242 8 ++ (lowB 1 8 ++ (lowB W 8 ++ slotB S)) := by simp [lockB, headB]
set_option maxHeartbeats 2000000 in
theorem read_short (w : World) (s : ByteArray) (h : s.size < 8) :
    Calls Tryd.prog 29 #[.string s] w fun e w' => e = .returned (.tuple #[.pointer none, .iface 69 (.int .i64 12)]) ∧ Below w.heap.size w w' := by
  have hn := neqErr11
  have HN := hid (new_any s w (by unfold maxLen; omega))
  have hsl : Hid (s.data.toList.length < 8) := hid (by simpa using h)
  clear h
  go_enter Tryd.func29, Tryd.ntmps29
  go_wp2_with fail
  refine HN.out.mono ?_
  rintro e w1 ⟨rfl, c1, hs1, b1⟩
  generalize hb : w.heap.size + 1 = b at *
  generalize hrb : w.heap.size = rb at *
  replace b1 := hid b1; replace c1 := hid c1; replace hb := hid hb; replace hrb := hid hrb
  clear HN hs1
  obtain ⟨n1, n2, n3⟩ := num_lacks s.data.toList false hsl.out
  obtain ⟨m1, m2, m3⟩ := num_after s.data.toList
  replace n1 := hid n1; replace n2 := hid n2; replace n3 := hid n3
  replace m1 := hid m1; replace m2 := hid m2; replace m3 := hid m3
  go_wp2_with fail
  refine (num_at b rb _ _ _ _ 0 _ c1.out n1.out n2.out n3.out).mono ?_
  rintro e w2 ⟨rfl, c2, g2⟩
  replace c2 := hid c2; replace g2 := hid g2
  go_wp2_with fail
  refine (num_at b rb _ _ _ _ 0 _ c2.out m1.out m2.out m3.out).mono ?_
  rintro e w3 ⟨rfl, c3, g3⟩
  replace c3 := hid c3; replace g3 := hid g3
  clear n1 n2 n3 m1 m2 m3 hsl
  have bz : Hid (Below rb w w3) := hid (by
    have hx := hb.out
    have hy := hrb.out
    exact (b1.out.grown g2.out (by have := b1.out.size; omega) (fun q hq => by simp at hq; omega)).grown g3.out (by have := b1.out.size; have := g2.out.size; omega) (fun q hq => by simp at hq; omega))
  go_wp2_with fail
  refine (err_at b rb _ _ _ _ c3.out rfl).mono ?_
  rintro e w4 ⟨rfl, rfl⟩
  rw [show errV true = .iface 69 (.int .i64 11) from rfl]
  clear c1 c2 g2 g3 b1
  go_wp2
  go_ret2
  exact ⟨rfl, by have := bz.out; rw [← hrb.out] at this; exact this⟩

theorem heap_setCells {g : Nat} {e : TypeId} : ∀ (vs : List Value) (o : Nat) (w : World) (cur : Array Value), w.heap[g]? = some (.cells cur e (0, 0)) → ∃ cur', (w.setCells g o vs).heap[g]? = some (.cells cur' e (0, 0)) ∧ cur'.size = cur.size
  | [], o, w, cur, h => ⟨cur, h, rfl⟩
  | v :: r, o, w, cur, h => by
    obtain ⟨cur', h1, h2⟩ := heap_setCells r (o + 1) (w.setCell ⟨g, o, none⟩ v) _ (heap_setCell_same w g o cur e v h)
    exact ⟨cur', h1, by simpa using h2⟩
theorem lockCells_size (cb : Nat) (W : Int) (S : List SlotD) : (lockCells cb W S).size = S.length * 2 + 2 := by simp [lockCells, slotCells_length]
/-- Other slots, all of them. -/
theorem LockAt.putAll {w : World} {B lb cb : Nat} {W : Int} {S0 S : List SlotD} (h : LockAt w B lb cb W S0) (h8 : S.length = 8) (hok : ∀ s ∈ S, SlotOk s) : LockAt (w.setCells lb 2 (slotCells S)) B lb cb W S := by
  obtain ⟨s, r, hc⟩ := h.ch
  obtain ⟨cur, h1, h2⟩ := heap_setCells (slotCells S) 2 w _ h.obj
  have hth : w.there lb 2 (slotCells S).length := slots_there h.obj (by rw [slotCells_length, lockCells_size, h8, h.len]; decide)
  have hr := World.rangeAt_setCells_same w lb 2 (slotCells S) hth
  have h0 := World.cell?_setCells_out lb (slotCells S) 2 w ⟨lb, 0, none⟩ (fun _ _ => .inl (by simp))
  have h1' := World.cell?_setCells_out lb (slotCells S) 2 w ⟨lb, 1, none⟩ (fun _ _ => .inl (by simp))
  rw [lockCells_size, h.len] at h2
  refine ⟨?_, h.base, h.cbase, ⟨s, r, ?_⟩, h8, h.wlo, h.whi, hok⟩
  · rw [h1]
    have : cur = lockCells cb W S := by
      apply Array.ext_getElem?
      intro j
      rw [← cell_rowL h1 j]
      match j with
      | 0 => rw [h0, h.chan0]; rfl
      | 1 => rw [h1', h.writer]; rfl
      | j + 2 =>
        by_cases hj : j < (slotCells S).length
        · rw [show j + 2 = 2 + j by omega, hr j _ (List.getElem?_eq_getElem hj), show 2 + j = j + 1 + 1 by omega]
          simp [lockCells, hj]
        · rw [cell_rowL h1, Array.getElem?_eq_none (by rw [slotCells_length] at hj; omega), Array.getElem?_eq_none (by rw [lockCells_size]; rw [slotCells_length] at hj; omega)]
    rw [this]
  · have := (grown_setCells (g := lb) (slotCells S) 2 w).block cb h.clt (by simpa using h.apart.symm)
    rw [this]
    exact hc
theorem rangeAt_below {w w' : World} {b o : Nat} {cs : List Value} (h : w.rangeAt b o cs) (hb : Below w.heap.size w w') (hlt : b < w.heap.size) : w'.rangeAt b o cs := fun j v hv => (hb.cell (p := ⟨b, o + j, none⟩) hlt).trans (h j v hv)
theorem good_ok {S : List SlotD} (h : ∀ s ∈ S, GoodSlot s) : ∀ s ∈ S, SlotOk s := fun s hs => ⟨(h s hs).1, by have := (h s hs).2.1; omega, (h s hs).2.2.1, (h s hs).2.2.2.1⟩

set_option maxRecDepth 10000 in
set_option maxHeartbeats 4000000 in
theorem read_good (w : World) (W : Int) (S : List SlotD) (h8 : S.length = 8) (hgo : ∀ s ∈ S, GoodSlot s) (hw0 : 0 ≤ W) (hw1 : W ≤ 1000000) :
    Calls Tryd.prog 29 #[.string ⟨(lockB W S).toArray⟩] w fun e w' => ∃ lb cb, e = .returned (.tuple #[.pointer (some ⟨lb, 0, none⟩), .nilIface]) ∧ LockAt w' w.heap.size lb cb W S ∧ Below w.heap.size w w' := by
  have hn := neqNil
  have hlen : (lockB W S).length = 152 := by rw [lockB_eq]; simp [lowB_length, slotB_length, h8]
  have HN := hid (new_any ⟨(lockB W S).toArray⟩ w (by unfold maxLen; simp [ByteArray.size, hlen]))
  have HTS := hid (fun (X : World) (b rb : Nat) (hc : CutAt X b rb (slotB S ++ []) false) => takeSlots_good X b rb S [] hc h8 hgo)
  have hok := hid (good_ok hgo)
  have hl16 : Hid ((slotCells S).length = 16) := hid (by rw [slotCells_length, h8])
  have hone : Hid ((slotA S).all (·.oneCell') = true) := hid (all_oneCell_toArray (slotCells_one S))
  replace h8 := hid h8
  rw [List.append_nil] at HTS
  clear hgo hlen
  obtain ⟨V, rfl⟩ : ∃ V : Nat, W = (V : Int) := ⟨W.toNat, by omega⟩
  have hV : Hid (V ≤ 1000000) := hid (by omega)
  have hd1 : Hid (decide ((1000000 : Int) < (V : Int)) = false) := hid (by simp; omega)
  have hwr : Hid (IntKind.i64.wrap (V : Int) = (V : Int)) := hid (by rw [IntKind.wrap_i64]; omega)
  clear hw0 hw1
  obtain ⟨n1, n2, n3⟩ := num_there (4242 : Int) (by omega) (by omega) (lowB 1 8 ++ (lowB (V : Int) 8 ++ slotB S))
  obtain ⟨m1, m2, m3⟩ := num_there (1 : Int) (by omega) (by omega) (lowB (V : Int) 8 ++ slotB S)
  obtain ⟨k1, k2, k3⟩ := num_there (V : Int) (by omega) (by have := hV.out; omega) (slotB S)
  rw [Int.toNat_natCast] at k1
  rw [show (4242 : Int).toNat = 4242 from rfl] at n1
  rw [show (1 : Int).toNat = 1 from rfl] at m1
  rw [show (⟨(lockB (V : Int) S).toArray⟩ : ByteArray).data.toList = lockB (V : Int) S from rfl, lockB_eq] at HN
  replace n1 := hid n1; replace n2 := hid n2; replace n3 := hid n3
  replace m1 := hid m1; replace m2 := hid m2; replace m3 := hid m3
  replace k1 := hid k1; replace k2 := hid k2; replace k3 := hid k3
  generalize hrb : w.heap.size = rb at *
  replace hrb := hid hrb
  rw [lockB_eq]
  go_enter Tryd.func29, Tryd.ntmps29
  go_wp2_with fail
  refine HN.out.mono ?_
  rintro e w1 ⟨rfl, c1, hs1, b1⟩
  generalize hb : rb + 1 = b at *
  replace b1 := hid b1; replace c1 := hid c1; replace hb := hid hb
  clear HN hs1
  go_wp2_with fail
  refine (num_at b rb _ _ _ _ 4242 _ c1.out n1.out n2.out n3.out).mono ?_
  rintro e w2 ⟨rfl, c2, g2⟩
  have b2 : Hid (Below rb w w2) := hid (b1.out.grown g2 (by have := hrb.out; have := b1.out.size; omega) (fun q hq => by simp at hq; have := hb.out; omega))
  replace c2 := hid c2
  clear n1 n2 n3 g2 c1 b1
  go_wp2_with fail
  refine (num_at b rb _ _ _ _ 1 _ c2.out m1.out m2.out m3.out).mono ?_
  rintro e w3 ⟨rfl, c3, g3⟩
  have b3 : Hid (Below rb w w3) := hid (b2.out.grown g3 (by have := hrb.out; have := b2.out.size; omega) (fun q hq => by simp at hq; have := hb.out; omega))
  replace c3 := hid c3
  clear m1 m2 m3 g3 c2 b2
  go_wp2_with fail
  refine (err_at b rb _ _ _ _ c3.out rfl).mono ?_
  rintro e w4 ⟨rfl, rfl⟩
  rw [show errV false = .nilIface from rfl]
  go_wp2_with fail
  refine (num_at b rb _ _ _ _ V _ c3.out k1.out k2.out k3.out).mono ?_
  rintro e w5 ⟨rfl, c5, g5⟩
  have b5 : Hid (Below rb w w5) := hid (b3.out.grown g5 (by have := hrb.out; have := b3.out.size; omega) (fun q hq => by simp at hq; have := hb.out; omega))
  replace c5 := hid c5
  clear k1 k2 k3 g5 c3 b3
  go_wp2_with fail
  refine (HTS.out _ _ _ c5.out).mono ?_
  rintro e w6 ⟨rfl, c6, g6⟩
  have b6 : Hid (Below rb w w6) := hid (b5.out.grown g6 (by have := hrb.out; have := b5.out.size; omega) (fun q hq => by simp at hq; have := hb.out; omega))
  replace c6 := hid c6
  clear HTS g6 c5 b5
  have hnew := heap_newL w6 (.cells (slotA freeS) 32)
  have hth := slots_there (n := (slotA S).size) (o := 0) hnew (by rw [slotA_size, h8.out]; decide)
  have hrange := World.rangeAt_setCells_same (w6.alloc (.cells (slotA freeS) 32)) w6.heap.size 0 (slotCells S) (by have := hth; rw [slotA_size] at this; rw [slotCells_length]; exact this)
  have hbY : Below w6.heap.size w6 ((w6.alloc (.cells (slotA freeS) 32)).setCells w6.heap.size 0 (slotCells S)) := ((Below.refl _ w6).alloc (Nat.le_refl _) _).grown (grown_setCells _ _ _) (by simp) (fun q hq => by simp at hq; omega)
  have hltY : w6.heap.size < ((w6.alloc (.cells (slotA freeS) 32)).setCells w6.heap.size 0 (slotCells S)).heap.size := Nat.lt_of_lt_of_le (by simp) (grown_setCells (g := w6.heap.size) (slotCells S) 0 (w6.alloc (.cells (slotA freeS) 32))).size
  rw [show slotA freeS = #[.int .i64 0, .int .u64 0, .int .i64 0, .int .u64 0, .int .i64 0, .int .u64 0, .int .i64 0, .int .u64 0, .int .i64 0, .int .u64 0, .int .i64 0, .int .u64 0, .int .i64 0, .int .u64 0, .int .i64 0, .int .u64 0] from rfl] at hth hrange hbY hltY
  replace hth := hid hth; replace hrange := hid hrange; replace hbY := hid hbY; replace hltY := hid hltY
  clear hnew
  replace hd1 := hd1.out
  replace hwr := hwr.out
  go_wp2_with (refine wpList_store_mid rfl 32 (.tmp 8) (.tmp 33) rfl w6.heap.size 0 (slotA S) rfl rfl hth.out (by rw [Tryd.infoSlots, slotA_size, h8.out]) hone.out ?_; rw [show (slotA S).toList = slotCells S from rfl])
  clear hth
  generalize (w6.alloc _).setCells w6.heap.size 0 (slotCells S) = w7 at *
  have c7 := hid (c6.out.below hbY.out c6.out.lt c6.out.2.1)
  have b7 : Hid (Below rb w w7) := hid (b6.out.trans (hbY.out.mono (by have := hrb.out; have := b6.out.size; omega)))
  generalize hsb : w6.heap.size = sb at *
  clear c6 b6 hbY hsb
  refine (err_at b rb _ _ _ _ c7.out rfl).mono ?_
  rintro e w8 ⟨rfl, rfl⟩
  rw [show errV false = .nilIface from rfl]
  go_wp2_with fail
  refine (left_at b rb _ _ 0 _ c7.out rfl).mono ?_
  rintro e w9 ⟨rfl, rfl⟩
  clear c7
  go_wp2_with fail
  refine (lnew_any w9).mono ?_
  rintro e wa ⟨rfl, La, ba⟩
  have bsz : Hid (rb ≤ w9.heap.size) := hid (by have := hrb.out; have := b7.out.size; omega)
  have ra := hid (rangeAt_below hrange.out ba hltY.out)
  have bA : Hid (Below rb w wa) := hid (b7.out.trans (ba.mono bsz.out))
  generalize hlb : w9.heap.size + 1 = lb at *
  generalize hcb : w9.heap.size = cb at *
  have hlt := La.lt
  have hth : Hid (wa.there lb 2 (slotA S).size) := hid (slots_there La.obj (by rw [slotA_size, h8.out, lockCells_size]; decide))
  have L2 := hid (La.putAll h8.out hok.out)
  have b2 : Hid (Below rb w (wa.setCells lb 2 (slotCells S))) := hid (bA.out.grown (grown_setCells (g := lb) (slotCells S) 2 wa) (by have := bsz.out; have := ba.size; omega) (fun q hq => by simp at hq; have := bsz.out; omega))
  replace hlb := hid hlb
  replace hcb := hid hcb
  clear La ba b7 hrange hltY bA
  go_wp2_with (first
    | (refine wpList_load_mid rfl 32 (.tmp 8) rfl sb 0 rfl (slotCells S) _ ra.out Tryd.underlying32 rfl (by rw [Tryd.infoSlots, hl16.out]) ?_; rw [show (slotCells S).toArray = slotA S from rfl])
    | (refine wpList_store_mid rfl 32 (.tmp 56) (.tmp 54) rfl lb 2 (slotA S) rfl rfl hth.out (by rw [Tryd.infoSlots, slotA_size, h8.out]) hone.out ?_; rw [show (slotA S).toList = slotCells S from rfl]))
  generalize wa.setCells lb 2 (slotCells S) = wb at *
  clear ra hth
  refine (pnew_any wb).mono ?_
  rintro e wc ⟨rfl, Pc, bc⟩
  have L3 := hid (L2.out.below bc)
  have b3 : Hid (Below rb w wc) := hid (b2.out.trans (bc.mono (by have := hrb.out; have := b2.out.size; omega)))
  clear L2 b2 bc
  go_wp2_with fail
  refine (take_lock wc _ lb cb _ _ _ _ 0 (V : Int) _ _ [] S L3.out Pc (by have := hV.out; omega)).mono ?_
  rw [show takeW 0 (V : Int) (([] : List Int).contains 0) = (V : Int) by
    unfold takeW takeB
    by_cases hv : V = 0
    · subst hv; rfl
    · simp; omega]
  rintro e wd ⟨rfl, Ld, Od⟩
  have bd : Hid (Below rb w wd) := hid (b3.out.trans ((Od.below L3.out).mono (by have := hcb.out; have := bsz.out; omega)))
  have Le : Hid (LockAt wd rb lb cb (V : Int) S) := hid ⟨Ld.obj, by have := Ld.base; have := bsz.out; omega, by have := Ld.cbase; have := bsz.out; omega, Ld.ch, Ld.len, Ld.wlo, Ld.whi, Ld.ok⟩
  clear Ld Od Pc L3 b3
  go_wp2
  go_ret2
  exact ⟨lb, cb, rfl, Le.out, bd.out⟩
end Go.Proofs.YtdjhlgcbjdohiaaDoor
