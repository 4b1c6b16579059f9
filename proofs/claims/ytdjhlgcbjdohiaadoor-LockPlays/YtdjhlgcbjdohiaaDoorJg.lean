/- Contract of package lock's Bytes. -/
import Derived.Test.YtdjhlgcbjdohiaaDoorJf
import Derived.Test.YtdjhlgcbjdohiaaDoorJh
namespace Go.Proofs.YtdjhlgcbjdohiaaDoor
open Go.RowKit Go.Conc

/-- What Bytes has while it writes: a builder in block ob with the bytes l, what was there before. -/
structure Wri (w X : World) (ob : Nat) (l : List UInt8) : Prop where
  b : IsB ob ob l X
  bel : Below w.heap.size w X
  sz : ob = w.heap.size
  lt : ob < X.heap.size
theorem Wri.below {w X Y : World} {ob : Nat} {l : List UInt8} (h : Wri w X ob l) (hb : Below X.heap.size X Y) : Wri w Y ob l :=
  ⟨isB_below h.b hb, h.bel.trans (hb.mono h.bel.size), h.sz, Nat.lt_of_lt_of_le h.lt hb.size⟩
theorem Wri.wrote {w X Y : World} {ob : Nat} {l m : List UInt8} (h : Wri w X ob l) (hb : IsB ob ob m Y) (hY : Below ob X Y) : Wri w Y ob m :=
  ⟨hb, h.bel.trans (hY.mono (by have := h.sz; omega)), h.sz, Nat.lt_of_lt_of_le h.lt hY.size⟩
/-- A block of the call's own that its builder doesn't write. -/
theorem IsB.row_lt {B b : Nat} {l : List UInt8} {w : World} (h : IsB B b l w) : b < w.heap.size := by
  rcases h with ⟨h1, v, h2, _⟩ | ⟨h1, v, h2, _⟩ <;> exact lt_of_heap h2

set_option maxRecDepth 10000 in
set_option maxHeartbeats 4000000 in
theorem lbytes_any (w : World) (B lb cb : Nat) (W : Int) (S : List SlotD) (h : LockAt w B lb cb W S) :
    Calls Tryd.prog 27 #[.pointer (some ⟨lb, 0, none⟩)] w fun e w' => e = .returned (.string ⟨(lockB W S).toArray⟩) ∧ Below w.heap.size w w' := by
  have hL := hid h
  have hlt := h.lt
  have h8 := hid h.len
  have hok := hid (headN_ok h.wlo h.whi)
  have hwu : IntKind.u64.wrap W = W := by rw [IntKind.wrap_u64]; have := h.wlo; have := h.whi; omega
  have hb1 := (Below.refl w.heap.size w).alloc (Nat.le_refl _) (.cells #[.pointer none, .slice none 0 0] 90)
  have L1 := h.below hb1
  have hx := L1.writer
  have hlt1 := L1.lt
  have F1 := isB_fresh w
  have V1 : Wri w (w.alloc (.cells #[.pointer none, .slice none 0 0] 90)) w.heap.size [] := ⟨F1, hb1, rfl, by simp⟩
  clear h hb1 L1 F1
  generalize hob : w.heap.size = ob at *
  generalize hw1 : w.alloc (.cells #[.pointer none, .slice none 0 0] 90) = w1 at *
  have hb2 := (Below.refl w1.heap.size w1).alloc (Nat.le_refl _) (.cells #[.int .u64 4242, .int .u64 1, .int .u64 W] 23)
  have V2 := hid (V1.below hb2)
  have hn2 := hid (heap_newL w1 (.cells #[.int .u64 4242, .int .u64 1, .int .u64 W] 23))
  clear hb2
  replace V1 := hid V1
  go_enter Tryd.func27, Tryd.ntmps27
  go_wp2
  generalize hw2 : w1.alloc (.cells #[.int .u64 4242, .int .u64 1, .int .u64 W] 23) = w2 at *
  generalize hnb : w1.heap.size = nb at *
  have hnob : ob ≠ nb := by have := V1.out.lt; omega
  replace hnob := hid hnob
  clear hw1 hw2 V1 hx hlt1 hnb
  have hcs : Hid (∀ (X : World) k, k < 3 → X.heap[nb]? = some (.cells #[.int .u64 4242, .int .u64 1, .int .u64 W] 23 (0, 0)) → X.cell? ⟨nb, k, none⟩ = some (.int .u64 (headN W k))) := hid (by
    intro X k hk hX
    rw [cell_rowL hX]
    have : k = 0 ∨ k = 1 ∨ k = 2 := by omega
    rcases this with rfl | rfl | rfl <;> rfl)
  replace hob := hid hob
  go_loopg [15] 3 (fun g i wr => ∃ k : Nat, k + g = 3 ∧ i = .int .i64 k ∧ Hid (Wri w wr ob (headB W k)) ∧ Hid (wr.heap[nb]? = some (.cells #[.int .u64 4242, .int .u64 1, .int .u64 W] 23 (0, 0))))
  case atStart => exact ⟨0, by omega, rfl, V2, hn2⟩
  case round =>
    obtain ⟨k, hk, rfl, hV, hN⟩ := hrel
    clear V2 hn2
    cases gk with
    | succ g =>
      have hc := hcs.out wr k (by omega) hN.out
      have hs := hid (headB_succ W k (by omega))
      have hl := hid (headB_length W k)
      obtain ⟨hn0, hn1⟩ := hok.out k
      generalize headN W k = n at *
      go_wp2_with fail
      refine (num_any n _ hn0 hn1).mono ?_
      rintro e wa ⟨rfl, hba⟩
      have Va := hid (hV.out.below hba)
      have Na := hid ((hba.block nb (lt_of_heap hN.out)).trans hN.out)
      clear hba hV hN
      go_wp2_with fail
      refine (write_k ob ob _ _ _ Va.out.b (by rw [lowS_size]; have := hl.out; omega) (Nat.le_of_lt Va.out.lt)).mono ?_
      rw [lowS_list]
      rintro e wb ⟨rfl, I, hbb, hkp⟩
      rw [← hs.out] at I
      have Vb := hid (Va.out.wrote I hbb)
      have Nb := hid ((hkp nb _ _ _ Na.out (by decide) (Ne.symm hnob.out)).trans Na.out)
      clear I hbb hkp Va Na
      go_wp2
      go_roundg g
      case rel => exact ⟨k + 1, by omega, by go_num, Vb, Nb⟩
      case measure => omega
    | zero =>
      have hke : k = 3 := by omega
      subst hke
      have LR := hL.out.below hV.out.bel
      have hr := hid LR.range
      have hltr := LR.lt
      have hixs := hid (slot_index S h8.out)
      have hpo := hid (fun k => pidAt_ok LR.ok k)
      have hto := hid (fun k => txnAt_ok LR.ok k)
      clear LR hN hcs hok hL hlt
      go_wp2_with (refine wpList_load_mid rfl 32 (.tmp 25) rfl lb 2 rfl (slotCells S) _ hr.out Tryd.underlying32 rfl (by rw [Tryd.infoSlots, slotCells_length, h8.out]) ?_)
      rw [show (slotCells S).toArray = slotA S from rfl]
      clear hr hltr
      go_loopg [27] 8 (fun g i wr => ∃ k : Nat, k + g = 8 ∧ i = .int .i64 k ∧ Hid (Wri w wr ob (headB W 3 ++ slotB (S.take k))))
      case atStart => exact ⟨0, by omega, rfl, by simpa [slotB] using hV⟩
      case round =>
        obtain ⟨k, hk, rfl, hV2⟩ := hrel
        clear hV
        cases gk with
        | succ g =>
          have hi := hixs.out k (by omega)
          have hs := hid (slotB_succ S k (by rw [h8.out]; omega))
          have hl : Hid ((headB W 3 ++ slotB (S.take k)).length ≤ 1000) := hid (by
            rw [List.length_append, slotB_length]
            have := headB_length W 3
            have := List.length_take_le k S
            omega)
          obtain ⟨hp0, hp1⟩ := hpo.out k
          obtain ⟨ht0, ht1⟩ := hto.out k
          generalize pidAt S k = p at *
          generalize txnAt S k = t at *
          generalize hcur : headB W 3 ++ slotB (S.take k) = cur at *
          replace hcur := hid hcur
          have hpw : IntKind.u64.wrap p = p := by rw [IntKind.wrap_u64]; omega
          have NP : Hid (∀ (X : World) y, 0 ≤ y ∧ y < 18446744073709551616 → Calls Tryd.prog 47 #[.int .u64 y] X fun e w' => e = .returned (.string (lowS y 8)) ∧ Below X.heap.size X w') := hid (fun X y h => num_any y X h.1 h.2)
          have hp2 : Hid (0 ≤ p ∧ p < 18446744073709551616) := hid (by omega)
          have ht2 : Hid (0 ≤ t ∧ t < 18446744073709551616) := hid (by omega)
          have hb3 := (Below.refl wr.heap.size wr).alloc (Nat.le_refl _) (.cells #[.int .i64 p, .int .u64 t] 31)
          have hb4 : Below wr.heap.size wr (wr.alloc (.cells #[.int .i64 p, .int .u64 t] 31)).drew := ⟨hb3.os, hb3.tape, hb3.output, hb3.size, hb3.block⟩
          have VH := hid (hV2.out.below hb4)
          have SH : Hid ((wr.alloc (.cells #[.int .i64 p, .int .u64 t] 31)).drew.heap[wr.heap.size]? = some (.cells #[.int .i64 p, .int .u64 t] 31 (0, 0))) := hid (heap_newL wr (.cells #[.int .i64 p, .int .u64 t] 31))
          have hsob : Hid (wr.heap.size ≠ ob) := hid (by have := hV2.out.lt; omega)
          clear hb3 hb4 hV2
          have hx0 := cell_rowL (w := wr.alloc (.cells #[.int .i64 p, .int .u64 t] 31)) SH.out 0
          have hx1 := cell_rowL (w := wr.alloc (.cells #[.int .i64 p, .int .u64 t] 31)) SH.out 1
          simp only [List.getElem?_toArray, List.getElem?_cons_zero, List.getElem?_cons_succ] at hx0 hx1
          have hs' : Hid (cur ++ (lowS p 8 ++ lowS t 8).data.toList = headB W 3 ++ slotB (S.take (k + 1))) := hid (by
            rw [append_list, lowS_list, lowS_list, hs.out, ← hcur.out, List.append_assoc])
          clear hs
          have hsz := lowS_size p 8
          have hsz2 := lowS_size t 8
          go_wp2_with fail
          generalize hXe : wr.alloc (.cells #[.int .i64 p, .int .u64 t] 31) = X at *
          generalize wr.heap.size = sb at *
          go_region_held3 (fun w' => w'.cell? ⟨sb, 0, none⟩ = some (.int .i64 p) ∧ w'.cell? ⟨sb, 1, none⟩ = some (.int .u64 t)) (first | exact ⟨cell_rowL SH.out 0, cell_rowL SH.out 1⟩ | go_keep) (first
            | (go_at_call 47; refine (NP.out _ _ (by first | exact hp2.out | exact ht2.out)).mono ?_; rintro e wf ⟨rfl, BL⟩; have VH := hid (VH.out.below BL); have SH := hid ((BL.block sb (lt_of_heap SH.out)).trans SH.out); clear BL)
            | (go_at_call 46; refine (write_k ob ob _ _ _ VH.out.b (by simp only [ByteArray.size_append, lowS_size]; have := hl.out; omega) (Nat.le_of_lt VH.out.lt)).mono ?_; rintro e wf ⟨rfl, I, hbb, hkp⟩; have VH := hid (VH.out.wrote I hbb); have SH := hid ((hkp sb _ _ _ SH.out (by decide) hsob.out).trans SH.out); clear I hbb hkp))
          all_goals go_wp2
          all_goals go_roundg g
          case rel => exact ⟨k + 1, by omega, by go_num, hid (hs'.out ▸ VH.out)⟩
          case measure => omega
        | zero =>
          have hke : k = 8 := by omega
          subst hke
          rw [List.take_of_length_le (by rw [h8.out]; omega)] at hV2
          go_wp2_with fail
          refine (string_any _ _ _ _ hV2.out.b (Nat.le_of_lt hV2.out.lt)).mono ?_
          rintro e wz ⟨rfl, hbz⟩
          have BZ := hid (hV2.out.bel.trans (hbz.mono (by have := hV2.out.sz; omega)))
          clear hbz hV2
          go_wp2
          go_ret
          exact ⟨rfl, by have := BZ.out; exact hob.out ▸ this⟩
end Go.Proofs.YtdjhlgcbjdohiaaDoor
