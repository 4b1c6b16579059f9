/- Contracts of package lock's Slots and Bytes. -/
import Derived.Test.YtdjhlgcbjdohiaaDoorJe
import Derived.Test.YtdjhlgcbjdohiaaDoorBu
import Derived.Deep.RegionHeld3
namespace Go.Proofs.YtdjhlgcbjdohiaaDoor
open Go.RowKit Go.Conc

/-- Slots of a call's own. -/
def OwnSlots (w : World) (B : Nat) (v : Value) (S : List SlotD) : Prop := w.ownsRow B 31 2 v 8 (slotCells S)
theorem OwnSlots.slice {w : World} {B : Nat} {v : Value} {S : List SlotD} (h : OwnSlots w B v S) : ∃ g cap, v = .slice (some ⟨g, 0, none⟩) 8 cap ∧ B ≤ g := by
  rcases h.2 with ⟨_, h0⟩ | ⟨g, cap, cur, rfl, hb, _⟩
  · omega
  · exact ⟨g, cap, rfl, hb⟩
theorem OwnSlots.pid {w : World} {B g cap : Nat} {S : List SlotD} (h : OwnSlots w B (.slice (some ⟨g, 0, none⟩) 8 cap) S) (i : Nat) (hi : i < 8) : w.cell? ⟨g, i * 2, none⟩ = some (.int .i64 (pidAt S i)) := by
  have h8 : (slotCells S).length = 16 := h.1
  rw [World.ownsRow.cellAt h (i * 2) (by omega)]
  exact slotCells_pid S i (by rw [slotCells_length] at h8; omega)
theorem OwnSlots.txn {w : World} {B g cap : Nat} {S : List SlotD} (h : OwnSlots w B (.slice (some ⟨g, 0, none⟩) 8 cap) S) (i : Nat) (hi : i < 8) : w.cell? ⟨g, i * 2 + 1, none⟩ = some (.int .u64 (txnAt S i)) := by
  have h8 : (slotCells S).length = 16 := h.1
  rw [World.ownsRow.cellAt h (i * 2 + 1) (by omega)]
  exact slotCells_txn S i (by rw [slotCells_length] at h8; omega)
theorem OwnSlots.below {w w' : World} {B : Nat} {v : Value} {S : List SlotD} (h : OwnSlots w B v S) (hb : Below w.heap.size w w') : OwnSlots w' B v S := by
  refine ⟨h.1, ?_⟩
  rcases h.2 with hn | ⟨g, cap, cur, rfl, hB, hgg, rest⟩
  · exact .inl hn
  · exact .inr ⟨g, cap, cur, rfl, hB, (hb.block g (lt_of_heap hgg)).trans hgg, rest⟩

set_option maxHeartbeats 2000000 in
theorem slots_clone (w : World) (B lb cb : Nat) (W : Int) (S : List SlotD) (h : LockAt w B lb cb W S) :
    Calls Tryd.prog 58 #[.slice (some ⟨lb, 2, none⟩) 8 8] w fun e w' => ∃ u, e = .returned u ∧ OwnSlots w' w.heap.size u S ∧ Below w.heap.size w w' := by
  obtain ⟨i0, hi, hz0, hz1, hz2⟩ := info_parts Tryd.infoSlot
  have hr := hid h.range
  have hlt := hid h.lt
  have h16 := hid (slotCells_length S)
  have h8 := hid h.len
  have q : ∀ (w : World) (a : Option Addr) (n c n' c' : Nat), (binOp .eql 70 (.slice a n c) (.slice none n' c')).run Tryd.prog w = .ok (.bool a.isNone) w := fun w a n c n' c' => Lib.run_eql_slice_nil w _ _ a n c n' c' Tryd.underlying70
  clear h
  go_enter Tryd.func58, Tryd.ntmps58
  go_wp2_with (at_builtin; refine wpList_append_own _ rfl _ _ 70 rfl w.heap.size 31 i0 (.agg #[.int .i64 0, .int .u64 0]) 2 16 Tryd.underlying70 hi hz0 hz1 hz2 rfl (by decide) _ _ _ rfl (World.ownsRow_made w #[] 0 (Nat.le_refl _) (Nat.zero_le _) rfl) ⟨lb, 2, none⟩ 8 8 (slotCells S) rfl ?c1 ?c2 ?c3 ?c4 ?c5 ?c6 ?_)
  case c1 => rw [h16.out, h8.out]
  case c2 =>
    intro j u hj
    rw [Addr.add_mid]
    exact Lib.cell?_alloc_some _ (hr.out j u hj)
  case c3 => exact slotCells_one S
  case c4 => unfold maxLen; omega
  case c5 => omega
  case c6 => simp
  intro v' w' ho hg _
  have hb : Below w.heap.size w w' := ((Below.refl _ w).alloc (Nat.le_refl _) _).grown hg (by simp) (by simp [Value.ownBlock])
  replace ho := hid ho
  replace hb := hid hb
  clear hg
  go_wp2
  go_ret
  exact ⟨_, rfl, by simpa [OwnSlots] using ho.out, hb.out⟩
set_option maxHeartbeats 2000000 in
theorem slots_any (w : World) (B lb cb : Nat) (W : Int) (S : List SlotD) (h : LockAt w B lb cb W S) :
    Calls Tryd.prog 32 #[.pointer (some ⟨lb, 0, none⟩)] w fun e w' => ∃ u, e = .returned u ∧ OwnSlots w' w.heap.size u S ∧ Below w.heap.size w w' := by
  have HC := hid (slots_clone w B lb cb W S h)
  have hlt := h.lt
  clear h
  go_enter Tryd.func32, Tryd.ntmps32
  go_wp2_with (go_at_call 58; refine HC.out.mono ?_; rintro e w1 ⟨u, rfl, ho, hb⟩; replace ho := hid ho; replace hb := hid hb)
  go_ret
  exact ⟨_, rfl, ho.out, hb.out⟩

/-- Slots as bytes; the lock as bytes. -/
def slotB (S : List SlotD) : List UInt8 := S.flatMap fun s => lowB s.1 8 ++ lowB s.2 8
def headN (W : Int) (k : Nat) : Int := ([4242, 1, W] : List Int).getD k 0
def headB (W : Int) (k : Nat) : List UInt8 := (([4242, 1, W] : List Int).take k).flatMap fun n => lowB n 8
def lockB (W : Int) (S : List SlotD) : List UInt8 := headB W 3 ++ slotB S
theorem headB_succ (W : Int) (k : Nat) (h : k < 3) : headB W (k + 1) = headB W k ++ lowB (headN W k) 8 := by
  have : k = 0 ∨ k = 1 ∨ k = 2 := by omega
  rcases this with rfl | rfl | rfl <;> simp [headB, headN]
theorem slotB_succ (S : List SlotD) (k : Nat) (h : k < S.length) : slotB (S.take (k + 1)) = slotB (S.take k) ++ (lowB (pidAt S k) 8 ++ lowB (txnAt S k) 8) := by
  rw [slotB, List.take_succ_eq_append_getElem h, atD_get S k h, List.flatMap_append]
  simp [slotB, atD]
theorem headB_length (W : Int) (k : Nat) : (headB W k).length ≤ 24 := by
  have : k = 0 ∨ k = 1 ∨ k = 2 ∨ ∃ j, k = j + 3 := by
    match k with
    | 0 => simp
    | 1 => simp
    | 2 => simp
    | j + 3 => exact .inr (.inr (.inr ⟨j, rfl⟩))
  rcases this with rfl | rfl | rfl | ⟨j, rfl⟩ <;> simp [headB, lowB_length]
theorem slotB_length (S : List SlotD) : (slotB S).length = S.length * 16 := by
  induction S with
  | nil => rfl
  | cons s l ih => simp only [slotB, List.flatMap_cons, List.length_append, lowB_length] at ih ⊢; rw [ih]; simp; omega
theorem headN_ok {W : Int} (h0 : 0 ≤ W) (h1 : W < 9223372036854775808) (k : Nat) : 0 ≤ headN W k ∧ headN W k < 18446744073709551616 := by
  match k with
  | 0 => simp [headN]
  | 1 => simp [headN]
  | 2 => simp [headN]; omega
  | j + 3 => simp [headN]
end Go.Proofs.YtdjhlgcbjdohiaaDoor
