/- Contracts of package lock's Oldest, Sweep and Slots. -/
import Derived.Test.YtdjhlgcbjdohiaaDoorJd
namespace Go.Proofs.YtdjhlgcbjdohiaaDoor
open Go.RowKit Go.Conc

theorem Tryd.infoSlots : (Tryd.prog.info? 32).map (·.size) = some 16 := by kernel_rfl
theorem Tryd.infoSlot : (Tryd.prog.info? 31).map (fun i => (i.zero, i.size, i.bytes)) = some (some (.agg #[.int .i64 0, .int .u64 0]), 2, 16) := by kernel_rfl
theorem LockAt.load {w : World} {B lb cb : Nat} {W : Int} {S : List SlotD} (h : LockAt w B lb cb W S) : (Instr.loadAt 32 (.pointer (some ⟨lb, 2, none⟩))).run Tryd.prog w = .ok (.agg (slotA S)) w :=
  run_loadAt_mid w lb 2 32 (slotCells S) _ h.range Tryd.underlying32 rfl (by rw [Tryd.infoSlots, slotCells_length, h.len])
theorem eight {S : List SlotD} (h : S.length = 8) : ∃ a b c d e f g i, S = [a, b, c, d, e, f, g, i] := by
  match S, h with
  | [a, b, c, d, e, f, g, i], _ => exact ⟨a, b, c, d, e, f, g, i, rfl⟩
theorem lt8 {k : Nat} (h : k < 8) : k = 0 ∨ k = 1 ∨ k = 2 ∨ k = 3 ∨ k = 4 ∨ k = 5 ∨ k = 6 ∨ k = 7 := by omega
theorem slot_index (S : List SlotD) (h : S.length = 8) (k : Nat) (hk : k < 8) (w : World) : (Instr.index 32 (.agg (slotA S)) (.int .i64 (k : Int))).run Tryd.prog w = .ok (.agg #[.int .i64 (pidAt S k), .int .u64 (txnAt S k)]) w := by
  obtain ⟨⟨a1, a2⟩, ⟨b1, b2⟩, ⟨c1, c2⟩, ⟨d1, d2⟩, ⟨e1, e2⟩, ⟨f1, f2⟩, ⟨g1, g2⟩, ⟨i1, i2⟩, rfl⟩ := eight h
  rcases lt8 hk with rfl | rfl | rfl | rfl | rfl | rfl | rfl | rfl <;> kernel_rfl
/-- The least version of the slots, and last. -/
def oldL (last : Int) (S : List SlotD) : Int := S.foldl (fun a s => if 0 < s.2 then min a s.2 else a) last
theorem oldL_snoc (last : Int) (S : List SlotD) (k : Nat) (h : k < S.length) : oldL last (S.take (k + 1)) = if 0 < txnAt S k then min (oldL last (S.take k)) (txnAt S k) else oldL last (S.take k) := by
  rw [List.take_succ_eq_append_getElem h, oldL, List.foldl_append]
  simp [txnAt, List.getD, h, oldL]

set_option maxHeartbeats 2000000 in
theorem oldest_any (w : World) (B lb cb : Nat) (W last : Int) (S : List SlotD) (h : LockAt w B lb cb W S) :
    Calls Tryd.prog 25 #[.pointer (some ⟨lb, 0, none⟩), .int .u64 last] w fun e w' => e = .returned (.int .u64 (oldL last S)) ∧ Below w.heap.size w w' := by
  have hlt := h.lt
  have hr := hid h.range
  have hix := hid (slot_index S h.len)
  have h8 := hid h.len
  clear h
  go_enter Tryd.func25, Tryd.ntmps25
  go_wp2_with (refine wpList_load_mid rfl 32 (.tmp 9) rfl lb 2 rfl (slotCells S) _ hr.out Tryd.underlying32 rfl (by rw [Tryd.infoSlots, slotCells_length, h8.out]) ?_)
  rw [show (slotCells S).toArray = slotA S from rfl]
  go_loopg [1, 11] 8 (fun g a i wr => ∃ k : Nat, k + g = 8 ∧ i = .int .i64 k ∧ a = .int .u64 (oldL last (S.take k)) ∧ Hid (Below w.heap.size w wr))
  case atStart => exact ⟨0, by omega, rfl, by simp [oldL], hid (Below.refl _ _)⟩
  case round =>
    obtain ⟨k, hk, rfl, rfl, hb⟩ := hrel
    cases gk with
    | succ g =>
      have hi := hix.out k (by omega)
      have hs := hid (oldL_snoc last S k (by rw [h8.out]; omega))
      clear hix
      generalize txnAt S k = t at *
      generalize pidAt S k = p at *
      generalize oldL last (S.take k) = o at *
      have HB := hid (hb.out.alloc hb.out.size (.cells #[.int .i64 p, .int .u64 t] 31))
      by_cases ht : 0 < t
      · go_wp2
        go_roundg g
        case rel => exact ⟨k + 1, by omega, by go_num, by rw [hs.out, if_pos ht], HB⟩
        case measure => omega
      · go_wp2
        go_roundg g
        case rel => exact ⟨k + 1, by omega, by go_num, by rw [hs.out, if_neg (by omega)], HB⟩
        case measure => omega
    | zero =>
      have hke : k = 8 := by omega
      subst hke
      rw [List.take_of_length_le (by rw [h8.out]; omega)]
      go_wp2
      go_ret
      exact ⟨rfl, hb.out⟩

/-- Whose slot Sweep frees, those that live being l. -/
def deadB (l : List Int) (s : SlotD) : Bool := decide (s.1 ≠ 0) && !l.contains s.1
def sweepS (l : List Int) (S : List SlotD) : List SlotD := S.map fun s => if deadB l s then (0, 0) else s
def sweepN (l : List Int) (S : List SlotD) : Nat := S.countP (deadB l)
def sweptTo (l : List Int) (S : List SlotD) (k : Nat) : List SlotD := sweepS l (S.take k) ++ S.drop k
def atD (S : List SlotD) (k : Nat) : SlotD := (pidAt S k, txnAt S k)
theorem atD_get (S : List SlotD) (k : Nat) (h : k < S.length) : S[k] = atD S k := by simp [atD, pidAt, txnAt, List.getD, h]
theorem sweptTo_dead (l : List Int) (S : List SlotD) (k : Nat) (h : k < S.length) (hd : deadB l (atD S k) = true) : (sweptTo l S k).set k (0, 0) = sweptTo l S (k + 1) := by
  have h1 : S.drop k = atD S k :: S.drop (k + 1) := by rw [← atD_get S k h]; exact List.drop_eq_getElem_cons h
  have h2 : (sweepS l (S.take k)).length = k := by simp [sweepS]; omega
  rw [sweptTo, h1, List.set_append_right _ _ (by omega), h2, Nat.sub_self, List.set_cons_zero, sweptTo, List.take_succ_eq_append_getElem h, atD_get S k h]
  simp [sweepS, hd]
theorem sweptTo_not (l : List Int) (S : List SlotD) (k : Nat) (h : k < S.length) (hd : deadB l (atD S k) = false) : sweptTo l S (k + 1) = sweptTo l S k := by
  have h1 : S.drop k = atD S k :: S.drop (k + 1) := by rw [← atD_get S k h]; exact List.drop_eq_getElem_cons h
  rw [sweptTo, sweptTo, h1, List.take_succ_eq_append_getElem h, atD_get S k h]
  simp [sweepS, hd]
theorem sweepN_succ (l : List Int) (S : List SlotD) (k : Nat) (h : k < S.length) : sweepN l (S.take (k + 1)) = sweepN l (S.take k) + if deadB l (atD S k) then 1 else 0 := by
  rw [sweepN, List.take_succ_eq_append_getElem h, atD_get S k h, List.countP_append]
  simp [sweepN, List.countP_cons]
theorem sweptTo_all (l : List Int) (S : List SlotD) (k : Nat) (h : S.length ≤ k) : sweptTo l S k = sweepS l S := by
  simp [sweptTo, List.take_of_length_le h, List.drop_of_length_le h]
theorem sweepN_le (l : List Int) (S : List SlotD) (k : Nat) : sweepN l (S.take k) ≤ k := Nat.le_trans List.countP_le_length (List.length_take_le _ _)

set_option maxHeartbeats 4000000 in
theorem sweep_any (w : World) (B lb cb C pb pc n : Nat) (W last : Int) (v : Value) (l : List Int) (S : List SlotD) (h : LockAt w B lb cb W S) (hP : ProcsAt w C pb pc v last l n) :
    Calls Tryd.prog 18 #[.pointer (some ⟨lb, 0, none⟩), .pointer (some ⟨pb, 0, none⟩)] w fun e w' => e = .returned (.int .i64 (sweepN l S)) ∧ LockAt w' B lb cb W (sweepS l S) ∧ Lo lb cb w w' := by
  have hlt := h.lt
  have hr := hid h.range
  have hix := hid (slot_index S h.len)
  have h8 := hid h.len
  have hL := hid h
  replace hP := hid hP
  clear h
  go_enter Tryd.func18, Tryd.ntmps18
  go_wp2_with (refine wpList_load_mid rfl 32 (.tmp 10) rfl lb 2 rfl (slotCells S) _ hr.out Tryd.underlying32 rfl (by rw [Tryd.infoSlots, slotCells_length, h8.out]) ?_)
  rw [show (slotCells S).toArray = slotA S from rfl]
  clear hr hlt
  go_loopg [5, 12] 8 (fun g a i wr => ∃ k : Nat, k + g = 8 ∧ i = .int .i64 k ∧ a = .int .i64 (sweepN l (S.take k) : Nat) ∧ Hid (LockAt wr B lb cb W (sweptTo l S k)) ∧ Hid (Lo lb cb w wr))
  case atStart => exact ⟨0, by omega, rfl, by simp [sweepN], by simpa [sweptTo, sweepS] using hL, hid (Lo.refl _ _ _)⟩
  case round =>
    obtain ⟨k, hk, rfl, rfl, hf, ho⟩ := hrel
    cases gk with
    | succ g =>
      have hkS : k < S.length := by rw [h8.out]; omega
      have hi := hix.out k (by omega)
      have hs := hid (sweepN_succ l S k hkS)
      have hsd := hid (sweptTo_dead l S k hkS)
      have hsn := hid (sweptTo_not l S k hkS)
      have hle := sweepN_le l S k
      have hdb : Hid (∀ b, l.contains (pidAt S k) = b → deadB l (atD S k) = (decide (pidAt S k ≠ 0) && !b)) := hid (by rintro b rfl; rfl)
      clear hix hkS
      generalize sweepN l (S.take k) = m at *
      generalize deadB l (atD S k) = db at *
      generalize txnAt S k = t at *
      generalize pidAt S k = p at *
      have hb1 := (Below.refl wr.heap.size wr).alloc (Nat.le_refl _) (.cells #[.int .i64 p, .int .u64 t] 31)
      have L1 := hid (hf.out.below hb1)
      have O1 := hid (ho.out.trans (Lo.of_below hb1))
      have P1 := hid (hP.out.byLock hL.out O1.out)
      clear hb1 hf ho
      by_cases hp : p = 0
      · have hdf : db = false := by rw [hdb.out _ rfl]; simp [hp]
        subst hp hdf
        clear hdb
        go_wp2
        go_roundg g
        case rel => exact ⟨k + 1, by omega, by go_num, by rw [hs.out]; simp, by rw [hsn.out (by simp)]; exact L1, O1⟩
        case measure => omega
      · have HL := hid (lives_any _ _ _ _ _ _ _ p _ P1.out)
        generalize hc : l.contains p = c at *
        replace hc := hid hc
        cases c with
        | true =>
          have hdf : db = false := by rw [hdb.out _ rfl]; simp
          subst hdf
          clear hdb
          go_wp2_with (go_at_call 33; refine HL.out.mono ?_; rintro e w1 ⟨rfl, hb⟩; replace hb := hid hb)
          go_roundg g
          case rel => exact ⟨k + 1, by omega, by go_num, by rw [hs.out]; simp, by rw [hsn.out (by simp)]; exact hid (L1.out.below hb.out), hid (O1.out.trans (Lo.of_below hb.out))⟩
          case measure => omega
        | false =>
          have hdf : db = true := by rw [hdb.out _ rfl]; simp [hp]
          subst hdf
          clear hdb
          go_wp2_with fail
          refine HL.out.mono ?_
          rintro e w1 ⟨rfl, hb⟩
          have L2 := L1.out.below hb
          have hp2 := L2.pid k (by omega)
          have ht2 := L2.txn k (by omega)
          have hz := L2.free
          have hlt := L2.lt
          have L3 := L2.putS k 0 0 ⟨by simp, by simp, by simp, by simp⟩
          rw [hsd.out (by simp)] at L3
          replace L3 := hid L3
          have O3 := hid ((O1.out.trans (Lo.of_below hb)).trans (Lo.put2 (lb := lb) (cb := cb) (i := 2 + k * 2) (j := 2 + k * 2 + 1) (.int .i64 0) (.int .u64 0)))
          have hw : IntKind.i64.wrap ((m : Int) + 1) = (m : Int) + 1 := by rw [IntKind.wrap_i64]; omega
          clear L2 L1 O1 P1 HL hb
          generalize pidAt _ k = p2 at *
          generalize txnAt _ k = t2 at *
          go_wp2
          go_roundg g
          case rel => exact ⟨k + 1, by omega, by go_num, by rw [hs.out]; simp, L3, O3⟩
          case measure => omega
    | zero =>
      have hke : k = 8 := by omega
      subst hke
      rw [sweptTo_all l S 8 (by rw [h8.out]; omega)] at hf
      rw [List.take_of_length_le (by rw [h8.out]; omega)]
      go_wp2
      go_ret
      exact ⟨rfl, hf.out, ho.out⟩
end Go.Proofs.YtdjhlgcbjdohiaaDoor
