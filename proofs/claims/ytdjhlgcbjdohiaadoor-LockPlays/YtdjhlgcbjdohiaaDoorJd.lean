/- Contracts of package lock's Claim, heldBy, Publish and Free. -/
import Derived.Test.YtdjhlgcbjdohiaaDoorJc
namespace Go.Proofs.YtdjhlgcbjdohiaaDoor
open Go.RowKit Go.Conc

/-- The first slot that is free; 8: none is. -/
def freeI (S : List SlotD) : Nat := S.findIdx (fun s => s.1 == 0)
set_option maxHeartbeats 1000000 in
theorem claim1_any (w : World) (p t : Int) :
    Calls Tryd.prog 37 #[.agg #[.int .i64 p, .int .u64 t]] w fun e w' => e = .returned (.bool (decide (p = 0))) ∧ Below w.heap.size w w' := by
  have B1 := hid ((Below.refl w.heap.size w).alloc (Nat.le_refl _) (.cells #[.int .i64 p, .int .u64 t] 31))
  go_enter Tryd.func37, Tryd.ntmps37
  go_wp2
  go_ret
  exact ⟨rfl, B1.out⟩

theorem freeI_le (S : List SlotD) : freeI S ≤ S.length := List.findIdx_le_length
theorem freeI_before {S : List SlotD} : ∀ j, j < freeI S → pidAt S j ≠ 0 := by
  intro j h
  have hj : j < S.length := Nat.lt_of_lt_of_le h (freeI_le S)
  have := List.not_of_lt_findIdx h
  simpa [pidAt, List.getD, hj] using this
theorem freeI_at {S : List SlotD} (h : freeI S < S.length) : pidAt S (freeI S) = 0 := by
  have h' : (S[freeI S]'h).1 = 0 := by
    have := @List.findIdx_getElem _ (fun s : SlotD => s.1 == 0) S h
    exact eq_of_beq this
  simp [pidAt, List.getD, h, h']
/-- What IndexFunc gives. -/
def freeV (S : List SlotD) : Int := if freeI S < 8 then (freeI S : Int) else -1
set_option maxHeartbeats 2000000 in
theorem index_any (w : World) (B lb cb : Nat) (W : Int) (S : List SlotD) (h : LockAt w B lb cb W S) :
    Calls Tryd.prog 36 #[.slice (some ⟨lb, 2, none⟩) 8 8, .func (.func 37) #[] #[]] w fun e w' => e = .returned (.int .i64 (freeV S)) ∧ Below w.heap.size w w' := by
  have hL := hid h
  have h8 := h.len
  clear h
  have hle := freeI_le S
  rw [h8] at hle
  have hbef := hid (@freeI_before S)
  have hat := hid (@freeI_at S)
  have hv : Hid (freeV S = if freeI S < 8 then (freeI S : Int) else -1) := hid rfl
  generalize freeI S = f at *
  replace h8 := hid h8
  go_enter Tryd.func36, Tryd.ntmps36
  go_wp2
  go_loopg [8] 8 (fun g i wr => ∃ k : Nat, k + g = 8 ∧ k ≤ f ∧ i = .int .i64 k ∧ Hid (Below w.heap.size w wr))
  case atStart => exact ⟨0, by omega, by omega, rfl, hid (Below.refl _ _)⟩
  case round =>
    obtain ⟨k, hk, hkf, rfl, hb⟩ := hrel
    cases gk with
    | succ g =>
      have LR := hL.out.below hb.out
      have hp := LR.pid k (by omega)
      have ht := LR.txn k (by omega)
      have hlt := LR.lt
      clear LR
      generalize htk : txnAt S k = t at *
      generalize hpk : pidAt S k = p at *
      clear htk
      by_cases hkf' : k < f
      · have hne : p ≠ 0 := by rw [← hpk]; exact hbef.out k hkf'
        have hd : decide (p = 0) = false := by simpa using hne
        replace hpk := hid hpk
        go_wp2_with fail
        refine (claim1_any _ p t).mono ?_
        rw [hd]
        rintro e w1 ⟨rfl, hb1⟩
        have HB := hid (hb.out.trans (hb1.mono hb.out.size))
        clear hb hb1
        go_wp2
        go_roundg g
        case rel => exact ⟨k + 1, by omega, by omega, by go_num, HB⟩
        case measure => omega
      · obtain rfl : f = k := by omega
        have he : p = 0 := by rw [← hpk]; exact hat.out (by rw [h8.out]; omega)
        subst he
        clear hpk hat hbef
        go_wp2_with fail
        refine (claim1_any _ 0 t).mono ?_
        rw [show decide ((0 : Int) = 0) = true from rfl]
        rintro e w1 ⟨rfl, hb1⟩
        have HB := hid (hb.out.trans (hb1.mono hb.out.size))
        clear hb hb1
        go_wp2
        go_ret
        refine ⟨?_, HB.out⟩
        rw [hv.out, if_pos (by omega)]
        rfl
    | zero =>
      have hke : k = 8 := by omega
      subst hke
      have hf8 : f = 8 := by omega
      clear hat hbef
      replace hf8 := hid hf8
      go_wp2
      go_ret
      refine ⟨?_, hb.out⟩
      rw [hv.out, if_neg (by have := hf8.out; omega)]
      rfl

/-- The slots behind Claim. -/
def claimS (S : List SlotD) (pid : Int) : List SlotD := if freeI S < 8 ∧ 0 < pid then S.set (freeI S) (pid, 0) else S
def claimOk (S : List SlotD) (pid : Int) : Bool := decide (freeI S < 8) && decide (0 < pid)
def claimE (S : List SlotD) (pid : Int) : Ending := if claimOk S pid then .returned (.tuple #[.int .i64 (freeI S), .nilIface]) else .returned (.tuple #[.int .i64 (-1), .iface 69 (.int .i64 15)])
set_option maxHeartbeats 2000000 in
theorem claim_any (w : World) (B lb cb : Nat) (W pid : Int) (S : List SlotD) (h : LockAt w B lb cb W S) (hq : pid < 9223372036854775808) :
    Calls Tryd.prog 11 #[.pointer (some ⟨lb, 0, none⟩), .int .i64 pid] w fun e w' => e = claimE S pid ∧ LockAt w' B lb cb W (claimS S pid) ∧ Lo lb cb w w' := by
  have hlt := h.lt
  have HI := hid (index_any w B lb cb W S h)
  have hL := hid h
  clear h
  have hcE : Hid (∀ b, claimOk S pid = b → claimE S pid = if b then .returned (.tuple #[.int .i64 (freeI S), .nilIface]) else .returned (.tuple #[.int .i64 (-1), .iface 69 (.int .i64 15)])) := hid (by rintro b rfl; rfl)
  have hcS : Hid (claimS S pid = if freeI S < 8 ∧ 0 < pid then S.set (freeI S) (pid, 0) else S) := hid rfl
  have hcO : Hid (claimOk S pid = (decide (freeI S < 8) && decide (0 < pid))) := hid rfl
  have hcv : freeV S = if freeI S < 8 then (freeI S : Int) else -1 := rfl
  generalize freeI S = f at *
  generalize freeV S = fv at *
  by_cases hf : f < 8
  · rw [if_pos hf] at hcv
    subst hcv
    have hd1 : decide ((f : Int) < 0) = false := by simp
    by_cases hp : 0 < pid
    · have hd2 : decide (pid ≤ 0) = false := by simp; omega
      go_enter Tryd.func11, Tryd.ntmps11
      go_wp2_with fail
      refine HI.out.mono ?_
      rintro e w1 ⟨rfl, hb⟩
      have L1 := hL.out.below hb
      have hp1 := L1.pid f hf
      have ht1 := L1.txn f hf
      have hz := L1.free
      have hlt1 := L1.lt
      have L2 := hid (L1.putS f pid 0 ⟨by simp; omega, by simpa using hq, by simp, by simp⟩)
      have O2 := hid ((Lo.of_below hb).trans (Lo.put2 (lb := lb) (cb := cb) (i := 2 + f * 2) (j := 2 + f * 2 + 1) (.int .i64 pid) (.int .u64 0)))
      clear L1 hL hb HI
      go_wp2
      go_ret2
      rw [hcE.out true (by rw [hcO.out]; simp [hf, hp]), if_pos rfl, hcS.out, if_pos ⟨hf, hp⟩]
      exact ⟨rfl, L2.out, O2.out⟩
    · have hd2 : decide (pid ≤ 0) = true := by simp; omega
      go_enter Tryd.func11, Tryd.ntmps11
      go_wp2_with fail
      refine HI.out.mono ?_
      rintro e w1 ⟨rfl, hb⟩
      have L1 := hid (hL.out.below hb)
      replace hb := hid hb
      go_wp2
      go_ret2
      rw [hcE.out false (by rw [hcO.out]; simp [hp]), if_neg (by simp), hcS.out, if_neg (by simp [hp])]
      exact ⟨rfl, L1.out, Lo.of_below hb.out⟩
  · rw [if_neg hf] at hcv
    subst hcv
    go_enter Tryd.func11, Tryd.ntmps11
    go_wp2_with fail
    refine HI.out.mono ?_
    rintro e w1 ⟨rfl, hb⟩
    have L1 := hid (hL.out.below hb)
    replace hb := hid hb
    go_wp2
    go_ret2
    rw [hcE.out false (by rw [hcO.out]; simp [hf]), if_neg (by simp), hcS.out, if_neg (by simp [hf])]
    exact ⟨rfl, L1.out, Lo.of_below hb.out⟩

/-- Whose slot it is. -/
def heldB (S : List SlotD) (slot pid : Int) : Bool := decide (0 < pid) && decide (0 ≤ slot) && decide (slot < 8) && decide (pidAt S slot.toNat = pid)
set_option maxHeartbeats 2000000 in
theorem held_any (w : World) (B lb cb : Nat) (W slot pid : Int) (S : List SlotD) (h : LockAt w B lb cb W S) :
    Calls Tryd.prog 39 #[.pointer (some ⟨lb, 0, none⟩), .int .i64 slot, .int .i64 pid] w fun e w' => e = .returned (.bool (heldB S slot pid)) ∧ w' = w := by
  have hlt := h.lt
  have hpid := hid h.pid
  clear h
  have hB : Hid (heldB S slot pid = (decide (0 < pid) && decide (0 ≤ slot) && decide (slot < 8) && decide (pidAt S slot.toNat = pid))) := hid rfl
  by_cases hp : 0 < pid
  · by_cases h0 : 0 ≤ slot
    · by_cases h8 : slot < 8
      · obtain ⟨k, rfl⟩ : ∃ k : Nat, slot = (k : Int) := ⟨slot.toNat, by omega⟩
        have hx := hpid.out k (by omega)
        rw [Int.toNat_natCast] at hB
        generalize pidAt S k = q at *
        go_enter Tryd.func39, Tryd.ntmps39
        go_wp2
        go_ret
        rw [hB.out]
        refine ⟨?_, rfl⟩
        simp [hp, h8]
        rfl
      · go_enter Tryd.func39, Tryd.ntmps39
        go_wp2
        go_ret
        rw [hB.out, show decide (slot < 8) = false by simpa using h8]
        simp
    · go_enter Tryd.func39, Tryd.ntmps39
      go_wp2
      go_ret
      rw [hB.out, show decide (0 ≤ slot) = false by simpa using h0]
      simp
  · go_enter Tryd.func39, Tryd.ntmps39
    go_wp2
    go_ret
    rw [hB.out, show decide (0 < pid) = false by simpa using hp]
    simp

def errE (b : Bool) : Ending := if b then .returned .nilIface else .returned (.iface 69 (.int .i64 18))
/-- The slots behind Publish, behind Free. -/
def publishS (S : List SlotD) (slot pid txn : Int) : List SlotD := if heldB S slot pid then S.set slot.toNat (pid, txn) else S
def freedS (S : List SlotD) (slot pid : Int) : List SlotD := if heldB S slot pid then S.set slot.toNat (0, 0) else S
theorem held_parts {S : List SlotD} {slot pid : Int} (h : heldB S slot pid = true) : 0 < pid ∧ 0 ≤ slot ∧ slot < 8 ∧ pidAt S slot.toNat = pid := by
  simp only [heldB, Bool.and_eq_true, decide_eq_true_eq] at h
  exact ⟨h.1.1.1, h.1.1.2, h.1.2, h.2⟩
set_option maxHeartbeats 2000000 in
theorem publish_any (w : World) (B lb cb : Nat) (W slot pid txn : Int) (S : List SlotD) (h : LockAt w B lb cb W S) (ht0 : 0 ≤ txn) (ht1 : txn < 18446744073709551616) :
    Calls Tryd.prog 14 #[.pointer (some ⟨lb, 0, none⟩), .int .i64 slot, .int .i64 pid, .int .u64 txn] w fun e w' => e = errE (heldB S slot pid) ∧ LockAt w' B lb cb W (publishS S slot pid txn) ∧ Lo lb cb w w' := by
  have hlt := h.lt
  have HH := hid (held_any w B lb cb W slot pid S h)
  have hS : Hid (∀ b, heldB S slot pid = b → publishS S slot pid txn = if b then S.set slot.toNat (pid, txn) else S) := hid (by rintro b rfl; rfl)
  cases hb : heldB S slot pid with
  | true =>
    obtain ⟨hp, h0, h8, he⟩ := held_parts hb
    have hL := hid h
    obtain ⟨k, rfl⟩ : ∃ k : Nat, slot = (k : Int) := ⟨slot.toNat, by omega⟩
    rw [Int.toNat_natCast] at he
    have L2 := h.putT k txn ⟨by rw [he]; simp; omega, by rw [he]; have := (pidAt_ok h.ok k).2; rw [he] at this; simpa using this, by simpa using ht0, by simpa using ht1⟩
    have hx := h.txn k (by omega)
    have hz := h.free
    rw [hb] at HH
    have hS' := hid (hS.out true hb)
    rw [he] at L2
    replace L2 := hid L2
    replace he := hid he
    replace hb := hid hb
    clear h hL hS
    go_enter Tryd.func14, Tryd.ntmps14
    go_wp2_with (go_at_call 39; refine HH.out.mono ?_; rintro e w1 ⟨rfl, rfl⟩)
    go_ret
    rw [hS'.out, if_pos (by simp)]
    exact ⟨rfl, L2.out, Lo.obj _⟩
  | false =>
    have hL := hid h
    rw [hb] at HH
    have hS' := hid (hS.out false hb)
    replace hb := hid hb
    clear h hS
    go_enter Tryd.func14, Tryd.ntmps14
    go_wp2_with (go_at_call 39; refine HH.out.mono ?_; rintro e w1 ⟨rfl, rfl⟩)
    go_ret
    rw [hS'.out, if_neg (by simp)]
    exact ⟨rfl, hL.out, Lo.refl _ _ _⟩
set_option maxHeartbeats 2000000 in
theorem free_any (w : World) (B lb cb : Nat) (W slot pid : Int) (S : List SlotD) (h : LockAt w B lb cb W S) :
    Calls Tryd.prog 16 #[.pointer (some ⟨lb, 0, none⟩), .int .i64 slot, .int .i64 pid] w fun e w' => e = errE (heldB S slot pid) ∧ LockAt w' B lb cb W (freedS S slot pid) ∧ Lo lb cb w w' := by
  have hlt := h.lt
  have HH := hid (held_any w B lb cb W slot pid S h)
  have hS : Hid (∀ b, heldB S slot pid = b → freedS S slot pid = if b then S.set slot.toNat (0, 0) else S) := hid (by rintro b rfl; rfl)
  cases hb : heldB S slot pid with
  | true =>
    obtain ⟨hp, h0, h8, he⟩ := held_parts hb
    obtain ⟨k, rfl⟩ : ∃ k : Nat, slot = (k : Int) := ⟨slot.toNat, by omega⟩
    have L2 := hid (h.putS k 0 0 ⟨by simp, by simp, by simp, by simp⟩)
    have hp := h.pid k (by omega)
    have hx := h.txn k (by omega)
    have hz := h.free
    rw [hb] at HH
    have hS' := hid (hS.out true hb)
    replace he := hid he
    replace hb := hid hb
    clear h hS
    go_enter Tryd.func16, Tryd.ntmps16
    go_wp2_with (go_at_call 39; refine HH.out.mono ?_; rintro e w1 ⟨rfl, rfl⟩)
    go_ret
    rw [hS'.out, if_pos (by simp)]
    exact ⟨rfl, L2.out, Lo.put2 _ _⟩
  | false =>
    have hL := hid h
    rw [hb] at HH
    have hS' := hid (hS.out false hb)
    replace hb := hid hb
    clear h hS
    go_enter Tryd.func16, Tryd.ntmps16
    go_wp2_with (go_at_call 39; refine HH.out.mono ?_; rintro e w1 ⟨rfl, rfl⟩)
    go_ret
    rw [hS'.out, if_neg (by simp)]
    exact ⟨rfl, hL.out, Lo.refl _ _ _⟩
end Go.Proofs.YtdjhlgcbjdohiaaDoor
