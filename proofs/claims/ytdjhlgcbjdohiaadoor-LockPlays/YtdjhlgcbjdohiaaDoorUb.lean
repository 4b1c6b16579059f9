/- Contracts of the reference's lock: owns, Publish, Free, Sweep and Oldest. -/
import Derived.Test.YtdjhlgcbjdohiaaDoorUa
namespace Go.Proofs.YtdjhlgcbjdohiaaDoor
open Go.RowKit Go.Conc

set_option maxHeartbeats 2000000 in
theorem owns_any (w : World) (B rb : Nat) (W slot pid : Int) (S : List SlotD) (h : RlAt w B rb W S) :
    Calls Tryd.prog 40 #[.pointer (some ⟨rb, 0, none⟩), .int .i64 slot, .int .i64 pid] w fun e w' => e = .returned (.bool (heldB S slot pid)) ∧ w' = w := by
  have hlt := h.lt
  have hpid := hid h.pid
  clear h
  have hB : Hid (heldB S slot pid = (decide (0 < pid) && decide (0 ≤ slot) && decide (slot < 8) && decide (pidAt S slot.toNat = pid))) := hid rfl
  by_cases h0 : 0 ≤ slot
  · by_cases h8 : slot < 8
    · by_cases hp : 0 < pid
      · obtain ⟨k, rfl⟩ : ∃ k : Nat, slot = (k : Int) := ⟨slot.toNat, by omega⟩
        have hx := hpid.out k (by omega)
        rw [Int.toNat_natCast] at hB
        generalize pidAt S k = q at *
        go_enter Tryd.func40, Tryd.ntmps40
        go_wp2
        go_ret
        rw [hB.out]
        refine ⟨?_, rfl⟩
        simp [hp, h8]
        rfl
      · go_enter Tryd.func40, Tryd.ntmps40
        go_wp2
        go_ret
        rw [hB.out, show decide (0 < pid) = false by simpa using hp]
        simp
    · go_enter Tryd.func40, Tryd.ntmps40
      go_wp2
      go_ret
      rw [hB.out, show decide (slot < 8) = false by simpa using h8]
      simp
  · go_enter Tryd.func40, Tryd.ntmps40
    go_wp2
    go_ret
    rw [hB.out, show decide (0 ≤ slot) = false by simpa using h0]
    simp
def rerrE (b : Bool) : Ending := if b then .returned (.int .i64 0) else .returned (.int .i64 18)
set_option maxHeartbeats 2000000 in
theorem rpublish_any (w : World) (B rb : Nat) (W slot pid txn : Int) (S : List SlotD) (h : RlAt w B rb W S) :
    Calls Tryd.prog 15 #[.pointer (some ⟨rb, 0, none⟩), .int .i64 slot, .int .i64 pid, .int .u64 txn] w fun e w' => e = rerrE (heldB S slot pid) ∧ RlAt w' B rb W (publishS S slot pid txn) ∧ w.grownBy w' (some rb) := by
  have hlt := h.lt
  have HH := hid (owns_any w B rb W slot pid S h)
  have hS : Hid (∀ b, heldB S slot pid = b → publishS S slot pid txn = if b then S.set slot.toNat (pid, txn) else S) := hid (by rintro b rfl; rfl)
  cases hb : heldB S slot pid with
  | true =>
    obtain ⟨hp, h0, h8, he⟩ := held_parts hb
    obtain ⟨k, rfl⟩ : ∃ k : Nat, slot = (k : Int) := ⟨slot.toNat, by omega⟩
    rw [Int.toNat_natCast] at he
    have L2 := h.putT k txn
    have hx := h.txn k (by omega)
    have hz := h.free
    rw [hb] at HH
    have hS' := hid (hS.out true hb)
    rw [he] at L2
    replace L2 := hid L2
    replace he := hid he
    replace hb := hid hb
    clear h hS
    go_enter Tryd.func15, Tryd.ntmps15
    go_wp2_with (go_at_call 40; refine HH.out.mono ?_; rintro e w1 ⟨rfl, rfl⟩)
    go_ret
    rw [hS'.out, if_pos (by simp)]
    exact ⟨rfl, L2.out, grown_setCell _ _ _ _⟩
  | false =>
    have hL := hid h
    rw [hb] at HH
    have hS' := hid (hS.out false hb)
    replace hb := hid hb
    clear h hS
    go_enter Tryd.func15, Tryd.ntmps15
    go_wp2_with (go_at_call 40; refine HH.out.mono ?_; rintro e w1 ⟨rfl, rfl⟩)
    go_ret
    rw [hS'.out, if_neg (by simp)]
    exact ⟨rfl, hL.out, World.grownBy.refl _ _⟩
set_option maxHeartbeats 2000000 in
theorem rfree_any (w : World) (B rb : Nat) (W slot pid : Int) (S : List SlotD) (h : RlAt w B rb W S) :
    Calls Tryd.prog 17 #[.pointer (some ⟨rb, 0, none⟩), .int .i64 slot, .int .i64 pid] w fun e w' => e = rerrE (heldB S slot pid) ∧ RlAt w' B rb W (freedS S slot pid) ∧ w.grownBy w' (some rb) := by
  have hlt := h.lt
  have HH := hid (owns_any w B rb W slot pid S h)
  have hS : Hid (∀ b, heldB S slot pid = b → freedS S slot pid = if b then S.set slot.toNat (0, 0) else S) := hid (by rintro b rfl; rfl)
  cases hb : heldB S slot pid with
  | true =>
    obtain ⟨hp, h0, h8, he⟩ := held_parts hb
    obtain ⟨k, rfl⟩ : ∃ k : Nat, slot = (k : Int) := ⟨slot.toNat, by omega⟩
    have L2 := hid (h.putS k 0 0)
    have hp := h.pid k (by omega)
    have hx := h.txn k (by omega)
    have hz := h.free
    rw [hb] at HH
    have hS' := hid (hS.out true hb)
    replace he := hid he
    replace hb := hid hb
    clear h hS
    go_enter Tryd.func17, Tryd.ntmps17
    go_wp2_with (go_at_call 40; refine HH.out.mono ?_; rintro e w1 ⟨rfl, rfl⟩)
    go_ret
    rw [hS'.out, if_pos (by simp)]
    exact ⟨rfl, L2.out, grown_put2 _ _ _ _ _ _⟩
  | false =>
    have hL := hid h
    rw [hb] at HH
    have hS' := hid (hS.out false hb)
    replace hb := hid hb
    clear h hS
    go_enter Tryd.func17, Tryd.ntmps17
    go_wp2_with (go_at_call 40; refine HH.out.mono ?_; rintro e w1 ⟨rfl, rfl⟩)
    go_ret
    rw [hS'.out, if_neg (by simp)]
    exact ⟨rfl, hL.out, World.grownBy.refl _ _⟩

/-- The reference's Procs is no part of its lock. -/
theorem RpAt.byRl {w w' : World} {B qb C rb : Nat} {u : Value} {last W : Int} {l : List Int} {S : List SlotD} (h : RpAt w B qb u last l) (hL : RlAt w C rb W S) (g : w.grownBy w' (some rb)) : RpAt w' B qb u last l := by
  have ho1 := h.obj
  have ho2 := hL.obj
  refine h.kept (g.block qb h.lt ?_) (fun k hk => g.block k (h.rowLt k hk).2 ?_)
  · intro e
    obtain rfl : qb = rb := by simpa using e
    rw [ho1] at ho2; simp at ho2
  · intro e
    obtain rfl : k = rb := by simpa using e
    obtain ⟨cur, hc⟩ := own_block h.row hk
    rw [hc] at ho2; simp at ho2
set_option maxHeartbeats 4000000 in
theorem rsweep_any (w : World) (B rb C qb : Nat) (W last : Int) (u : Value) (l : List Int) (S : List SlotD) (h : RlAt w B rb W S) (hP : RpAt w C qb u last l) (hl : l.length ≤ 1000) :
    Calls Tryd.prog 19 #[.pointer (some ⟨rb, 0, none⟩), .pointer (some ⟨qb, 0, none⟩)] w fun e w' => e = .returned (.int .i64 (sweepN l S)) ∧ RlAt w' B rb W (sweepS l S) ∧ w.grownBy w' (some rb) := by
  have h8 := hid h.len
  have hL := hid h
  replace hP := hid hP
  replace hl := hid hl
  clear h
  go_enter Tryd.func19, Tryd.ntmps19
  go_wp2
  go_loopg [5, 6] 8 (fun g a i wr => ∃ k : Nat, k + g = 8 ∧ i = .int .i64 (k : Int) ∧ a = .int .i64 (sweepN l (S.take k) : Nat) ∧ Hid (RlAt wr B rb W (sweptTo l S k)) ∧ Hid (w.grownBy wr (some rb)))
  case atStart => exact ⟨0, by omega, rfl, by simp [sweepN], by simpa [sweptTo, sweepS] using hL, hid (World.grownBy.refl _ _)⟩
  case round =>
    obtain ⟨k, hk, rfl, rfl, hf, ho⟩ := hrel
    cases gk with
    | succ g =>
      have hkS : k < S.length := by rw [h8.out]; omega
      have hs := hid (sweepN_succ l S k hkS)
      have hsd := hid (sweptTo_dead l S k hkS)
      have hsn := hid (sweptTo_not l S k hkS)
      have hle := sweepN_le l S k
      have hdb : Hid (∀ b, l.contains (pidAt S k) = b → deadB l (atD S k) = (decide (pidAt S k ≠ 0) && !b)) := hid (by rintro b rfl; rfl)
      have hpk : pidAt (sweptTo l S k) k = pidAt S k := by
        have h2 : (sweepS l (S.take k)).length = k := by simp [sweepS]; omega
        rw [pidAt, pidAt, sweptTo, List.getD, List.getElem?_append_right (by omega), h2, Nat.sub_self, List.getElem?_drop, Nat.add_zero]
        rfl
      have hp1 := hf.out.pid k (by omega)
      have ht1 := hf.out.txn k (by omega)
      have hz := hf.out.free
      have hlt := hf.out.lt
      rw [hpk] at hp1
      have HL := hid (rlives_any _ _ _ _ _ (pidAt S k) _ (hP.out.byRl hL.out ho.out) hl.out)
      have hw : IntKind.i64.wrap ((sweepN l (S.take k) : Int) + 1) = (sweepN l (S.take k) : Int) + 1 := by rw [IntKind.wrap_i64]; omega
      have L3 := hf.out.putS k 0 0
      clear hkS hpk
      generalize sweepN l (S.take k) = m at *
      generalize deadB l (atD S k) = db at *
      generalize txnAt (sweptTo l S k) k = t at *
      generalize pidAt S k = p at *
      by_cases hp : p = 0
      · have hdf : db = false := by rw [hdb.out _ rfl]; simp [hp]
        subst hp hdf
        clear hdb L3
        go_wp2
        go_roundg g
        case rel => exact ⟨k + 1, by omega, by go_num, by rw [hs.out]; simp, by rw [hsn.out (by simp)]; exact hf, ho⟩
        case measure => omega
      · generalize hc : l.contains p = c at *
        replace hc := hid hc
        cases c with
        | true =>
          have hdf : db = false := by rw [hdb.out _ rfl]; simp
          subst hdf
          clear hdb L3
          go_wp2_with (go_at_call 35; refine HL.out.mono ?_; rintro e w1 ⟨rfl, rfl⟩)
          go_roundg g
          case rel => exact ⟨k + 1, by omega, by go_num, by rw [hs.out]; simp, by rw [hsn.out (by simp)]; exact hf, ho⟩
          case measure => omega
        | false =>
          have hdf : db = true := by rw [hdb.out _ rfl]; simp [hp]
          subst hdf
          rw [hsd.out (by simp)] at L3
          replace L3 := hid L3
          clear hdb
          go_wp2_with (go_at_call 35; refine HL.out.mono ?_; rintro e w1 ⟨rfl, rfl⟩)
          go_roundg g
          case rel => exact ⟨k + 1, by omega, by go_num, by rw [hs.out]; simp, L3, hid (grown_trans ho.out (grown_put2 _ _ _ _ _ _))⟩
          case measure => omega
    | zero =>
      have hke : k = 8 := by omega
      subst hke
      rw [sweptTo_all l S 8 (by rw [h8.out]; omega)] at hf
      rw [List.take_of_length_le (by rw [h8.out]; omega)]
      go_wp2
      go_ret
      exact ⟨rfl, hf.out, ho.out⟩

set_option maxHeartbeats 2000000 in
theorem roldest_any (w : World) (B rb : Nat) (W last : Int) (S : List SlotD) (h : RlAt w B rb W S) :
    Calls Tryd.prog 26 #[.pointer (some ⟨rb, 0, none⟩), .int .u64 last] w fun e w' => e = .returned (.int .u64 (oldL last S)) ∧ w' = w := by
  have hlt := h.lt
  have h8 := hid h.len
  have hx := hid h.txn
  clear h
  go_enter Tryd.func26, Tryd.ntmps26
  go_wp2
  go_loopg [1, 5] 8 (fun g a i wr => ∃ k : Nat, k + g = 8 ∧ i = .int .i64 (k : Int) ∧ a = .int .u64 (oldL last (S.take k)) ∧ wr = w)
  case atStart => exact ⟨0, by omega, rfl, by simp [oldL], rfl⟩
  case round =>
    obtain ⟨k, hk, rfl, rfl, rfl⟩ := hrel
    cases gk with
    | succ g =>
      have ht1 := hx.out k (by omega)
      have hs := hid (oldL_snoc last S k (by rw [h8.out]; omega))
      generalize txnAt S k = t at *
      generalize oldL last (S.take k) = o at *
      by_cases ht : 0 < t
      · by_cases hto : t < o
        · go_wp2
          go_roundg g
          case rel => exact ⟨k + 1, by omega, by go_num, by rw [hs.out, if_pos ht, Int.min_eq_right (by omega)], rfl⟩
          case measure => omega
        · go_wp2
          go_roundg g
          case rel => exact ⟨k + 1, by omega, by go_num, by rw [hs.out, if_pos ht, Int.min_eq_left (by omega)], rfl⟩
          case measure => omega
      · go_wp2
        go_roundg g
        case rel => exact ⟨k + 1, by omega, by go_num, by rw [hs.out, if_neg (by omega)], rfl⟩
        case measure => omega
    | zero =>
      have hke : k = 8 := by omega
      subst hke
      rw [List.take_of_length_le (by rw [h8.out]; omega)]
      go_wp2
      go_ret
      exact ⟨rfl, rfl⟩
end Go.Proofs.YtdjhlgcbjdohiaaDoor
