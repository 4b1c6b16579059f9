/- LockSlots: as many as may be claim a slot, one more doesn't; a freed one is claimed again, the first one first. -/
import Derived.Test.YtnfnaefjginnmaaJl
namespace Go.Proofs.Ytnfnaefjginnmaa
open Go.RowKit Go.Conc

/-- A lock, and what was there before. -/
structure Ll (w X : World) (lb cb : Nat) (W : Int) (S : List SlotD) : Prop where
  l : LockAt X w.heap.size lb cb W S
  bel : Below w.heap.size w X
section
variable {w X Y : World} {lb cb : Nat} {W W' : Int} {S S' : List SlotD}
theorem Ll.lo (h : Ll w X lb cb W S) (hl : LockAt Y w.heap.size lb cb W' S') (o : Lo lb cb X Y) : Ll w Y lb cb W' S' := ⟨hl, h.bel.trans (o.below h.l)⟩
theorem Ll.below (h : Ll w X lb cb W S) (hb : Below X.heap.size X Y) : Ll w Y lb cb W S := ⟨h.l.below hb, h.bel.trans (hb.mono h.bel.size)⟩
theorem claim_ll (h : Ll w X lb cb W S) (pid : Int) (hq : pid < 9223372036854775808) :
    Calls Try.prog 11 #[.pointer (some ⟨lb, 0, none⟩), .int .i64 pid] X fun e Y => e = claimE S pid ∧ Ll w Y lb cb W (claimS S pid) :=
  (claim_any X _ lb cb W pid S h.l hq).mono fun _ _ ⟨he, hl, ho⟩ => ⟨he, h.lo hl ho⟩
theorem publish_ll (h : Ll w X lb cb W S) (slot pid txn : Int) (h0 : 0 ≤ txn) (h1 : txn < 18446744073709551616) :
    Calls Try.prog 12 #[.pointer (some ⟨lb, 0, none⟩), .int .i64 slot, .int .i64 pid, .int .u64 txn] X fun e Y => e = errE (heldB S slot pid) ∧ Ll w Y lb cb W (publishS S slot pid txn) :=
  (publish_any X _ lb cb W slot pid txn S h.l h0 h1).mono fun _ _ ⟨he, hl, ho⟩ => ⟨he, h.lo hl ho⟩
theorem free_ll (h : Ll w X lb cb W S) (slot pid : Int) :
    Calls Try.prog 18 #[.pointer (some ⟨lb, 0, none⟩), .int .i64 slot, .int .i64 pid] X fun e Y => e = errE (heldB S slot pid) ∧ Ll w Y lb cb W (freedS S slot pid) :=
  (free_any X _ lb cb W slot pid S h.l).mono fun _ _ ⟨he, hl, ho⟩ => ⟨he, h.lo hl ho⟩
end
theorem ll_new {w X Y : World} {lb cb : Nat} (hb : Below w.heap.size w X) (hl : LockAt Y X.heap.size lb cb 0 freeS) (hY : Below X.heap.size X Y) : Ll w Y lb cb 0 freeS := ⟨hl.mono hb.size, bel hb hY hb.size⟩
theorem le8 {k : Nat} (h : k ≤ 8) : k = 0 ∨ k = 1 ∨ k = 2 ∨ k = 3 ∨ k = 4 ∨ k = 5 ∨ k = 6 ∨ k = 7 ∨ k = 8 := by omega
/-- The first k slots are m's. -/
def fullS (m : Int) (k : Nat) : List SlotD := List.replicate k (m, 0) ++ List.replicate (8 - k) (0, 0)
theorem full_free (m : Int) (hm : 0 < m) (k : Nat) (hk : k ≤ 8) : freeI (fullS m k) = k := by
  have h : (m == 0) = false := by simpa using (show m ≠ 0 by omega)
  rcases le8 hk with rfl | rfl | rfl | rfl | rfl | rfl | rfl | rfl | rfl <;> simp [freeI, fullS, List.replicate_succ, List.findIdx_cons, h]
theorem full_claim (m : Int) (hm : 0 < m) (k : Nat) (hk : k < 8) : claimE (fullS m k) m = .returned (.tuple #[.int .i64 (k : Int), .nilIface]) ∧ claimS (fullS m k) m = fullS m (k + 1) := by
  have h := full_free m hm k (by omega)
  refine ⟨?_, ?_⟩
  · rw [claimE, claimOk, h]
    simp [hk, hm]
  · rw [claimS, h, if_pos ⟨hk, hm⟩]
    rcases lt8 hk with rfl | rfl | rfl | rfl | rfl | rfl | rfl | rfl <;> rfl
theorem full_more (m p : Int) (hm : 0 < m) : claimE (fullS m 8) p = .returned (.tuple #[.int .i64 (-1), .iface 46 (.int .i64 15)]) ∧ claimS (fullS m 8) p = fullS m 8 := by
  have h := full_free m hm 8 (by omega)
  refine ⟨?_, ?_⟩
  · rw [claimE, claimOk, h]
    simp
  · rw [claimS, h, if_neg (by omega)]
theorem full_pid (m : Int) (k : Nat) (hk : k < 8) : pidAt (fullS m 8) k = m := by
  rcases lt8 hk with rfl | rfl | rfl | rfl | rfl | rfl | rfl | rfl <;> rfl
theorem full_held (m p : Int) (k : Nat) (hk : k < 8) (hp : 0 < p) : heldB (fullS m 8) (k : Int) p = decide (m = p) := by
  rw [heldB, Int.toNat_natCast, full_pid m k hk]
  simp [hp, show (k : Int) < 8 by omega]
/-- All are m's but one. -/
def gapS (m : Int) (k : Nat) : List SlotD := (fullS m 8).set k (0, 0)
theorem gap_free (m : Int) (hm : 0 < m) (k : Nat) (hk : k < 8) : freeI (gapS m k) = k := by
  have h : (m == 0) = false := by simpa using (show m ≠ 0 by omega)
  rcases lt8 hk with rfl | rfl | rfl | rfl | rfl | rfl | rfl | rfl <;> simp [freeI, gapS, fullS, List.replicate_succ, List.findIdx_cons, h]
theorem gap_claim (m p : Int) (hm : 0 < m) (k : Nat) (hk : k < 8) (hp : 0 < p) : claimE (gapS m k) p = .returned (.tuple #[.int .i64 (k : Int), .nilIface]) := by
  rw [claimE, claimOk, gap_free m hm k hk]
  simp [hk, hp]
theorem claim_zero (S : List SlotD) : claimE S 0 = .returned (.tuple #[.int .i64 (-1), .iface 46 (.int .i64 15)]) ∧ claimS S 0 = S := by
  refine ⟨by simp [claimE, claimOk], by simp [claimS]⟩
theorem neqN (w : World) : (binOp .neq 28 .nilIface .nilIface).run Try.prog w = .ok (.bool false) w := by kernel_rfl

set_option maxRecDepth 100000 in
set_option maxHeartbeats 4000000 in
theorem slots_law (a0 a1 : Int) (w : World) (h0 : 0 ≤ a0) (h1 : a0 ≤ 255) (h2 : 0 ≤ a1) (h3 : a1 ≤ 255) :
    Calls Try.prog 4 #[.int .u8 a0, .int .u8 a1] w fun e w' => e = .returned (.bool true) ∧ Below w.heap.size w w' := by
  obtain ⟨a, rfl⟩ : ∃ a : Nat, a0 = (a : Int) := ⟨a0.toNat, by omega⟩
  obtain ⟨c, rfl⟩ : ∃ c : Nat, a1 = (c : Int) := ⟨a1.toNat, by omega⟩
  have hnn := neqN
  have hnil := Try.eqNilNil
  have he15 := Try.eqNil15
  have he18 := Try.eqNil18
  have hm : Hid (0 < (a : Int) + 1) := hid (by omega)
  have hm5 : ¬ ((a : Int) + 1 = 500) := by omega
  have hwa : IntKind.i64.wrap ((a : Int) + 1) = (a : Int) + 1 := by rw [IntKind.wrap_i64]; omega
  go_enter Try.func4, Try.ntmps4
  go_wp2_with fail
  refine (known_any w).mono ?_
  rintro e w0 ⟨rfl, B0⟩
  replace B0 := hid B0
  go_wp2_with fail
  refine (lnew_any w0).mono ?_
  rintro e w1 ⟨rfl, F1, B1⟩
  have H1 := hid (ll_new B0.out F1 B1)
  clear F1 B1 B0
  generalize w0.heap.size + 1 = lb at *
  generalize w0.heap.size = cb at *
  clear w0
  go_wp2
  go_loopg [6] 8 (fun g i wr => ∃ k : Nat, k + g = 8 ∧ i = .int .i64 (k : Int) ∧ Hid (Ll w wr lb cb 0 (fullS ((a : Int) + 1) k)))
  case atStart => exact ⟨0, by omega, rfl, H1⟩
  case round =>
    obtain ⟨k, hk, rfl, hf⟩ := hrel
    clear H1
    cases gk with
    | succ g =>
      obtain ⟨e1, e2⟩ := full_claim ((a : Int) + 1) hm.out k (by omega)
      replace e1 := hid e1; replace e2 := hid e2
      go_wp2_with fail
      refine (claim_ll hf.out ((a : Int) + 1) (by omega)).mono ?_
      rw [e1.out, e2.out]
      rintro e w2 ⟨rfl, H2⟩
      replace H2 := hid H2
      clear hf e1 e2
      go_wp2
      go_roundg g
      case rel => exact ⟨k + 1, by omega, by go_num, H2⟩
      case measure => omega
    | zero =>
      have hke : k = 8 := by omega
      subst hke
      obtain ⟨q, hq⟩ : ∃ q : Nat, c % 8 = q := ⟨_, rfl⟩
      have hq8 : q < 8 := by omega
      have hqi : (c : Int) % 8 = (q : Int) := by omega
      obtain ⟨e1, e2⟩ := full_more ((a : Int) + 1) 500 hm.out
      replace e1 := hid e1; replace e2 := hid e2
      clear hq
      go_wp2_with fail
      refine (claim_ll hf.out 500 (by omega)).mono ?_
      rw [e1.out, e2.out]
      rintro e w2 ⟨rfl, H2⟩
      replace H2 := hid H2
      clear hf e1 e2
      have hh1 : Hid (heldB (fullS ((a : Int) + 1) 8) (q : Int) 500 = false) := hid (by rw [full_held _ _ _ hq8 (by omega)]; simpa using hm5)
      have hh2 : Hid (heldB (fullS ((a : Int) + 1) 8) (q : Int) ((a : Int) + 1) = true) := hid (by rw [full_held _ _ _ hq8 hm.out]; simp)
      go_wp2_with fail
      refine (free_ll H2.out (q : Int) 500).mono ?_
      rw [show errE (heldB (fullS ((a : Int) + 1) 8) (q : Int) 500) = .returned (.iface 46 (.int .i64 18)) by rw [hh1.out]; rfl, show freedS (fullS ((a : Int) + 1) 8) (q : Int) 500 = fullS ((a : Int) + 1) 8 by rw [freedS, hh1.out]; rfl]
      rintro e w3 ⟨rfl, H3⟩
      replace H3 := hid H3
      clear H2
      go_wp2_with fail
      refine (free_ll H3.out (q : Int) ((a : Int) + 1)).mono ?_
      rw [show errE (heldB (fullS ((a : Int) + 1) 8) (q : Int) ((a : Int) + 1)) = .returned .nilIface by rw [hh2.out]; rfl, show freedS (fullS ((a : Int) + 1) 8) (q : Int) ((a : Int) + 1) = gapS ((a : Int) + 1) q by rw [freedS, hh2.out]; rfl]
      rintro e w4 ⟨rfl, H4⟩
      replace H4 := hid H4
      clear H3 hh1 hh2
      have hg := hid (gap_claim ((a : Int) + 1) 500 hm.out q hq8 (by omega))
      go_wp2_with fail
      refine (claim_ll H4.out 500 (by omega)).mono ?_
      rw [hg.out]
      rintro e w5 ⟨rfl, H5⟩
      replace H5 := hid H5
      clear H4 hg
      go_wp2_with fail
      refine (claim_ll H5.out 0 (by omega)).mono ?_
      rw [(claim_zero _).1]
      rintro e w6 ⟨rfl, H6⟩
      replace H6 := hid H6
      clear H5
      go_wp2_with fail
      refine (is_same15 _).mono ?_
      rintro e w7 ⟨rfl, rfl⟩
      go_wp2_with fail
      refine (is_same18 _).mono ?_
      rintro e w8 ⟨rfl, rfl⟩
      go_wp2_with fail
      refine (is_same15 _).mono ?_
      rintro e w9 ⟨rfl, rfl⟩
      go_wp2
      go_ret
      exact ⟨rfl, H6.out.bel⟩
end Go.Proofs.Ytnfnaefjginnmaa
