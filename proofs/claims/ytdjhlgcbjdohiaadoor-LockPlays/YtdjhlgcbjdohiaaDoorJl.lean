/- A lock beside those that live: both at once. Contract of the statements' own opening test known. -/
import Derived.Test.YtdjhlgcbjdohiaaDoorJj
import Derived.Test.YtdjhlgcbjdohiaaDoorJk
namespace Go.Proofs.YtdjhlgcbjdohiaaDoor
open Go.RowKit Go.Conc

theorem LockAt.mono {w : World} {B C lb cb : Nat} {W : Int} {S : List SlotD} (h : LockAt w B lb cb W S) (hC : C ≤ B) : LockAt w C lb cb W S :=
  ⟨h.obj, Nat.le_trans hC h.base, Nat.le_trans hC h.cbase, h.ch, h.len, h.wlo, h.whi, h.ok⟩
theorem ProcsAt.mono {w : World} {B C pb pc n : Nat} {v : Value} {last : Int} {l : List Int} (h : ProcsAt w B pb pc v last l n) (hC : C ≤ B) : ProcsAt w C pb pc v last l n :=
  ⟨h.obj, Nat.le_trans hC h.base, Nat.le_trans hC h.cbase, h.ch, h.row.mono hC, h.len, h.rises, h.upto, h.lo, h.hi⟩
theorem bel {w W W' : World} {B : Nat} (h : Below B w W) (h' : Below W.heap.size W W') (hB : B ≤ W.heap.size) : Below B w W' := h.trans (h'.mono hB)
/-- A lock, those that live, and what was there before. -/
structure Bl (w X : World) (lb cb pb pc : Nat) (W : Int) (S : List SlotD) (v : Value) (last : Int) (L : List Int) : Prop where
  l : LockAt X w.heap.size lb cb W S
  p : ProcsAt X w.heap.size pb pc v last L L.length
  bel : Below w.heap.size w X
section
variable {w X Y : World} {lb cb pb pc : Nat} {W W' last last' : Int} {S S' : List SlotD} {v v' : Value} {L L' : List Int}
theorem Bl.lo (h : Bl w X lb cb pb pc W S v last L) (hl : LockAt Y w.heap.size lb cb W' S') (o : Lo lb cb X Y) : Bl w Y lb cb pb pc W' S' v last L :=
  ⟨hl, h.p.byLock h.l o, h.bel.trans (o.below h.l)⟩
theorem Bl.po (h : Bl w X lb cb pb pc W S v last L) (hp : ProcsAt Y w.heap.size pb pc v' last' L' L'.length) (o : Po pb pc X v Y v') : Bl w Y lb cb pb pc W S v' last' L' :=
  ⟨h.l.byProcs h.p o, hp, h.bel.trans (o.below h.p)⟩
theorem Bl.below (h : Bl w X lb cb pb pc W S v last L) (hb : Below X.heap.size X Y) : Bl w Y lb cb pb pc W S v last L :=
  ⟨h.l.below hb, h.p.below hb, h.bel.trans (hb.mono h.bel.size)⟩
theorem take_bl (h : Bl w X lb cb pb pc W S v last L) (pid : Int) (hq : pid < 9223372036854775808) :
    Calls Tryd.prog 7 #[.pointer (some ⟨lb, 0, none⟩), .int .i64 pid, .pointer (some ⟨pb, 0, none⟩)] X fun e Y => e = .returned (.bool (takeB W pid (L.contains W))) ∧ Bl w Y lb cb pb pc (takeW W pid (L.contains W)) S v last L :=
  (take_lock X _ lb cb _ pb pc _ W pid last v L S h.l h.p hq).mono fun _ _ ⟨he, hl, ho⟩ => ⟨he, h.lo hl ho⟩
theorem claim_bl (h : Bl w X lb cb pb pc W S v last L) (pid : Int) (hq : pid < 9223372036854775808) :
    Calls Tryd.prog 11 #[.pointer (some ⟨lb, 0, none⟩), .int .i64 pid] X fun e Y => e = claimE S pid ∧ Bl w Y lb cb pb pc W (claimS S pid) v last L :=
  (claim_any X _ lb cb W pid S h.l hq).mono fun _ _ ⟨he, hl, ho⟩ => ⟨he, h.lo hl ho⟩
theorem publish_bl (h : Bl w X lb cb pb pc W S v last L) (slot pid txn : Int) (h0 : 0 ≤ txn) (h1 : txn < 18446744073709551616) :
    Calls Tryd.prog 14 #[.pointer (some ⟨lb, 0, none⟩), .int .i64 slot, .int .i64 pid, .int .u64 txn] X fun e Y => e = errE (heldB S slot pid) ∧ Bl w Y lb cb pb pc W (publishS S slot pid txn) v last L :=
  (publish_any X _ lb cb W slot pid txn S h.l h0 h1).mono fun _ _ ⟨he, hl, ho⟩ => ⟨he, h.lo hl ho⟩
theorem spawn_bl (h : Bl w X lb cb pb pc W S v last L) (hl : L.length < 64) (hla : last < 100000) :
    Calls Tryd.prog 20 #[.pointer (some ⟨pb, 0, none⟩)] X fun e Y => e = .returned (.tuple #[.int .i64 (last + 1), .nilIface]) ∧ ∃ v', Bl w Y lb cb pb pc W S v' (last + 1) (L ++ [last + 1]) :=
  (spawn_any X _ pb pc v last L h.p hl hla).mono fun _ _ ⟨he, v', hp, ho⟩ => ⟨he, v', h.po hp ho⟩
theorem kill_bl (h : Bl w X lb cb pb pc W S v last L) (x : Int) (hx : x ∈ L) :
    Calls Tryd.prog 22 #[.pointer (some ⟨pb, 0, none⟩), .int .i64 x] X fun e Y => e = .returned .nilIface ∧ ∃ v', Bl w Y lb cb pb pc W S v' last (killL L x) :=
  (kill_any X _ pb pc v last x L h.p hx).mono fun _ _ ⟨he, v', hp, ho⟩ => ⟨he, v', h.po hp ho⟩
theorem lives_bl (h : Bl w X lb cb pb pc W S v last L) (x : Int) :
    Calls Tryd.prog 33 #[.pointer (some ⟨pb, 0, none⟩), .int .i64 x] X fun e Y => e = .returned (.bool (L.contains x)) ∧ Bl w Y lb cb pb pc W S v last L :=
  (lives_any X _ pb pc _ v last x L h.p).mono fun _ _ ⟨he, hb⟩ => ⟨he, h.below hb⟩
end
theorem bl_new {w X Y Z : World} {lb cb : Nat} (hb : Below w.heap.size w X) (hl : LockAt Y X.heap.size lb cb 0 freeS) (hY : Below X.heap.size X Y) (hp : ProcsAt Z Y.heap.size (Y.heap.size + 1) Y.heap.size (.slice none 0 0) 0 [] 0) (hZ : Below Y.heap.size Y Z) :
    Bl w Z lb cb (Y.heap.size + 1) Y.heap.size 0 freeS (.slice none 0 0) 0 [] := by
  have h1 := hb.size
  have h2 := hY.size
  exact ⟨(hl.below hZ).mono h1, hp.mono (by omega), bel (bel hb hY h1) hZ (by omega)⟩
theorem eqPtrP (b : Nat) (w : World) : (binOp .eql 27 (.pointer (some ⟨b, 0, none⟩)) (.pointer none)).run Tryd.prog w = .ok (.bool false) w := by
  simp [go_sem, Tryd.underlying27]
theorem eqPtrL (b : Nat) (w : World) : (binOp .eql 25 (.pointer (some ⟨b, 0, none⟩)) (.pointer none)).run Tryd.prog w = .ok (.bool false) w := by
  simp [go_sem, Tryd.underlying25]
theorem neqPtrL (b : Nat) (w : World) : (binOp .neq 25 (.pointer (some ⟨b, 0, none⟩)) (.pointer none)).run Tryd.prog w = .ok (.bool true) w := by
  simp [go_sem, Tryd.underlying25]
def S1 : List SlotD := [(2, 0), (0, 0), (0, 0), (0, 0), (0, 0), (0, 0), (0, 0), (0, 0)]
def S2 : List SlotD := [(2, 7), (0, 0), (0, 0), (0, 0), (0, 0), (0, 0), (0, 0), (0, 0)]
theorem S2_good : ∀ s ∈ S2, GoodSlot s := by simp [S2, GoodSlot]

set_option maxRecDepth 100000 in
set_option maxHeartbeats 4000000 in
theorem known_any (w : World) : Calls Tryd.prog 4 #[] w fun e w' => e = .returned (.bool true) ∧ Below w.heap.size w w' := by
  have hnil := Tryd.eqNilNil
  have hq1 := eqPtrP
  have hq2 := eqPtrL
  have hq3 := neqPtrL
  go_enter Tryd.func4, Tryd.ntmps4
  go_wp2_with fail
  refine (lnew_any w).mono ?_
  rintro e w1 ⟨rfl, L1, B1⟩
  generalize w.heap.size + 1 = lb at *
  replace L1 := hid L1
  replace B1 := hid B1
  go_wp2_with fail
  refine (pnew_any w1).mono ?_
  rintro e w2 ⟨rfl, P2, B2⟩
  have H2 := hid (bl_new (Below.refl w.heap.size w) L1.out B1.out P2 B2)
  clear L1 B1 P2 B2
  generalize w1.heap.size + 1 = pb at *
  generalize w1.heap.size = pc at *
  generalize hcb : w.heap.size = cb at *
  replace hcb := hid hcb
  clear w1
  go_wp2_with fail
  refine (spawn_bl H2.out (by simp) (by omega)).mono ?_
  rw [show ([] : List Int) ++ [0 + 1] = [1] from rfl, show (0 : Int) + 1 = 1 from rfl]
  rintro e w3 ⟨rfl, v3, H3⟩
  replace H3 := hid H3
  clear H2
  go_wp2_with fail
  refine (spawn_bl H3.out (by simp) (by omega)).mono ?_
  rw [show ([1] : List Int) ++ [1 + 1] = [1, 2] from rfl, show (1 : Int) + 1 = 2 from rfl]
  rintro e w4 ⟨rfl, v4, H4⟩
  replace H4 := hid H4
  clear H3
  go_wp2_with fail
  refine (take_bl H4.out 1 (by omega)).mono ?_
  rw [show takeB 0 1 (([1, 2] : List Int).contains 0) = true from rfl, show takeW 0 1 (([1, 2] : List Int).contains 0) = 1 from rfl]
  rintro e w5 ⟨rfl, H5⟩
  replace H5 := hid H5
  clear H4
  go_wp2_with fail
  refine (take_bl H5.out 2 (by omega)).mono ?_
  rw [show takeB 1 2 (([1, 2] : List Int).contains 1) = false from rfl, show takeW 1 2 (([1, 2] : List Int).contains 1) = 1 from rfl]
  rintro e w6 ⟨rfl, H6⟩
  replace H6 := hid H6
  clear H5
  go_wp2_with fail
  refine (kill_bl H6.out 1 (by simp)).mono ?_
  rw [show killL [1, 2] 1 = [2] from rfl]
  rintro e w7 ⟨rfl, v7, H7⟩
  replace H7 := hid H7
  clear H6
  go_wp2_with fail
  refine (take_bl H7.out 2 (by omega)).mono ?_
  rw [show takeB 1 2 (([2] : List Int).contains 1) = true from rfl, show takeW 1 2 (([2] : List Int).contains 1) = 2 from rfl]
  rintro e w8 ⟨rfl, H8⟩
  replace H8 := hid H8
  clear H7
  go_wp2_with fail
  refine (claim_bl H8.out 2 (by omega)).mono ?_
  rw [show claimE freeS 2 = .returned (.tuple #[.int .i64 0, .nilIface]) from rfl, show claimS freeS 2 = S1 from rfl]
  rintro e w9 ⟨rfl, H9⟩
  replace H9 := hid H9
  clear H8
  go_wp2_with fail
  refine (publish_bl H9.out 0 2 7 (by omega) (by omega)).mono ?_
  rw [show errE (heldB S1 0 2) = .returned .nilIface from rfl, show publishS S1 0 2 7 = S2 from rfl]
  rintro e w10 ⟨rfl, H10⟩
  replace H10 := hid H10
  clear H9
  go_wp2_with fail
  refine (publish_bl H10.out 0 1 7 (by omega) (by omega)).mono ?_
  rw [show errE (heldB S2 0 1) = .returned (.iface 69 (.int .i64 18)) from rfl, show publishS S2 0 1 7 = S2 from rfl]
  rintro e w11 ⟨rfl, H11⟩
  replace H11 := hid H11
  clear H10
  go_wp2_with fail
  refine (lbytes_any _ _ _ _ _ _ H11.out.l).mono ?_
  rintro e w12 ⟨rfl, b12⟩
  have H12 := hid (H11.out.below b12)
  clear H11 b12
  go_wp2_with fail
  refine (read_good w12 2 S2 rfl S2_good (by omega) (by omega)).mono ?_
  rintro e w13 ⟨lb2, cb2, rfl, L13, b13⟩
  have H13 := hid (H12.out.below b13)
  replace L13 := hid L13
  clear H12 b13
  go_wp2_with fail
  refine (read_short w13 _ (by decide)).mono ?_
  rintro e w14 ⟨rfl, b14⟩
  have H14 := hid (H13.out.below b14)
  have L14 := hid (L13.out.below b14)
  clear H13 L13 b14
  go_wp2_with fail
  refine (writer_any _ _ _ _ _ _ H14.out.l).mono ?_
  rintro e w15 ⟨rfl, rfl⟩
  go_wp2_with fail
  refine (is_same18 _).mono ?_
  rintro e w16 ⟨rfl, rfl⟩
  go_wp2_with fail
  refine (oldest_any _ _ _ _ _ 9 _ H14.out.l).mono ?_
  rw [show oldL 9 S2 = 7 from rfl]
  rintro e w17 ⟨rfl, b17⟩
  have H17 := hid (H14.out.below b17)
  have L17 := hid (L14.out.below b17)
  clear H14 L14 b17
  go_wp2_with fail
  refine (oldest_any _ _ _ _ _ 5 _ H17.out.l).mono ?_
  rw [show oldL 5 S2 = 5 from rfl]
  rintro e w18 ⟨rfl, b18⟩
  have H18 := hid (H17.out.below b18)
  have L18 := hid (L17.out.below b18)
  clear H17 L17 b18
  go_wp2_with fail
  refine (writer_any _ _ _ _ _ _ L18.out).mono ?_
  rintro e w19 ⟨rfl, rfl⟩
  go_wp2_with fail
  refine (is_same _).mono ?_
  rintro e w20 ⟨rfl, rfl⟩
  go_wp2_with fail
  refine (slots_any _ _ _ _ _ _ H18.out.l).mono ?_
  rintro e w21 ⟨u, rfl, hu, b21⟩
  obtain ⟨ug, uc, rfl, _⟩ := hu.slice
  have H21 := hid (H18.out.below b21)
  clear H18 L18 b21 hu
  go_wp2
  go_ret
  exact ⟨rfl, H21.out.bel⟩
end Go.Proofs.YtdjhlgcbjdohiaaDoor
