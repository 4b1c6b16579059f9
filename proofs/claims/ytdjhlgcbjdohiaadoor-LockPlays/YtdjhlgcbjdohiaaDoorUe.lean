/- Contract of the statements' own same: the lock has the reference's writer and slots. -/
import Derived.Test.YtdjhlgcbjdohiaaDoorUb
import Derived.Deep.RegionHeld3
namespace Go.Proofs.YtdjhlgcbjdohiaaDoor
open Go.RowKit Go.Conc

theorem neqSlot (p t : Int) (w : World) : (binOp .neq 31 (.agg #[.int .i64 p, .int .u64 t]) (.agg #[.int .i64 p, .int .u64 t])).run Tryd.prog w = .ok (.bool false) w := by
  simp [go_sem, Tryd.underlying31]
set_option maxHeartbeats 4000000 in
theorem same_any (w : World) (B lb cb C rb : Nat) (W : Int) (S : List SlotD) (h : LockAt w B lb cb W S) (hr : RlAt w C rb W S) :
    Calls Tryd.prog 24 #[.pointer (some ⟨lb, 0, none⟩), .pointer (some ⟨rb, 0, none⟩)] w fun e w' => e = .returned (.bool true) ∧ Below w.heap.size w w' := by
  have HS := hid (slots_any w B lb cb W S h)
  have hL := hid h
  replace hr := hid hr
  clear h
  go_enter Tryd.func24, Tryd.ntmps24
  go_wp2_with fail
  refine HS.out.mono ?_
  rintro e w1 ⟨u, rfl, OS, b1⟩
  obtain ⟨ug, uc, rfl, hug⟩ := OS.slice
  have L1 := hid (hL.out.below b1)
  have R1 := hid (hr.out.below b1)
  have hlt := R1.out.lt
  have hx := R1.out.writer
  replace OS := hid OS
  replace b1 := hid b1
  clear hL hr HS hug
  go_wp2_with fail
  go_region_held3 (fun w' => w'.cell? ⟨rb, 0, none⟩ = some (.int .i64 W)) (first | exact hx | go_keep) (first
    | (go_at_call 30; refine (writer_any _ _ _ _ _ _ (L1.out.below (⟨rfl, rfl, rfl, Nat.le_refl _, fun _ _ => rfl⟩ : Below w1.heap.size w1 w1.drew))).mono ?_; rintro e wf ⟨rfl, rfl⟩))
  have hbd : Below w1.heap.size w1 w1.drew := ⟨rfl, rfl, rfl, Nat.le_refl _, fun _ _ => rfl⟩
  have R2 := hid (R1.out.below hbd)
  have O2 := hid (OS.out.below hbd)
  have b2 := hid (b1.out.trans (hbd.mono b1.out.size))
  clear R1 OS b1 hbd hx L1
  generalize w1.drew = X at *
  go_wp2
  go_loopg [6] 8 (fun g i wr => ∃ k : Nat, k + g = 8 ∧ i = .int .i64 (k : Int) ∧ Hid (RlAt wr C rb W S) ∧ Hid (OwnSlots wr w.heap.size (.slice (some ⟨ug, 0, none⟩) 8 uc) S) ∧ Hid (Below w.heap.size w wr))
  case atStart => exact ⟨0, by omega, rfl, R2, O2, b2⟩
  case round =>
    obtain ⟨k, hk, rfl, hR, hO, hb⟩ := hrel
    cases gk with
    | succ g =>
      have p1 := hO.out.pid k (by omega)
      have t1 := hO.out.txn k (by omega)
      have p2 := hR.out.pid k (by omega)
      have t2 := hR.out.txn k (by omega)
      have hlt2 := hR.out.lt
      have hn := neqSlot (pidAt S k) (txnAt S k)
      generalize pidAt S k = p at *
      generalize txnAt S k = t at *
      have hbd : Below wr.heap.size wr wr.drew := ⟨rfl, rfl, rfl, Nat.le_refl _, fun _ _ => rfl⟩
      have R3 := hid (hR.out.below hbd)
      have O3 := hid (hO.out.below hbd)
      have b3 := hid (hb.out.trans (hbd.mono hb.out.size))
      clear hbd hR hO hb
      go_wp2_with fail
      go_region
      all_goals go_wp2
      all_goals go_roundg g
      all_goals first | exact ⟨k + 1, by omega, by go_num, R3, O3, b3⟩ | omega
    | zero =>
      have hke : k = 8 := by omega
      subst hke
      go_wp2
      go_ret
      exact ⟨rfl, hb.out⟩
end Go.Proofs.YtdjhlgcbjdohiaaDoor
