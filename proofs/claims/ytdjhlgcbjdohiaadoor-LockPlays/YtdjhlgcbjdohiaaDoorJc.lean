/- Contracts of package lock's Take and Release. -/
import Derived.Test.YtdjhlgcbjdohiaaDoorJb
import Derived.Deep.LoopGhost
namespace Go.Proofs.YtdjhlgcbjdohiaaDoor
open Go.RowKit Go.Conc

set_option maxHeartbeats 1000000 in
theorem take_not (w : World) (B lb cb : Nat) (W pid : Int) (pv : Value) (S : List SlotD) (h : LockAt w B lb cb W S) (hp : pid ≤ 0 ∨ pid = W) :
    Calls Tryd.prog 7 #[.pointer (some ⟨lb, 0, none⟩), .int .i64 pid, pv] w fun e w' => e = .returned (.bool false) ∧ w' = w := by
  have hx := h.writer
  have hlt := h.lt
  clear h
  go_enter Tryd.func7, Tryd.ntmps7
  rcases hp with hp | hp
  · have hd : decide (pid ≤ 0) = true := by simpa using hp
    go_wp2
    go_step3
    go_wp2
    try rw [Exit.noGoto_ret]
    go_ret
    exact ⟨rfl, rfl⟩
  · by_cases hq : pid ≤ 0
    · have hd : decide (pid ≤ 0) = true := by simpa using hq
      go_wp2
      go_step3
      go_wp2
      try rw [Exit.noGoto_ret]
      go_ret
      exact ⟨rfl, rfl⟩
    · have hd : decide (pid ≤ 0) = false := by simpa using hq
      have hd2 : decide (pid = W) = true := by simpa using hp
      go_wp2
      go_step3
      go_wp2
      try rw [Exit.noGoto_ret]
      go_ret
      exact ⟨rfl, rfl⟩

set_option maxHeartbeats 2000000 in
theorem take_free (w : World) (B lb cb : Nat) (pid : Int) (pv : Value) (S : List SlotD) (h : LockAt w B lb cb 0 S) (hp : 0 < pid) (hq : pid < 9223372036854775808) :
    Calls Tryd.prog 7 #[.pointer (some ⟨lb, 0, none⟩), .int .i64 pid, pv] w fun e w' => e = .returned (.bool true) ∧ LockAt w' B lb cb pid S ∧ Lo lb cb w w' := by
  obtain ⟨s, r, hc⟩ := h.ch
  rw [show placeN 0 = 0 from rfl] at hc
  have h0 := h.chan0
  have hx := h.writer
  have hlt := h.lt
  have hpn : placeN pid = 1 := by simp [placeN]; omega
  have P1 := h.putW pid (s + 1) r (by omega) hq
  have O1 : Hid (Lo lb cb w ((w.setChan cb 1 (takenV (placeN pid)) false (s + 1) r false).setCell ⟨lb, 1, none⟩ (.int .i64 pid))) := hid (Lo.putc _ _ _ _ _)
  have hob : (w.setChan cb 1 (takenV (placeN pid)) false (s + 1) r false).heap[lb]? = w.heap[lb]? := setChan_other w cb lb _ _ _ _ _ _ h.apart.symm
  have h1 : (w.setChan cb 1 (takenV (placeN pid)) false (s + 1) r false).cell? ⟨lb, 1, none⟩ = some (.int .i64 0) := by rw [cell_rowL (hob.trans h.obj)]; rfl
  have h2 : (w.setChan cb 1 (takenV (placeN pid)) false (s + 1) r false).frozen? ⟨lb, 1, none⟩ = false := frozen_rowL (hob.trans h.obj) 1
  have hlt1 : lb < (w.setChan cb 1 (takenV (placeN pid)) false (s + 1) r false).heap.size := lt_of_heap (hob.trans h.obj)
  rw [hpn] at *
  replace P1 := hid P1
  replace hc := hid hc
  clear h hob hpn
  have hd : decide (pid ≤ 0) = false := by simp; omega
  have hd2 : decide (pid = 0) = false := by simp; omega
  go_enter Tryd.func7, Tryd.ntmps7
  go_wp2
  go_step3
  go_wp2
  go_step3
  go_wp2
  refine wp_first_k ?_
  intro K hK
  go_upto_region 5 with fail
  refine wp_put (c := cb) (v := .agg #[]) (z := .agg #[]) ?_ hc.out (by rw [takenV_size]; omega) ?_
  · simp [go_sem, execOp, scase, Act.eval]
  rw [takenV_push]
  simp only [goInt]
  go_simp
  generalize w.setChan cb 1 (takenV (0 + 1)) false (s + 1) r false = X at *
  go_wp2
  rw [Exit.noGoto_ret]
  go_ret
  exact ⟨rfl, P1.out, O1.out⟩

set_option maxHeartbeats 2000000 in
theorem take_lives (w : World) (B lb cb C pb pc n : Nat) (W pid last : Int) (v : Value) (l : List Int) (S : List SlotD) (h : LockAt w B lb cb W S) (hP : ProcsAt w C pb pc v last l n) (hp : 0 < pid) (hW : W ≠ 0) (hne : pid ≠ W) (hl : l.contains W = true) :
    Calls Tryd.prog 7 #[.pointer (some ⟨lb, 0, none⟩), .int .i64 pid, .pointer (some ⟨pb, 0, none⟩)] w fun e w' => e = .returned (.bool false) ∧ Below w.heap.size w w' := by
  obtain ⟨s, r, hc⟩ := h.ch
  have hp1 : placeN W = 1 := by simp [placeN, hW]
  rw [hp1] at hc
  have h0 := h.chan0
  have hx := h.writer
  have hlt := h.lt
  have HL := hid (lives_any w C pb pc n v last W l hP)
  rw [hl] at HL
  replace hc := hid hc
  clear h hp1 hP
  have hd : decide (pid ≤ 0) = false := by simp; omega
  have hd2 : decide (pid = W) = false := by simpa using hne
  go_enter Tryd.func7, Tryd.ntmps7
  go_wp2
  go_step3
  go_wp2
  go_step3
  go_wp2
  refine wp_first_k ?_
  intro K hK
  go_upto_region 5 with fail
  refine wp_full (c := cb) (v := .agg #[]) (z := .agg #[]) ?_ hc.out (by rw [takenV_size]; omega) ?_
  · simp [go_sem, execOp, scase, Act.eval]
  simp only [goInt]
  go_simp
  go_wp2_with (go_at_call 33; refine HL.out.mono ?_; rintro e w1 ⟨rfl, hb⟩; replace hb := hid hb)
  try rw [Exit.noGoto_ret]
  go_ret
  exact ⟨rfl, hb.out⟩

set_option maxHeartbeats 2000000 in
theorem take_dead (w : World) (B lb cb C pb pc n : Nat) (W pid last : Int) (v : Value) (l : List Int) (S : List SlotD) (h : LockAt w B lb cb W S) (hP : ProcsAt w C pb pc v last l n) (hp : 0 < pid) (hq : pid < 9223372036854775808) (hW : W ≠ 0) (hne : pid ≠ W) (hl : l.contains W = false) :
    Calls Tryd.prog 7 #[.pointer (some ⟨lb, 0, none⟩), .int .i64 pid, .pointer (some ⟨pb, 0, none⟩)] w fun e w' => e = .returned (.bool true) ∧ LockAt w' B lb cb pid S ∧ Lo lb cb w w' := by
  have hL := hid h
  obtain ⟨s, r, hc⟩ := h.ch
  have hp1 : placeN W = 1 := by simp [placeN, hW]
  rw [hp1] at hc
  have h0 := h.chan0
  have hx := h.writer
  have hlt := h.lt
  have HL := hid (lives_any w C pb pc n v last W l hP)
  rw [hl] at HL
  replace hc := hid hc
  clear h hp1 hP
  have hd : decide (pid ≤ 0) = false := by simp; omega
  have hd2 : decide (pid = W) = false := by simpa using hne
  have hpn : placeN pid = 1 := by simp [placeN]; omega
  replace hW := hid hW
  replace hl := hid hl
  go_enter Tryd.func7, Tryd.ntmps7
  go_wp2
  go_step3
  go_wp2
  go_step3
  go_wp2
  refine wp_first_k ?_
  intro K hK
  go_upto_region 5 with fail
  refine wp_full (c := cb) (v := .agg #[]) (z := .agg #[]) ?_ hc.out (by rw [takenV_size]; omega) ?_
  · simp [go_sem, execOp, scase, Act.eval]
  simp only [goInt]
  go_simp
  go_wp2_with fail
  refine HL.out.mono ?_
  rintro e w1 ⟨rfl, hb⟩
  have L1 := hid (hL.out.below hb)
  have O1 := hid (Lo.of_below (lb := lb) (cb := cb) hb)
  clear hL hb HL h0 hx hlt hc
  go_wp2_with fail
  refine (leave_any _ _ _ _ _ _ L1.out hW.out).mono ?_
  rintro e w2 ⟨rfl, L2, O2⟩
  have O3 := hid (O1.out.trans O2)
  clear L1 O1 O2
  obtain ⟨s, r, hc⟩ := L2.ch
  rw [show placeN 0 = 0 from rfl] at hc
  have h0 := L2.chan0
  have hx := L2.writer
  have hlt := L2.lt
  have P1 := L2.putW pid (s + 1) r (by omega) hq
  have O4 : Lo lb cb w2 ((w2.setChan cb 1 (takenV (placeN pid)) false (s + 1) r false).setCell ⟨lb, 1, none⟩ (.int .i64 pid)) := Lo.putc _ _ _ _ _
  have hob : (w2.setChan cb 1 (takenV (placeN pid)) false (s + 1) r false).heap[lb]? = w2.heap[lb]? := setChan_other w2 cb lb _ _ _ _ _ _ L2.apart.symm
  have h1 : (w2.setChan cb 1 (takenV (placeN pid)) false (s + 1) r false).cell? ⟨lb, 1, none⟩ = some (.int .i64 0) := by rw [cell_rowL (hob.trans L2.obj)]; rfl
  have h2 : (w2.setChan cb 1 (takenV (placeN pid)) false (s + 1) r false).frozen? ⟨lb, 1, none⟩ = false := frozen_rowL (hob.trans L2.obj) 1
  have hlt1 : lb < (w2.setChan cb 1 (takenV (placeN pid)) false (s + 1) r false).heap.size := lt_of_heap (hob.trans L2.obj)
  rw [hpn] at *
  replace O4 := hid (O3.out.trans O4)
  replace P1 := hid P1
  replace hc := hid hc
  clear L2 hob hpn O3
  go_wp2
  refine hK.out _ _ ?_
  refine wp_again_k ?_
  intro K2 hK2
  go_upto_region 5 with fail
  refine wp_put (c := cb) (v := .agg #[]) (z := .agg #[]) ?_ hc.out (by rw [takenV_size]; omega) ?_
  · simp [go_sem, execOp, scase, Act.eval]
  rw [takenV_push]
  simp only [goInt]
  go_simp
  generalize w2.setChan cb 1 (takenV (0 + 1)) false (s + 1) r false = X at *
  go_wp2
  rw [Exit.noGoto_ret]
  go_ret
  exact ⟨rfl, P1.out, O4.out⟩
/-- Who writes behind Take. -/
def takeW (W pid : Int) (lives : Bool) : Int := if takeB W pid lives then pid else W
/-- Take, whoever asks. -/
theorem take_lock (w : World) (B lb cb C pb pc n : Nat) (W pid last : Int) (v : Value) (l : List Int) (S : List SlotD) (h : LockAt w B lb cb W S) (hP : ProcsAt w C pb pc v last l n) (hq : pid < 9223372036854775808) :
    Calls Tryd.prog 7 #[.pointer (some ⟨lb, 0, none⟩), .int .i64 pid, .pointer (some ⟨pb, 0, none⟩)] w fun e w' => e = .returned (.bool (takeB W pid (l.contains W))) ∧ LockAt w' B lb cb (takeW W pid (l.contains W)) S ∧ Lo lb cb w w' := by
  by_cases hn : pid ≤ 0 ∨ pid = W
  · have hb : takeB W pid (l.contains W) = false := by
      unfold takeB
      rcases hn with hn | hn
      · have : decide (0 < pid) = false := by simpa using hn
        simp [this]
      · simp [hn]
    refine (take_not w B lb cb W pid _ S h hn).mono ?_
    rintro e w' ⟨rfl, rfl⟩
    exact ⟨by rw [hb], by rw [takeW, hb]; exact h, Lo.refl _ _ _⟩
  · have hp : 0 < pid := by omega
    have hne : pid ≠ W := by omega
    by_cases hW : W = 0
    · subst hW
      have hb : takeB 0 pid (l.contains 0) = true := by simp [takeB, hp, hne]
      refine (take_free w B lb cb pid _ S h hp hq).mono ?_
      rintro e w' ⟨rfl, h1, h2⟩
      exact ⟨by rw [hb], by rw [takeW, hb]; exact h1, h2⟩
    · cases hl : l.contains W with
      | true =>
        have hb : takeB W pid true = false := by simp [takeB, hW]
        refine (take_lives w B lb cb C pb pc n W pid last v l S h hP hp hW hne hl).mono ?_
        rintro e w' ⟨rfl, h1⟩
        exact ⟨by rw [hb], by rw [takeW, hb]; exact h.below h1, Lo.of_below h1⟩
      | false =>
        have hb : takeB W pid false = true := by simp [takeB, hp, hne]
        refine (take_dead w B lb cb C pb pc n W pid last v l S h hP hp hq hW hne hl).mono ?_
        rintro e w' ⟨rfl, h1, h2⟩
        exact ⟨by rw [hb], by rw [takeW, hb]; exact h1, h2⟩

def relB (W pid : Int) : Bool := decide (0 < pid) && decide (pid = W)
def relW (W pid : Int) : Int := if relB W pid then 0 else W
set_option maxHeartbeats 2000000 in
theorem release_any (w : World) (B lb cb : Nat) (W pid : Int) (S : List SlotD) (h : LockAt w B lb cb W S) :
    Calls Tryd.prog 9 #[.pointer (some ⟨lb, 0, none⟩), .int .i64 pid] w fun e w' => e = .returned (.bool (relB W pid)) ∧ LockAt w' B lb cb (relW W pid) S ∧ Lo lb cb w w' := by
  have hL := hid h
  have hx := h.writer
  have hlt := h.lt
  clear h
  by_cases hp : 0 < pid
  · have hd : decide (0 < pid) = true := by simpa using hp
    by_cases he : pid = W
    · subst he
      have HV := hid (leave_any w B lb cb pid S hL.out (by omega))
      have hb : Hid (relB pid pid = true) := hid (by simp [relB, hp])
      go_enter Tryd.func9, Tryd.ntmps9
      go_wp2_with (go_at_call 34; refine HV.out.mono ?_; rintro e w1 ⟨rfl, L1, O1⟩; replace L1 := hid L1; replace O1 := hid O1)
      go_ret
      rw [relW, hb.out]
      exact ⟨rfl, L1.out, O1.out⟩
    · have hd2 : decide (pid = W) = false := by simpa using he
      have hb : Hid (relB W pid = false) := hid (by simp [relB, he])
      go_enter Tryd.func9, Tryd.ntmps9
      go_wp2
      go_ret
      rw [relW, hb.out]
      exact ⟨rfl, hL.out, Lo.refl _ _ _⟩
  · have hd : decide (0 < pid) = false := by simpa using hp
    have hb : Hid (relB W pid = false) := hid (by simp [relB, hp])
    go_enter Tryd.func9, Tryd.ntmps9
    go_wp2
    go_ret
    rw [relW, hb.out]
    exact ⟨rfl, hL.out, Lo.refl _ _ _⟩
end Go.Proofs.YtdjhlgcbjdohiaaDoor
