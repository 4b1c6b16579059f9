/- Contracts of package lock's New, Writer, leave, Take and Release. -/
import Derived.Test.YtdjhlgcbjdohiaaDoorJa
namespace Go.Proofs.YtdjhlgcbjdohiaaDoor
open Go.RowKit Go.Conc

theorem mkChan1 (w : World) : (Instr.makeChan 72 (.int .i64 1)).run Tryd.prog w = .ok (.chan (some w.heap.size)) (w.alloc (.chan 1 #[] false 0 0 false)) := by
  obtain ⟨i, hi, hb⟩ := Tryd.bytesUnit
  exact run_makeChan (P := Tryd.prog) (w := w) Tryd.underlying72 hi .i64 1 (by omega) (by rw [hb]; omega)
theorem lockCells_free (cb : Nat) : lockCells cb 0 freeS = #[.chan (some cb), .int .i64 0, .int .i64 0, .int .u64 0, .int .i64 0, .int .u64 0, .int .i64 0, .int .u64 0, .int .i64 0, .int .u64 0, .int .i64 0, .int .u64 0, .int .i64 0, .int .u64 0, .int .i64 0, .int .u64 0, .int .i64 0, .int .u64 0] := rfl
theorem freeS_ok : ∀ s ∈ freeS, SlotOk s := by simp [freeS, SlotOk]

set_option maxHeartbeats 1000000 in
theorem lnew_any (w : World) :
    Calls Tryd.prog 5 #[] w fun e w' => e = .returned (.pointer (some ⟨w.heap.size + 1, 0, none⟩)) ∧ LockAt w' w.heap.size (w.heap.size + 1) w.heap.size 0 freeS ∧ Below w.heap.size w w' := by
  have hmk := mkChan1
  have B1 := (Below.refl w.heap.size w).alloc (Nat.le_refl _) (.chan 1 #[] false 0 0 false)
  have B2 := B1.alloc (by simp) (.cells (lockCells w.heap.size 0 freeS) 74)
  have P0 : LockAt ((w.alloc (.chan 1 #[] false 0 0 false)).alloc (.cells (lockCells w.heap.size 0 freeS) 74)) w.heap.size (w.heap.size + 1) w.heap.size 0 freeS := by
    refine ⟨?_, by omega, Nat.le_refl _, ⟨0, 0, ?_⟩, rfl, by omega, by omega, freeS_ok⟩
    · have := heap_newL (w.alloc (.chan 1 #[] false 0 0 false)) (.cells (lockCells w.heap.size 0 freeS) 74)
      rwa [World.size_alloc] at this
    · rw [Below.heap_alloc _ _ _ (by simp)]
      exact heap_newL w _
  rw [lockCells_free] at B2 P0
  replace B2 := hid B2
  replace P0 := hid P0
  clear B1
  go_enter Tryd.func5, Tryd.ntmps5
  go_wp2
  go_ret
  exact ⟨rfl, P0.out, B2.out⟩

set_option maxHeartbeats 1000000 in
theorem writer_any (w : World) (B lb cb : Nat) (W : Int) (S : List SlotD) (h : LockAt w B lb cb W S) :
    Calls Tryd.prog 30 #[.pointer (some ⟨lb, 0, none⟩)] w fun e w' => e = .returned (.int .i64 W) ∧ w' = w := by
  have hx := h.writer
  have hlt := h.lt
  clear h
  go_enter Tryd.func30, Tryd.ntmps30
  go_wp2
  go_ret
  exact ⟨rfl, rfl⟩

set_option maxHeartbeats 1000000 in
theorem leave_any (w : World) (B lb cb : Nat) (W : Int) (S : List SlotD) (h : LockAt w B lb cb W S) (hW : W ≠ 0) :
    Calls Tryd.prog 34 #[.pointer (some ⟨lb, 0, none⟩)] w fun e w' => e = .returned (.bool true) ∧ LockAt w' B lb cb 0 S ∧ Lo lb cb w w' := by
  obtain ⟨s, r, hc⟩ := h.ch
  have hp1 : placeN W = 1 := by simp [placeN, hW]
  rw [hp1] at hc
  have h0 := h.chan0
  have hlt := h.lt
  have P1 := h.putW 0 s (r + 1) (by omega) (by omega)
  have O1 : Hid (Lo lb cb w ((w.setChan cb 1 (takenV (placeN 0)) false s (r + 1) false).setCell ⟨lb, 1, none⟩ (.int .i64 0))) := hid (Lo.putc _ _ _ _ _)
  have hob : (w.setChan cb 1 (takenV (placeN 0)) false s (r + 1) false).heap[lb]? = w.heap[lb]? := setChan_other w cb lb _ _ _ _ _ _ h.apart.symm
  have h1 : (w.setChan cb 1 (takenV (placeN 0)) false s (r + 1) false).cell? ⟨lb, 1, none⟩ = some (.int .i64 W) := by rw [cell_rowL (hob.trans h.obj)]; rfl
  have h2 : (w.setChan cb 1 (takenV (placeN 0)) false s (r + 1) false).frozen? ⟨lb, 1, none⟩ = false := frozen_rowL (hob.trans h.obj) 1
  have hlt1 : lb < (w.setChan cb 1 (takenV (placeN 0)) false s (r + 1) false).heap.size := lt_of_heap (hob.trans h.obj)
  rw [show placeN 0 = 0 from rfl] at *
  replace P1 := hid P1
  replace hc := hid hc
  clear h hob hp1
  go_enter Tryd.func34, Tryd.ntmps34
  go_upto_region 2 with fail
  refine wp_recv (c := cb) (z := .agg #[]) ?_ hc.out (by rw [takenV_size]; omega) ?_
  · simp [go_sem, execOp, rcase, Act.eval]
  rw [takenV_pop]
  simp only [goInt]
  go_simp
  generalize w.setChan cb 1 (takenV 0) false s (r + 1) false = X at *
  go_wp2
  go_ret
  exact ⟨rfl, P1.out, O1.out⟩

/-- Take's answer. -/
def takeB (W pid : Int) (lives : Bool) : Bool := decide (0 < pid) && decide (pid ≠ W) && (decide (W = 0) || !lives)
end Go.Proofs.YtdjhlgcbjdohiaaDoor
