/- The lock in memory: who writes, who reads which version, as plain data; what a call may turn. -/
import Derived.Test.YtdjhlgcbjdohiaaDoorZf
import Derived.Test.YtdjhlgcbjdohiaaDoorTakes
import Derived.Deep.WholeRow
namespace Go.Proofs.YtdjhlgcbjdohiaaDoor
open Go.RowKit Go.Conc

/-- A slot: who, which version. -/
abbrev SlotD := Int × Int
def slotCells : List SlotD → List Value
  | [] => []
  | s :: l => .int .i64 s.1 :: .int .u64 s.2 :: slotCells l
def slotA (S : List SlotD) : Array Value := (slotCells S).toArray
def lockCells (cb : Nat) (W : Int) (S : List SlotD) : Array Value := (.chan (some cb) :: .int .i64 W :: slotCells S).toArray
def pidAt (S : List SlotD) (i : Nat) : Int := (S.getD i (0, 0)).1
def txnAt (S : List SlotD) (i : Nat) : Int := (S.getD i (0, 0)).2
def freeS : List SlotD := [(0, 0), (0, 0), (0, 0), (0, 0), (0, 0), (0, 0), (0, 0), (0, 0)]
theorem slotCells_length (S : List SlotD) : (slotCells S).length = S.length * 2 := by
  induction S with
  | nil => rfl
  | cons s l ih => simp only [slotCells, List.length_cons, ih]; omega
theorem slotCells_pid : ∀ (S : List SlotD) (i : Nat), i < S.length → (slotCells S)[i * 2]? = some (.int .i64 (pidAt S i))
  | s :: l, 0, _ => by simp [slotCells, pidAt]
  | s :: l, i + 1, h => by
    rw [show (i + 1) * 2 = i * 2 + 1 + 1 by omega]
    have := slotCells_pid l i (by simpa using h)
    simp only [slotCells, List.getElem?_cons_succ, this]
    simp [pidAt]
theorem slotCells_txn : ∀ (S : List SlotD) (i : Nat), i < S.length → (slotCells S)[i * 2 + 1]? = some (.int .u64 (txnAt S i))
  | s :: l, 0, _ => by simp [slotCells, txnAt]
  | s :: l, i + 1, h => by
    rw [show (i + 1) * 2 + 1 = i * 2 + 1 + 1 + 1 by omega]
    have := slotCells_txn l i (by simpa using h)
    simp only [slotCells, List.getElem?_cons_succ, this]
    simp [txnAt]
theorem slotCells_set : ∀ (S : List SlotD) (i : Nat) (p t : Int), ((slotCells S).set (i * 2) (.int .i64 p)).set (i * 2 + 1) (.int .u64 t) = slotCells (S.set i (p, t))
  | [], i, p, t => by simp [slotCells]
  | s :: l, 0, p, t => by simp [slotCells]
  | s :: l, i + 1, p, t => by
    rw [show (i + 1) * 2 = i * 2 + 1 + 1 by omega]
    simp only [slotCells, List.set_cons_succ, slotCells_set l i p t]
theorem slotCells_setTxn : ∀ (S : List SlotD) (i : Nat) (t : Int), (slotCells S).set (i * 2 + 1) (.int .u64 t) = slotCells (S.set i (pidAt S i, t))
  | [], i, t => by simp [slotCells]
  | s :: l, 0, t => by simp [slotCells, pidAt]
  | s :: l, i + 1, t => by
    rw [show (i + 1) * 2 + 1 = i * 2 + 1 + 1 + 1 by omega]
    simp only [slotCells, List.set_cons_succ, slotCells_setTxn l i t]
    simp [pidAt]
theorem slotCells_one (S : List SlotD) : ∀ u ∈ slotCells S, u.oneCell' = true := by
  induction S with
  | nil => simp [slotCells]
  | cons s l ih =>
    intro u hu
    simp only [slotCells, List.mem_cons] at hu
    rcases hu with rfl | rfl | hu
    · rfl
    · rfl
    · exact ih u hu
/-- Whether the writer's place is taken. -/
def placeN (W : Int) : Nat := if W = 0 then 0 else 1
def SlotOk (s : SlotD) : Prop := 0 ≤ s.1 ∧ s.1 < 9223372036854775808 ∧ 0 ≤ s.2 ∧ s.2 < 18446744073709551616
/-- The lock in block lb, its channel in block cb, both from block B on; W: who writes; S: its slots. -/
structure LockAt (w : World) (B lb cb : Nat) (W : Int) (S : List SlotD) : Prop where
  obj : w.heap[lb]? = some (.cells (lockCells cb W S) 74 (0, 0))
  base : B ≤ lb
  cbase : B ≤ cb
  ch : ∃ s r, w.heap[cb]? = some (.chan 1 (takenV (placeN W)) false s r false)
  len : S.length = 8
  wlo : 0 ≤ W
  whi : W < 9223372036854775808
  ok : ∀ s ∈ S, SlotOk s
section
variable {w w' : World} {B lb cb : Nat} {W : Int} {S : List SlotD}
theorem LockAt.lt (h : LockAt w B lb cb W S) : lb < w.heap.size := lt_of_heap h.obj
theorem LockAt.clt (h : LockAt w B lb cb W S) : cb < w.heap.size := by
  obtain ⟨s, r, hc⟩ := h.ch
  exact lt_of_heap hc
theorem LockAt.baseLe (h : LockAt w B lb cb W S) : B ≤ w.heap.size := by have := h.lt; have := h.base; omega
theorem LockAt.apart (h : LockAt w B lb cb W S) : lb ≠ cb := by
  rintro rfl
  obtain ⟨s, r, hc⟩ := h.ch
  have := h.obj
  rw [hc] at this
  simp at this
theorem LockAt.kept (h : LockAt w B lb cb W S) (hp : w'.heap[lb]? = w.heap[lb]?) (hc : w'.heap[cb]? = w.heap[cb]?) : LockAt w' B lb cb W S := by
  obtain ⟨s, r, h'⟩ := h.ch
  exact ⟨hp.trans h.obj, h.base, h.cbase, ⟨s, r, hc.trans h'⟩, h.len, h.wlo, h.whi, h.ok⟩
theorem LockAt.below (h : LockAt w B lb cb W S) (hb : Below w.heap.size w w') : LockAt w' B lb cb W S := h.kept (hb.block lb h.lt) (hb.block cb h.clt)
theorem LockAt.chan0 (h : LockAt w B lb cb W S) : w.cell? ⟨lb, 0, none⟩ = some (.chan (some cb)) := by rw [cell_rowL h.obj]; rfl
theorem LockAt.writer (h : LockAt w B lb cb W S) : w.cell? ⟨lb, 1, none⟩ = some (.int .i64 W) := by rw [cell_rowL h.obj]; rfl
theorem LockAt.pid (h : LockAt w B lb cb W S) (i : Nat) (hi : i < 8) : w.cell? ⟨lb, 2 + i * 2, none⟩ = some (.int .i64 (pidAt S i)) := by
  rw [cell_rowL h.obj, ← slotCells_pid S i (by rw [h.len]; exact hi), show 2 + i * 2 = i * 2 + 1 + 1 by omega]
  simp [lockCells]
theorem LockAt.txn (h : LockAt w B lb cb W S) (i : Nat) (hi : i < 8) : w.cell? ⟨lb, 2 + i * 2 + 1, none⟩ = some (.int .u64 (txnAt S i)) := by
  rw [cell_rowL h.obj, ← slotCells_txn S i (by rw [h.len]; exact hi), show 2 + i * 2 + 1 = i * 2 + 1 + 1 + 1 by omega]
  simp [lockCells]
theorem LockAt.free (h : LockAt w B lb cb W S) (j : Nat) : w.frozen? ⟨lb, j, none⟩ = false := frozen_rowL h.obj j
theorem LockAt.range (h : LockAt w B lb cb W S) : w.rangeAt lb 2 (slotCells S) := by
  intro j v hv
  rw [cell_rowL h.obj, ← hv, show 2 + j = j + 1 + 1 by omega]
  simp [lockCells]
theorem pidAt_ok (h : ∀ s ∈ S, SlotOk s) (i : Nat) : 0 ≤ pidAt S i ∧ pidAt S i < 9223372036854775808 := by
  unfold pidAt
  by_cases hi : i < S.length
  · have := h S[i] (List.getElem_mem hi)
    simp only [List.getD, List.getElem?_eq_getElem hi, Option.getD]
    exact ⟨this.1, this.2.1⟩
  · simp [List.getD, List.getElem?_eq_none (Nat.le_of_not_lt hi)]
theorem txnAt_ok (h : ∀ s ∈ S, SlotOk s) (i : Nat) : 0 ≤ txnAt S i ∧ txnAt S i < 18446744073709551616 := by
  unfold txnAt
  by_cases hi : i < S.length
  · have := h S[i] (List.getElem_mem hi)
    simp only [List.getD, List.getElem?_eq_getElem hi, Option.getD]
    exact ⟨this.2.2.1, this.2.2.2⟩
  · simp [List.getD, List.getElem?_eq_none (Nat.le_of_not_lt hi)]
theorem ok_set (h : ∀ s ∈ S, SlotOk s) (i : Nat) {x : SlotD} (hx : SlotOk x) : ∀ s ∈ S.set i x, SlotOk s := by
  intro s hs
  rcases List.mem_or_eq_of_mem_set hs with h' | rfl
  · exact h s h'
  · exact hx
/-- Another slot. -/
theorem LockAt.putS (h : LockAt w B lb cb W S) (i : Nat) (p t : Int) (hx : SlotOk (p, t)) : LockAt ((w.setCell ⟨lb, 2 + i * 2, none⟩ (.int .i64 p)).setCell ⟨lb, 2 + i * 2 + 1, none⟩ (.int .u64 t)) B lb cb W (S.set i (p, t)) := by
  obtain ⟨s, r, hc⟩ := h.ch
  have h1 := heap_setCell_same w lb (2 + i * 2) _ _ (.int .i64 p) h.obj
  have h2 := heap_setCell_same _ lb (2 + i * 2 + 1) _ _ (.int .u64 t) h1
  refine ⟨?_, h.base, h.cbase, ⟨s, r, ?_⟩, by rw [List.length_set, h.len], h.wlo, h.whi, ok_set h.ok i hx⟩
  · rw [h2, lockCells, lockCells, ← slotCells_set]
    simp [show 2 + i * 2 = i * 2 + 1 + 1 by omega]
  · rw [Below.heap_setCell _ _ _ _ (by simpa using h.apart.symm), Below.heap_setCell _ _ _ _ (by simpa using h.apart.symm)]
    exact hc
theorem LockAt.putT (h : LockAt w B lb cb W S) (i : Nat) (t : Int) (hx : SlotOk (pidAt S i, t)) : LockAt (w.setCell ⟨lb, 2 + i * 2 + 1, none⟩ (.int .u64 t)) B lb cb W (S.set i (pidAt S i, t)) := by
  obtain ⟨s, r, hc⟩ := h.ch
  have h2 := heap_setCell_same w lb (2 + i * 2 + 1) _ _ (.int .u64 t) h.obj
  refine ⟨?_, h.base, h.cbase, ⟨s, r, ?_⟩, by rw [List.length_set, h.len], h.wlo, h.whi, ok_set h.ok i hx⟩
  · rw [h2, lockCells, lockCells, ← slotCells_setTxn]
    simp [show 2 + i * 2 = i * 2 + 1 + 1 by omega]
  · rw [Below.heap_setCell _ _ _ _ (by simpa using h.apart.symm)]
    exact hc
/-- Another writer, its place as it should be. -/
theorem LockAt.putW (h : LockAt w B lb cb W S) (V : Int) (s r : Nat) (h0 : 0 ≤ V) (h1 : V < 9223372036854775808) : LockAt ((w.setChan cb 1 (takenV (placeN V)) false s r false).setCell ⟨lb, 1, none⟩ (.int .i64 V)) B lb cb V S := by
  have h2 := heap_setCell_same (w.setChan cb 1 (takenV (placeN V)) false s r false) lb 1 _ _ (.int .i64 V) ((setChan_other w cb lb _ _ _ _ _ _ h.apart.symm).trans h.obj)
  refine ⟨?_, h.base, h.cbase, ⟨s, r, ?_⟩, h.len, h0, h1, h.ok⟩
  · rw [h2]
    simp [lockCells]
  · rw [Below.heap_setCell _ _ _ _ (by simpa using h.apart.symm)]
    exact heap_setChan w cb 1 (takenV (placeN V)) false s r false h.clt
end

/-- What a method of the lock may turn: its block, its channel, new memory. -/
structure Lo (lb cb : Nat) (w w' : World) : Prop where
  os : w'.os = w.os
  tape : w'.tape = w.tape
  output : w'.output = w.output
  size : w.heap.size ≤ w'.heap.size
  block : ∀ k, k < w.heap.size → k ≠ lb → k ≠ cb → w'.heap[k]? = w.heap[k]?
theorem Lo.refl (lb cb : Nat) (w : World) : Lo lb cb w w := ⟨rfl, rfl, rfl, Nat.le_refl _, fun _ _ _ _ => rfl⟩
theorem Lo.trans {lb cb : Nat} {w w1 w2 : World} (h : Lo lb cb w w1) (k : Lo lb cb w1 w2) : Lo lb cb w w2 :=
  ⟨k.os.trans h.os, k.tape.trans h.tape, k.output.trans h.output, Nat.le_trans h.size k.size, fun i hi hf hc => (k.block i (Nat.lt_of_lt_of_le hi h.size) hf hc).trans (h.block i hi hf hc)⟩
theorem Lo.of_below {lb cb : Nat} {w w' : World} (h : Below w.heap.size w w') : Lo lb cb w w' := ⟨h.os, h.tape, h.output, h.size, fun k hk _ _ => h.block k hk⟩
theorem Lo.below {lb cb B : Nat} {w w' : World} {W : Int} {S : List SlotD} (h : Lo lb cb w w') (hf : LockAt w B lb cb W S) : Below B w w' :=
  ⟨h.os, h.tape, h.output, h.size, fun k hk => h.block k (by have := hf.baseLe; omega) (by have := hf.base; omega) (by have := hf.cbase; omega)⟩
theorem Lo.obj {lb cb j : Nat} {w : World} (u : Value) : Lo lb cb w (w.setCell ⟨lb, j, none⟩ u) :=
  ⟨rfl, rfl, rfl, by simp, fun k _ hf _ => by rw [Below.heap_setCell _ _ _ _ (by simpa using hf)]⟩
theorem Lo.chan {lb cb : Nat} {w : World} (cap : Nat) (buf : Array Value) (s r : Nat) : Lo lb cb w (w.setChan cb cap buf false s r false) :=
  ⟨rfl, rfl, rfl, by simp [World.setChan], fun k _ _ hc => setChan_other w cb k cap buf false s r false (Ne.symm hc)⟩
theorem Lo.put2 {lb cb i j : Nat} {w : World} (u v : Value) : Lo lb cb w ((w.setCell ⟨lb, i, none⟩ u).setCell ⟨lb, j, none⟩ v) := (Lo.obj u).trans (Lo.obj v)
theorem Lo.putc {lb cb j : Nat} {w : World} (cap : Nat) (buf : Array Value) (s r : Nat) (u : Value) : Lo lb cb w ((w.setChan cb cap buf false s r false).setCell ⟨lb, j, none⟩ u) := (Lo.chan cap buf s r).trans (Lo.obj u)

/-- Those that live are no part of the lock, and the other way round. -/
theorem ProcsAt.byLock {w w' : World} {B pb pc n C lb cb : Nat} {v : Value} {last W : Int} {l : List Int} {S : List SlotD} (h : ProcsAt w B pb pc v last l n) (hL : LockAt w C lb cb W S) (ho : Lo lb cb w w') : ProcsAt w' B pb pc v last l n := by
  obtain ⟨s, r, hc⟩ := h.ch
  obtain ⟨s', r', hc'⟩ := hL.ch
  have ho1 := h.obj
  have ho2 := hL.obj
  refine h.kept (ho.block pb h.lt ?_ ?_) (ho.block pc h.clt ?_ ?_) (fun g hg => ?_)
  · rintro rfl; rw [ho1] at ho2; simp at ho2
  · rintro rfl; rw [ho1] at hc'; simp at hc'
  · rintro rfl; rw [hc] at ho2; simp at ho2
  · rintro rfl; rw [hc] at hc'; simp at hc'
  · obtain ⟨cur, hcu⟩ := own_block h.row hg
    refine ho.block g (lt_of_heap hcu) ?_ ?_
    · rintro rfl; rw [hcu] at ho2; simp at ho2
    · rintro rfl; rw [hcu] at hc'; simp at hc'
theorem LockAt.byProcs {w w' : World} {B pb pc n C lb cb : Nat} {v v' : Value} {last W : Int} {l : List Int} {S : List SlotD} (h : LockAt w C lb cb W S) (hP : ProcsAt w B pb pc v last l n) (ho : Po pb pc w v w' v') : LockAt w' C lb cb W S := by
  obtain ⟨s, r, hc⟩ := hP.ch
  obtain ⟨s', r', hc'⟩ := h.ch
  have ho1 := hP.obj
  have ho2 := h.obj
  refine h.kept (ho.block lb h.lt ?_ ?_ (fun e => ?_)) (ho.block cb h.clt ?_ ?_ (fun e => ?_))
  · rintro rfl; rw [ho1] at ho2; simp at ho2
  · rintro rfl; rw [hc] at ho2; simp at ho2
  · obtain ⟨cur, hcu⟩ := own_block hP.row e
    rw [hcu] at ho2; simp at ho2
  · rintro rfl; rw [ho1] at hc'; simp at hc'
  · rintro rfl; rw [hc] at hc'; simp at hc'
  · obtain ⟨cur, hcu⟩ := own_block hP.row e
    rw [hcu] at hc'; simp at hc'
end Go.Proofs.YtdjhlgcbjdohiaaDoor
