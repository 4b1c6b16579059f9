/- Pages as plain data, how their rows lie in memory, and which pages are right. -/
import Derived.Test.YtgnmjdcmaahlnaaRows
import Derived.Test.YtgnmjdcmaahlnaaBytes
import Derived.Deep.QuietTactic
import Derived.BigQuiet
import Derived.Lib.QuietBelow
namespace Go.Proofs.Ytgnmjdcmaahlnaa
open Go.RowKit

structure RootD where
  page : Int
  count : Int
  flags : Int
structure ItemD where
  key : ByteArray
  kind : Int
  val : ByteArray
  run : Int
  len : Int
  vals : List ByteArray
  dup : Int
  root : RootD
structure FreeD where
  txn : Int
  ids : List Int
structure MetaD where
  txn : Int
  main : RootD
  free : Int
  last : Int
structure PageD where
  kind : Int
  items : List ItemD
  keys : List ByteArray
  kids : List Int
  text : ByteArray
  vals : List ByteArray
  free : List FreeD
  next : Int
  mt : MetaD

/-- A slice of texts. -/
def StrsAt (w : World) (v : Value) (l : List ByteArray) : Prop :=
  ∃ ao cap, v = .slice ao l.length cap ∧ (l.length ≤ maxLen ∧ l.length ≤ cap) ∧ ∀ i (h : i < l.length), ∃ a, ao = some a ∧ w.cell? (a.add i) = some (.string l[i]) ∧ l[i].size ≤ maxLen
/-- A slice of numbers. -/
def IntsAt (w : World) (v : Value) (l : List Int) : Prop :=
  ∃ ao cap, v = .slice ao l.length cap ∧ l.length ≤ maxLen ∧ ∀ i (h : i < l.length), ∃ a, ao = some a ∧ w.cell? (a.add i) = some (.int .i64 l[i])
theorem StrsAt.below {w w' : World} {v : Value} {l : List ByteArray} (h : StrsAt w v l) (hb : Below w.heap.size w w') : StrsAt w' v l := by
  obtain ⟨ao, cap, h1, h2, h3⟩ := h
  refine ⟨ao, cap, h1, h2, fun i hi => ?_⟩
  obtain ⟨a, ha, hc, hs⟩ := h3 i hi
  exact ⟨a, ha, (hb.cell (p := a.add i) (World.block_lt_of_cell? w _ hc)).trans hc, hs⟩
theorem IntsAt.below {w w' : World} {v : Value} {l : List Int} (h : IntsAt w v l) (hb : Below w.heap.size w w') : IntsAt w' v l := by
  obtain ⟨ao, cap, h1, h2, h3⟩ := h
  refine ⟨ao, cap, h1, h2, fun i hi => ?_⟩
  obtain ⟨a, ha, hc⟩ := h3 i hi
  exact ⟨a, ha, (hb.cell (p := a.add i) (World.block_lt_of_cell? w _ hc)).trans hc⟩

/-- A slice of free numbers, two cells each. -/
def FreesOld (w : World) (v : Value) (l : List FreeD) : Prop :=
  ∃ ao cap, v = .slice ao l.length cap ∧ l.length ≤ maxLen ∧ ∀ i (h : i < l.length), ∃ a u, ao = some a ∧ w.cell? (a.add (i * 2)) = some (.int .u64 l[i].txn) ∧ w.cell? ⟨(a.add (i * 2)).block, (a.add (i * 2)).off + 1, none⟩ = some u ∧ IntsAt w u l[i].ids
theorem FreesOld.below {w w' : World} {v : Value} {l : List FreeD} (h : FreesOld w v l) (hb : Below w.heap.size w w') : FreesOld w' v l := by
  obtain ⟨ao, cap, h1, h2, h3⟩ := h
  refine ⟨ao, cap, h1, h2, fun i hi => ?_⟩
  obtain ⟨a, u, ha, hc, hd, hu⟩ := h3 i hi
  exact ⟨a, u, ha, (hb.cell (p := a.add (i * 2)) (World.block_lt_of_cell? w _ hc)).trans hc, (hb.cell (p := ⟨(a.add (i * 2)).block, (a.add (i * 2)).off + 1, none⟩) (World.block_lt_of_cell? w _ hd)).trans hd, hu.below hb⟩
theorem Try.elemFrees : Try.prog.underlying 47 = some (.slice (Try.prog.elem 47)) := by kernel_rfl
theorem Try.sizeFrees (w : World) : (Go.sizeOf (Try.prog.elem 47)).run Try.prog w = .ok 2 w := by kernel_rfl
theorem atFrees {ao : Option Addr} {a : Addr} (len cap k : Nat) (ha : ao = some a) (h : k < len) (w : World) : (Instr.indexAt 47 (.slice ao len cap) (.int .i64 (k : Int))).run Try.prog w = .ok (.pointer (some (a.add (k * 2)))) w := by
  subst ha
  rw [run_indexAt_slice (P := Try.prog) w 47 a len cap .i64 k Try.elemFrees, if_pos (by omega), Try.sizeFrees]
  simp [Result.andThen]
theorem Try.elemStrs : Try.prog.underlying 45 = some (.slice (Try.prog.elem 45)) := by kernel_rfl
theorem Try.sizeStrs (w : World) : (Go.sizeOf (Try.prog.elem 45)).run Try.prog w = .ok 1 w := by kernel_rfl
theorem Try.elemInts : Try.prog.underlying 46 = some (.slice (Try.prog.elem 46)) := by kernel_rfl
theorem Try.sizeInts (w : World) : (Go.sizeOf (Try.prog.elem 46)).run Try.prog w = .ok 1 w := by kernel_rfl
theorem atStrs {ao : Option Addr} {a : Addr} (len cap k : Nat) (ha : ao = some a) (h : k < len) (w : World) : (Instr.indexAt 45 (.slice ao len cap) (.int .i64 (k : Int))).run Try.prog w = .ok (.pointer (some (a.add k))) w := by
  subst ha
  rw [run_indexAt_slice (P := Try.prog) w 45 a len cap .i64 k Try.elemStrs, if_pos (by omega), Try.sizeStrs]
  simp [Result.andThen]
theorem atInts {ao : Option Addr} {a : Addr} (len cap k : Nat) (ha : ao = some a) (h : k < len) (w : World) : (Instr.indexAt 46 (.slice ao len cap) (.int .i64 (k : Int))).run Try.prog w = .ok (.pointer (some (a.add k))) w := by
  subst ha
  rw [run_indexAt_slice (P := Try.prog) w 46 a len cap .i64 k Try.elemInts, if_pos (by omega), Try.sizeInts]
  simp [Result.andThen]

theorem below_draws (w : World) (n : Nat) : Below w.heap.size w (w.drewN n) := ⟨rfl, rfl, rfl, Nat.le_refl _, fun _ _ => rfl⟩
theorem ret_bool {a b : Bool} (h : a = b) : Ending.returned (.bool a) = .returned (.bool b) := by rw [h]
/-- One text is less than another, byte by byte. -/
def ltB (a b : ByteArray) : Bool := Op.bytesLess a.toList b.toList
def shortB (s : ByteArray) : Bool := decide (1 ≤ s.size) && decide (s.size ≤ 8)
def pageB (n : Int) : Bool := decide (2 ≤ n) && decide (n < 400)
def rootB (r : RootD) : Bool := (r.page == 0 || pageB r.page) && decide (0 ≤ r.count) && decide (r.count ≤ 1000000) && (r.flags == 0 || r.flags == 1)
def goodV (l : List ByteArray) (i : Nat) : Bool :=
  decide (1 ≤ (l.getD i ⟨#[]⟩).size) && decide ((l.getD i ⟨#[]⟩).size ≤ 12) && (i == 0 || ltB (l.getD (i - 1) ⟨#[]⟩) (l.getD i ⟨#[]⟩))
def valsB (l : List ByteArray) (least most : Int) : Bool := (List.range l.length).all (goodV l) && decide (least ≤ l.length) && decide ((l.length : Int) ≤ most)
theorem all_range_succ (p : Nat → Bool) (k : Nat) : (List.range (k + 1)).all p = ((List.range k).all p && p k) := by simp [List.range_succ, List.all_append]
theorem all_range_bad (p : Nat → Bool) (k n : Nat) (h : k < n) (hp : p k = false) : (List.range n).all p = false := by
  rw [List.all_eq_false]
  exact ⟨k, List.mem_range.2 h, by simp [hp]⟩
end Go.Proofs.Ytgnmjdcmaahlnaa
