/- Pages in memory: what hangs on a page; and when two are the same. -/
import Derived.Test.YtgnmjdcmaahlnaaPm
import Derived.Deep.MidRow
import Derived.Deep.RegionWith
namespace Go.Proofs.Ytgnmjdcmaahlnaa
open Go.RowKit Go.Sort

theorem bcell {W w1 : World} (hb : Below W.heap.size W w1) : ∀ b o, b < W.heap.size → w1.cell? ⟨b, o, none⟩ = W.cell? ⟨b, o, none⟩ := fun b o h => hb.cell (p := ⟨b, o, none⟩) h
/-- An item's cells; v: its slice of values. -/
def itemCells (x : ItemD) (v : Value) : List Value :=
  [.string x.key, .int .i64 x.kind, .string x.val, .int .i64 x.run, .int .i64 x.len, v, .int .i64 x.dup, .int .i64 x.root.page, .int .i64 x.root.count, .int .i64 x.root.flags]
def sameRootB (a b : RootD) : Bool := a.page == b.page && (a.count == b.count && a.flags == b.flags)
def sameItemB (x y : ItemD) : Bool :=
  (x.key.toList == y.key.toList) && (x.kind == y.kind) && (x.val.toList == y.val.toList) && (x.run == y.run) && (x.len == y.len) && decide (x.vals = y.vals) && (x.dup == y.dup) && sameRootB x.root y.root

def sameFreeB (x y : FreeD) : Bool := x.txn == y.txn && decide (x.ids = y.ids)
def sameFreesB (l m : List FreeD) : Bool := decide (l.length = m.length) && (List.range l.length).all fun i => sameFreeB (l.getD i ⟨0, []⟩) (m.getD i ⟨0, []⟩)

/-- A slice of free numbers, two cells each. -/
def FreesAt (w : World) (v : Value) (l : List FreeD) : Prop :=
  ∃ ao cap, v = .slice ao l.length cap ∧ l.length ≤ maxLen ∧ ∀ i (h : i < l.length), ∃ b o u, ao = some ⟨b, o, none⟩ ∧ b < w.heap.size ∧ w.cell? ⟨b, o + i * 2, none⟩ = some (.int .u64 l[i].txn) ∧ w.cell? ⟨b, o + i * 2 + 1, none⟩ = some u ∧ IntsAt w u l[i].ids
theorem FreesAt.below {w w' : World} {v : Value} {l : List FreeD} (h : FreesAt w v l) (hb : Below w.heap.size w w') : FreesAt w' v l := by
  obtain ⟨ao, cap, h1, h2, h3⟩ := h
  refine ⟨ao, cap, h1, h2, fun i hi => ?_⟩
  obtain ⟨b, o, u, ha, hlt, hc, hd, hu⟩ := h3 i hi
  exact ⟨b, o, u, ha, Nat.lt_of_lt_of_le hlt hb.size, (hb.cell (p := ⟨b, o + i * 2, none⟩) hlt).trans hc, (hb.cell (p := ⟨b, o + i * 2 + 1, none⟩) hlt).trans hd, hu.below hb⟩
theorem FreesAt.old {w : World} {v : Value} {l : List FreeD} (h : FreesAt w v l) : FreesOld w v l := by
  obtain ⟨ao, cap, h1, h2, h3⟩ := h
  refine ⟨ao, cap, h1, h2, fun i hi => ?_⟩
  obtain ⟨b, o, u, ha, hlt, hc, hd, hu⟩ := h3 i hi
  refine ⟨⟨b, o, none⟩, u, ha, ?_, ?_, hu⟩
  · rw [Addr.add_mid]; exact hc
  · rw [Addr.add_mid]; exact hd
theorem atFreesM {ao : Option Addr} {b o : Nat} (len cap k : Nat) (ha : ao = some ⟨b, o, none⟩) (h : k < len) (w : World) : (Instr.indexAt 47 (.slice ao len cap) (.int .i64 (k : Int))).run Try.prog w = .ok (.pointer (some ⟨b, o + k * 2, none⟩)) w := by
  rw [atFrees len cap k ha h, Addr.add_mid]
/-- A slice of items, ten cells each. -/
def ItemsAt (w : World) (v : Value) (l : List ItemD) : Prop :=
  ∃ ao cap, v = .slice ao l.length cap ∧ l.length ≤ maxLen ∧ ∀ i (h : i < l.length), ∃ b o u, ao = some ⟨b, o, none⟩ ∧ b < w.heap.size ∧ w.rangeAt b (o + i * 10) (itemCells l[i] u) ∧ StrsAt w u l[i].vals ∧ l[i].key.size ≤ maxLen ∧ l[i].val.size ≤ maxLen
theorem range_below {w w' : World} {b o : Nat} {cs : List Value} (h : w.rangeAt b o cs) (hb : Below w.heap.size w w') (hlt : b < w.heap.size) : w'.rangeAt b o cs :=
  fun j v hj => (hb.cell (p := ⟨b, o + j, none⟩) hlt).trans (h j v hj)
theorem ItemsAt.below {w w' : World} {v : Value} {l : List ItemD} (h : ItemsAt w v l) (hb : Below w.heap.size w w') : ItemsAt w' v l := by
  obtain ⟨ao, cap, h1, h2, h3⟩ := h
  refine ⟨ao, cap, h1, h2, fun i hi => ?_⟩
  obtain ⟨b, o, u, ha, hlt, hr, hu, hk, hv⟩ := h3 i hi
  exact ⟨b, o, u, ha, Nat.lt_of_lt_of_le hlt hb.size, range_below hr hb hlt, hu.below hb, hk, hv⟩
theorem Try.elemItems : Try.prog.underlying 44 = some (.slice (Try.prog.elem 44)) := by kernel_rfl
theorem Try.sizeItems (w : World) : (Go.sizeOf (Try.prog.elem 44)).run Try.prog w = .ok 10 w := by kernel_rfl
theorem atItems {ao : Option Addr} {b o : Nat} (len cap k : Nat) (ha : ao = some ⟨b, o, none⟩) (h : k < len) (w : World) : (Instr.indexAt 44 (.slice ao len cap) (.int .i64 (k : Int))).run Try.prog w = .ok (.pointer (some ⟨b, o + k * 10, none⟩)) w := by
  subst ha
  rw [run_indexAt_slice (P := Try.prog) w 44 ⟨b, o, none⟩ len cap .i64 k Try.elemItems, if_pos (by omega), Try.sizeItems]
  simp only [Result.andThen, Int.toNat_natCast, Addr.add_mid]
theorem range10 {w : World} {b o : Nat} {x : ItemD} {u : Value} (h : w.rangeAt b o (itemCells x u)) :
    w.cell? ⟨b, o, none⟩ = some (.string x.key) ∧ w.cell? ⟨b, o + 1, none⟩ = some (.int .i64 x.kind) ∧ w.cell? ⟨b, o + 2, none⟩ = some (.string x.val) ∧ w.cell? ⟨b, o + 3, none⟩ = some (.int .i64 x.run) ∧ w.cell? ⟨b, o + 4, none⟩ = some (.int .i64 x.len) ∧
    w.cell? ⟨b, o + 5, none⟩ = some u ∧ w.cell? ⟨b, o + 6, none⟩ = some (.int .i64 x.dup) ∧ w.cell? ⟨b, o + 7, none⟩ = some (.int .i64 x.root.page) ∧ w.cell? ⟨b, o + 8, none⟩ = some (.int .i64 x.root.count) ∧ w.cell? ⟨b, o + 9, none⟩ = some (.int .i64 x.root.flags) :=
  ⟨h 0 _ rfl, h 1 _ rfl, h 2 _ rfl, h 3 _ rfl, h 4 _ rfl, h 5 _ rfl, h 6 _ rfl, h 7 _ rfl, h 8 _ rfl, h 9 _ rfl⟩

/-- A page's cells; the five slices' values stand beside it. -/
def pageCells (p : PageD) (vi vk vd vv vf : Value) : List Value :=
  [.int .i64 p.kind, vi, vk, vd, .string p.text, vv, vf, .int .i64 p.next, .int .u64 p.mt.txn, .int .i64 p.mt.main.page, .int .i64 p.mt.main.count, .int .i64 p.mt.main.flags, .int .i64 p.mt.free, .int .i64 p.mt.last]
/-- What hangs on a page. -/
structure Hangs (w : World) (p : PageD) (vi vk vd vv vf : Value) : Prop where
  items : ItemsAt w vi p.items
  keys : StrsAt w vk p.keys
  kids : IntsAt w vd p.kids
  text : p.text.size ≤ maxLen
  vals : StrsAt w vv p.vals
  free : FreesAt w vf p.free
theorem Hangs.below {w w' : World} {p : PageD} {vi vk vd vv vf : Value} (h : Hangs w p vi vk vd vv vf) (hb : Below w.heap.size w w') : Hangs w' p vi vk vd vv vf :=
  ⟨h.items.below hb, h.keys.below hb, h.kids.below hb, h.text, h.vals.below hb, h.free.below hb⟩
def sameMetaB (a b : MetaD) : Bool := (a.txn == b.txn) && ((a.main.page == b.main.page && (a.main.count == b.main.count && a.main.flags == b.main.flags)) && (a.free == b.free && a.last == b.last))
def itemAt (l : List ItemD) (i : Nat) : ItemD := l.getD i ⟨⟨#[]⟩, 0, ⟨#[]⟩, 0, 0, [], 0, ⟨0, 0, 0⟩⟩
def sameHeadB (a b : PageD) : Bool :=
  (a.kind == b.kind) && decide (a.items.length = b.items.length) && decide (a.keys = b.keys) && decide (a.kids = b.kids) && (a.text.toList == b.text.toList) && decide (a.vals = b.vals) && sameFreesB a.free b.free && (a.next == b.next) && sameMetaB a.mt b.mt
def sameB (a b : PageD) : Bool := sameHeadB a b && (List.range a.items.length).all fun i => sameItemB (itemAt a.items i) (itemAt b.items i)

theorem base2 {w X : World} {o1 o2 : Obj} (h : Below (w.heap.size + 2) ((w.alloc o1).alloc o2) X) : Below w.heap.size w X :=
  (Below.alloc (Below.alloc (Below.refl _ _) (Nat.le_refl _) o1) (by simp) o2).trans (h.mono (by omega))
theorem step2 {w X Y : World} {o1 o2 : Obj} (h : Below (w.heap.size + 2) ((w.alloc o1).alloc o2) X) (hb : Below X.heap.size X Y) : Below (w.heap.size + 2) ((w.alloc o1).alloc o2) Y :=
  h.trans (hb.mono (by have := h.size; simp at this; omega))
theorem cells2 {w X : World} {o1 o2 : Obj} (h : Below (w.heap.size + 2) ((w.alloc o1).alloc o2) X) : ∀ b o, b < w.heap.size + 2 → X.cell? ⟨b, o, none⟩ = ((w.alloc o1).alloc o2).cell? ⟨b, o, none⟩ :=
  fun b o hb => h.cell (p := ⟨b, o, none⟩) hb

end Go.Proofs.Ytgnmjdcmaahlnaa
