/- A file in memory: its pages as plain data, what a call may turn; no function is walked here. Contracts of package file's Len, Read and Write. Contract of package file's New. Contracts of package file's Sync and Loose. Contracts of the reference's SameInts and of errors.Is at the one error that package file gives. -/
import Derived.Test.YtpionokcabjokaaGreatRows
import Derived.WalkKit
import Derived.WalkSpells
import Derived.WalkLawsBesides
import Derived.Deep.MidRow
import Derived.Deep.AppendLies
import Derived.Deep.LoopGhost
import Derived.RegionTactic
import Derived.ChangeAlike
import Derived.Deep.QuietTactic
import Derived.BigQuiet
namespace Go.Proofs.YtpionokcabjokaaGreat.F
open Go.RowKit

/-- A fact kept from the walk, under its own name for it. -/
theorem hid {p : Prop} (h : p) : Hid p := h
theorem heap_newL (w : World) (o : Obj) : (w.alloc o).heap[w.heap.size]? = some o := heap_alloc_new w o
theorem cell_rowL {w : World} {b : Nat} {cs : Array Value} {T : TypeId} {fr : Nat × Nat} (hb : w.heap[b]? = some (.cells cs T fr)) (j : Nat) : w.cell? ⟨b, j, none⟩ = cs[j]? := by
  simp [World.cell?, hb]
theorem frozen_rowL {w : World} {b : Nat} {cs : Array Value} {T : TypeId} (hb : w.heap[b]? = some (.cells cs T (0, 0))) (j : Nat) : w.frozen? ⟨b, j, none⟩ = false := by
  simp [World.frozen?, hb]
theorem lt_of_heap {w : World} {b : Nat} {o : Obj} (h : w.heap[b]? = some o) : b < w.heap.size := (Array.getElem?_eq_some_iff.1 h).1
theorem grown_setCell (w : World) (b o : Nat) (u : Value) : w.grownBy (w.setCell ⟨b, o, none⟩ u) (some b) :=
  ⟨rfl, rfl, rfl, by simp, fun k _ hne => by rw [Below.heap_setCell _ _ _ _ (by simpa using fun e => hne (by rw [e]))]⟩

/-- A page as the file has it: as it is now, as it was synced, whether it is loose. -/
structure Sh where
  now : ByteArray
  syn : ByteArray
  loose : Bool
def shC (s : Sh) : List Value := [.string s.now, .string s.syn, .bool s.loose]
def rowS (l : List Sh) : List Value := (l.map shC).flatten
theorem rowS_snoc (l : List Sh) (s : Sh) : rowS (l ++ [s]) = rowS l ++ shC s := by simp [rowS]
theorem rowS_cons (l : List Sh) (s : Sh) : rowS (s :: l) = shC s ++ rowS l := by simp [rowS]
theorem rowS_length (l : List Sh) : (rowS l).length = l.length * 3 := by
  induction l with
  | nil => rfl
  | cons a l ih => rw [rowS_cons, List.length_append, ih, List.length_cons]; simp [shC]; omega
theorem rowS_at : ∀ (l : List Sh) (i : Nat) (h : i < l.length) (j : Nat), j < 3 → (rowS l)[i * 3 + j]? = (shC l[i])[j]?
  | [], i, h, j, hj => absurd h (by simp)
  | a :: l, 0, h, j, hj => by
    rw [rowS_cons, List.getElem?_append_left (by simp [shC]; omega)]
    simp
  | a :: l, i + 1, h, j, hj => by
    rw [rowS_cons, List.getElem?_append_right (by simp [shC]; omega)]
    have := rowS_at l i (by simpa using h) j hj
    simp only [List.getElem_cons_succ]
    rw [← this]
    congr 1
    simp [shC]
    omega
theorem rowS_take (l : List Sh) (n : Nat) (h : n ≤ l.length) : (rowS l).take (n * 3) = rowS (l.take n) := by
  have e : rowS l = rowS (l.take n) ++ rowS (l.drop n) := by simp only [rowS, ← List.flatten_append, ← List.map_append, List.take_append_drop]
  rw [e, List.take_append_of_le_length (by rw [rowS_length, List.length_take]; omega), List.take_of_length_le (by rw [rowS_length, List.length_take]; omega)]
/-- One of a page's three fields another one. -/
def Sh.put (s : Sh) (j : Nat) (u : Value) (t : Sh) : Prop := (shC s).set j u = shC t
theorem rowS_set : ∀ (l : List Sh) (i : Nat) (h : i < l.length) (j : Nat) (u : Value) (t : Sh), j < 3 → (shC l[i]).set j u = shC t → (rowS l).set (i * 3 + j) u = rowS (l.set i t)
  | [], i, h, _, _, _, _, _ => absurd h (by simp)
  | a :: l, 0, h, j, u, t, hj, e => by
    rw [rowS_cons, List.set_append_left _ _ (by simp [shC]; omega), List.set_cons_zero, rowS_cons]
    rw [List.getElem_cons_zero] at e
    rw [← e]
    simp
  | a :: l, i + 1, h, j, u, t, hj, e => by
    rw [rowS_cons, List.set_append_right _ _ (by simp [shC]; omega), List.set_cons_succ, rowS_cons]
    rw [← rowS_set l i (by simpa using h) j u t hj (by simpa using e)]
    congr 2
    simp [shC]
    omega

/-- The file in block fb, its pages' row v, all of it from block B on. -/
structure FileAt (w : World) (B fb : Nat) (v : Value) (l : List Sh) : Prop where
  obj : w.heap[fb]? = some (.cells #[v] 79 (0, 0))
  base : B ≤ fb
  row : w.ownsRow B 81 3 v l.length (rowS l)
  len : l.length ≤ 400
theorem FileAt.lt {w : World} {B fb : Nat} {v : Value} {l : List Sh} (h : FileAt w B fb v l) : fb < w.heap.size := lt_of_heap h.obj
theorem FileAt.baseLe {w : World} {B fb : Nat} {v : Value} {l : List Sh} (h : FileAt w B fb v l) : B ≤ w.heap.size := by have := h.lt; have := h.base; omega
theorem FileAt.form {w : World} {B fb : Nat} {v : Value} {l : List Sh} (h : FileAt w B fb v l) : (v = .slice none 0 0 ∧ l = []) ∨ ∃ g cap, v = .slice (some ⟨g, 0, none⟩) l.length cap ∧ l.length ≤ cap ∧ cap ≤ maxLen ∧ g ≠ fb ∧ g < w.heap.size ∧ B ≤ g := by
  rcases h.row.2 with ⟨rfl, h0⟩ | ⟨g, cap, cur, rfl, hB, hg, hn, hm, hs, ht⟩
  · exact .inl ⟨rfl, List.length_eq_zero_iff.1 h0⟩
  · refine .inr ⟨g, cap, rfl, hn, hm, fun e => ?_, lt_of_heap hg, hB⟩
    subst e
    have := h.obj
    rw [hg] at this
    simp at this
theorem FileAt.slice {w : World} {B fb : Nat} {v : Value} {l : List Sh} (h : FileAt w B fb v l) : ∃ ao cap, v = .slice ao l.length cap := by
  rcases h.form with ⟨rfl, rfl⟩ | ⟨g, cap, rfl, _⟩
  · exact ⟨_, _, rfl⟩
  · exact ⟨_, _, rfl⟩
theorem FileAt.kept {w w' : World} {B fb : Nat} {v : Value} {l : List Sh} (h : FileAt w B fb v l) (hf : w'.heap[fb]? = w.heap[fb]?) (hr : ∀ g, v.ownBlock = some g → w'.heap[g]? = w.heap[g]?) : FileAt w' B fb v l := by
  refine ⟨hf.trans h.obj, h.base, ⟨h.row.1, ?_⟩, h.len⟩
  rcases h.row.2 with hn | ⟨g, cap, cur, rfl, hb, hgg, rest⟩
  · exact .inl hn
  · exact .inr ⟨g, cap, cur, rfl, hb, (hr g rfl).trans hgg, rest⟩
theorem FileAt.rowLt {w : World} {B fb : Nat} {v : Value} {l : List Sh} (h : FileAt w B fb v l) : ∀ g, v.ownBlock = some g → B ≤ g ∧ g < w.heap.size := h.row.lt
theorem FileAt.below {w w' : World} {B fb : Nat} {v : Value} {l : List Sh} (h : FileAt w B fb v l) (hb : Below w.heap.size w w') : FileAt w' B fb v l :=
  h.kept (hb.block fb h.lt) (fun g hg => hb.block g (h.rowLt g hg).2)
theorem FileAt.alloc {w : World} {B fb : Nat} {v : Value} {l : List Sh} (h : FileAt w B fb v l) (o : Obj) : FileAt (w.alloc o) B fb v l :=
  h.below ((Below.refl _ w).alloc (Nat.le_refl _) o)

/-- What a method of the file in block fb may turn: that block, the row of its pages, new memory. -/
structure Fo (fb : Nat) (w : World) (v : Value) (w' : World) (v' : Value) : Prop where
  os : w'.os = w.os
  tape : w'.tape = w.tape
  output : w'.output = w.output
  size : w.heap.size ≤ w'.heap.size
  block : ∀ k, k < w.heap.size → k ≠ fb → v.ownBlock ≠ some k → w'.heap[k]? = w.heap[k]?
  row : ∀ g, v'.ownBlock = some g → v.ownBlock = some g ∨ w.heap.size ≤ g
theorem Fo.refl (fb : Nat) (w : World) (v : Value) : Fo fb w v w v := ⟨rfl, rfl, rfl, Nat.le_refl _, fun _ _ _ _ => rfl, fun _ h => .inl h⟩
theorem Fo.trans {fb : Nat} {w w1 w2 : World} {v v1 v2 : Value} (h : Fo fb w v w1 v1) (k : Fo fb w1 v1 w2 v2) : Fo fb w v w2 v2 := by
  refine ⟨k.os.trans h.os, k.tape.trans h.tape, k.output.trans h.output, Nat.le_trans h.size k.size, fun i hi hf hv => ?_, fun g hg => ?_⟩
  · refine (k.block i (Nat.lt_of_lt_of_le hi h.size) hf (fun e => ?_)).trans (h.block i hi hf hv)
    rcases h.row i e with h' | h'
    · exact hv h'
    · omega
  · rcases k.row g hg with h' | h'
    · exact h.row g h'
    · exact .inr (Nat.le_trans h.size h')
theorem Fo.below {fb B : Nat} {w w' : World} {v v' : Value} {l : List Sh} (h : Fo fb w v w' v') (hf : FileAt w B fb v l) : Below B w w' :=
  ⟨h.os, h.tape, h.output, h.size, fun k hk => h.block k (by have := hf.baseLe; omega) (by have := hf.base; omega) (fun e => by have := (hf.rowLt k e).1; omega)⟩
theorem Fo.of_below {fb : Nat} {w w' : World} {v : Value} (h : Below w.heap.size w w') : Fo fb w v w' v :=
  ⟨h.os, h.tape, h.output, h.size, fun k hk _ _ => h.block k hk, fun _ h => .inl h⟩
theorem Fo.alloc {fb : Nat} {w w' : World} {v v' : Value} (h : Fo fb w v w' v') (o : Obj) : Fo fb w v (w'.alloc o) v' :=
  h.trans (.of_below ((Below.refl _ w').alloc (Nat.le_refl _) o))
/-- An append to the row of pages. -/
theorem Fo.grown {fb : Nat} {w w' : World} {v v' : Value} (h : w.grownBy w' v.ownBlock) (hr : ∀ g, v'.ownBlock = some g → v.ownBlock = some g ∨ w.heap.size ≤ g) : Fo fb w v w' v' :=
  ⟨h.os, h.tape, h.output, h.size, fun k hk _ hv => h.block k hk (fun e => hv e.symm), hr⟩
theorem Fo.obj {fb : Nat} {w : World} {v : Value} (u : Value) : Fo fb w v (w.setCell ⟨fb, 0, none⟩ u) v :=
  ⟨rfl, rfl, rfl, by simp, fun k _ hf _ => by rw [Below.heap_setCell _ _ _ _ (by simpa using hf)], fun _ h => .inl h⟩
theorem Fo.cell {fb g o n cap : Nat} {w : World} (u : Value) : Fo fb w (.slice (some ⟨g, 0, none⟩) n cap) (w.setCell ⟨g, o, none⟩ u) (.slice (some ⟨g, 0, none⟩) n cap) :=
  ⟨rfl, rfl, rfl, by simp, fun k _ _ hv => by rw [Below.heap_setCell _ _ _ _ (by intro e; apply hv; simp only [Value.ownBlock]; exact congrArg some e.symm)], fun _ h => .inl h⟩
theorem Fo.drew {fb : Nat} {w w' : World} {v v' : Value} (h : Fo fb w v w' v') : Fo fb w v w'.drew v' := ⟨h.os, h.tape, h.output, h.size, h.block, h.row⟩
theorem Fo.as {fb : Nat} {w w' : World} {v v' u : Value} (h : Fo fb w v w' v') (e : u.ownBlock = v'.ownBlock) : Fo fb w v w' u := ⟨h.os, h.tape, h.output, h.size, h.block, fun g hg => h.row g (by rw [← e]; exact hg)⟩
theorem FileAt.drew {w : World} {B fb : Nat} {v : Value} {l : List Sh} (h : FileAt w B fb v l) : FileAt w.drew B fb v l := h.kept rfl (fun _ _ => rfl)

theorem owns_stored {w : World} {base : Nat} {e : TypeId} {size g n cap : Nat} {xs : List Value} (h : w.ownsRow base e size (.slice (some ⟨g, 0, none⟩) n cap) n xs) (i : Nat) (u : Value) : (w.setCell ⟨g, i, none⟩ u).ownsRow base e size (.slice (some ⟨g, 0, none⟩) n cap) n (xs.set i u) := by
  obtain ⟨h1, h2⟩ := h
  refine ⟨by simpa using h1, ?_⟩
  rcases h2 with ⟨hv, _⟩ | ⟨g', cap', cur, hv, hb, hg, hn, hc, hs, ht⟩
  · cases hv
  · simp only [Value.slice.injEq, Option.some.injEq, Addr.mk.injEq, true_and, and_true] at hv
    obtain ⟨rfl, rfl⟩ := hv
    refine .inr ⟨g, cap, cur.setIfInBounds i u, rfl, hb, heap_setCell_same w g i cur e u hg, hn, hc, by simpa using hs, ?_⟩
    rw [Array.toList_setIfInBounds, List.take_set, ht]
/-- A store into a field of page i. -/
theorem FileAt.stored {w : World} {B fb g n cap : Nat} {l : List Sh} (h : FileAt w B fb (.slice (some ⟨g, 0, none⟩) n cap) l) (hn : n = l.length) (i : Nat) (hi : i < l.length) (j : Nat) (hj : j < 3) (u : Value) (t : Sh) (ht : (shC l[i]).set j u = shC t) :
    FileAt (w.setCell ⟨g, i * 3 + j, none⟩ u) B fb (.slice (some ⟨g, 0, none⟩) n cap) (l.set i t) := by
  subst hn
  have hgf : g ≠ fb := by
    rcases h.form with ⟨h', _⟩ | ⟨g', cap', h', _, _, hne, _⟩
    · cases h'
    · simp only [Value.slice.injEq, Option.some.injEq, Addr.mk.injEq, true_and, and_true] at h'
      rw [h'.1]; exact hne
  refine ⟨?_, h.base, ?_, by simpa using h.len⟩
  · rw [Below.heap_setCell _ _ _ _ (by simpa using fun e => hgf e.symm)]
    exact h.obj
  · have := owns_stored h.row (i * 3 + j) u
    rw [rowS_set l i hi j u t hj ht] at this
    simpa using this
theorem FileAt.cell {w : World} {B fb g n cap : Nat} {l : List Sh} (h : FileAt w B fb (.slice (some ⟨g, 0, none⟩) n cap) l) (hn : n = l.length) (i : Nat) (hi : i < l.length) :
    w.cell? ⟨g, i * 3, none⟩ = some (.string l[i].now) ∧ w.cell? ⟨g, i * 3 + 1, none⟩ = some (.string l[i].syn) ∧ w.cell? ⟨g, i * 3 + 2, none⟩ = some (.bool l[i].loose) := by
  subst hn
  refine ⟨?_, ?_, ?_⟩
  · have h1 := h.row.cellAt (i * 3 + 0) (by omega)
    rw [rowS_at l i hi 0 (by omega)] at h1
    exact h1
  · rw [h.row.cellAt (i * 3 + 1) (by omega), rowS_at l i hi 1 (by omega)]; rfl
  · rw [h.row.cellAt (i * 3 + 2) (by omega), rowS_at l i hi 2 (by omega)]; rfl
theorem FileAt.frozen {w : World} {B fb g n cap : Nat} {l : List Sh} (h : FileAt w B fb (.slice (some ⟨g, 0, none⟩) n cap) l) (hn : n = l.length) (j : Nat) : w.frozen? ⟨g, j, none⟩ = false := by
  subst hn
  exact h.row.frozenAt j
/-- The pages' row is another one now. -/
theorem FileAt.put {w w' : World} {B fb : Nat} {v u : Value} {l m : List Sh} (h : FileAt w B fb v l) (hf : w'.heap[fb]? = w.heap[fb]?) (hr : w'.ownsRow B 81 3 u m.length (rowS m)) (hm : m.length ≤ 400) : FileAt (w'.setCell ⟨fb, 0, none⟩ u) B fb u m := by
  have ho := hf.trans h.obj
  refine ⟨one_setCell ho, h.base, ownsRow_setCell_other hr (fun e => ?_) u, hm⟩
  rcases hr.2 with ⟨rfl, _⟩ | ⟨g, cap, cur, rfl, hb, hgg, rest⟩
  · simp [Value.ownBlock] at e
  · simp [Value.ownBlock] at e
    subst e
    rw [hgg] at ho
    simp at ho
theorem Tryz.infoSheet : (Tryz.prog.info? 81).map (fun i => (i.zero, i.size, i.bytes)) = some (some (.agg #[.string ⟨#[]⟩, .string ⟨#[]⟩, .bool false]), 3, 40) := by kernel_rfl
theorem Tryz.infoInt : (Tryz.prog.info? 3).map (fun i => (i.zero, i.size, i.bytes)) = some (some (.int .i64 0), 1, 8) := by kernel_rfl
theorem Tryz.elemSheets : Tryz.prog.underlying 77 = some (.slice (Tryz.prog.elem 77)) := by kernel_rfl
theorem Tryz.sizeSheets (w : World) : (Go.sizeOf (Tryz.prog.elem 77)).run Tryz.prog w = .ok 3 w := by kernel_rfl
theorem atSheets (g len cap k : Nat) (h : k < len) (w : World) : (Instr.indexAt 77 (.slice (some ⟨g, 0, none⟩) len cap) (.int .i64 (k : Int))).run Tryz.prog w = .ok (.pointer (some ⟨g, k * 3, none⟩)) w := by
  rw [run_indexAt_slice (P := Tryz.prog) w 77 ⟨g, 0, none⟩ len cap .i64 k Tryz.elemSheets, if_pos (by omega), Tryz.sizeSheets]
  simp only [Result.andThen, Int.toNat_natCast, Addr.add_mid, Nat.zero_add]
/-- What is appended when its element lies in a block of its own. -/
theorem grown_alloc {w w' : World} {row : Option Nat} {o : Obj} (g : (w.alloc o).grownBy w' row) : w.grownBy w' row :=
  ⟨g.os, g.tape, g.output, by have := g.size; simp at this; omega, fun k hk hne => (g.block k (by simp; omega) hne).trans (Below.heap_alloc w o k hk)⟩
end Go.Proofs.YtpionokcabjokaaGreat.F

namespace Go.Proofs.YtpionokcabjokaaGreat.F
open Go.RowKit

def noSh : Sh := ⟨⟨#[]⟩, ⟨#[]⟩, false⟩
def emptySh : Sh := ⟨⟨#[]⟩, ⟨#[]⟩, true⟩
def readL (l : List Sh) (i : Int) : ByteArray := if 0 ≤ i then (l.getD i.toNat noSh).now else ⟨#[]⟩
/-- With empty loose pages at the end, so many in all. -/
def padTo (l : List Sh) (n : Nat) : List Sh := l ++ List.replicate (n - l.length) emptySh
def writeL (l : List Sh) (i : Nat) (s : ByteArray) : List Sh := (padTo l (i + 1)).set i ⟨s, ((padTo l (i + 1)).getD i noSh).syn, true⟩
theorem padTo_length (l : List Sh) (n : Nat) : (padTo l n).length = max l.length n := by simp [padTo]; omega
theorem padTo_le (l : List Sh) (n : Nat) (h : n ≤ l.length) : padTo l n = l := by simp [padTo, Nat.sub_eq_zero_of_le h]
theorem padTo_snoc (l : List Sh) (n : Nat) (h : l.length < n) : padTo (l ++ [emptySh]) n = padTo l n := by
  obtain ⟨m, rfl⟩ : ∃ m, n = l.length + (m + 1) := ⟨n - l.length - 1, by omega⟩
  simp [padTo, List.append_assoc, List.replicate_succ, Nat.add_sub_cancel_left, show l.length + (m + 1) - (l.length + 1) = m by omega]

theorem len_any (w : World) (B fb : Nat) (v : Value) (l : List Sh) (h : FileAt w B fb v l) :
    Calls Tryz.prog 22 #[.pointer (some ⟨fb, 0, none⟩)] w fun e w' => e = .returned (.int .i64 l.length) ∧ w' = w := by
  have hc := cell_of_one h.obj
  rcases h.form with ⟨rfl, rfl⟩ | ⟨g, cap, rfl, _⟩
  all_goals
    clear h
    go_enter Tryz.func22, Tryz.ntmps22
    go_wp2
    go_ret
    exact ⟨rfl, rfl⟩

theorem read_any (w : World) (B fb : Nat) (v : Value) (l : List Sh) (i : Int) (h : FileAt w B fb v l) :
    Calls Tryz.prog 20 #[.pointer (some ⟨fb, 0, none⟩), .int .i64 i] w fun e w' => e = .returned (.string (readL l i)) ∧ w' = w := by
  have hc := cell_of_one h.obj
  have hl := h.len
  by_cases h0 : i < 0
  · have hr : readL l i = ⟨#[]⟩ := if_neg (by omega)
    rw [hr]
    clear hr
    go_enter Tryz.func20, Tryz.ntmps20
    go_wp2
    go_ret
    exact ⟨rfl, rfl⟩
  · obtain ⟨k, rfl⟩ : ∃ k : Nat, i = (k : Int) := ⟨i.toNat, by omega⟩
    by_cases hk : k < l.length
    · have hr : readL l (k : Int) = l[k].now := by simp [readL, hk]
      rcases h.form with ⟨rfl, rfl⟩ | ⟨g, cap, rfl, _⟩
      · simp at hk
      have hx := atSheets g l.length cap k hk
      have hcc := (h.cell rfl k hk).1
      rw [hr]
      clear hr h h0
      generalize l[k].now = s at *
      go_enter Tryz.func20, Tryz.ntmps20
      go_wp2
      go_ret
      exact ⟨rfl, rfl⟩
    · have hr : readL l (k : Int) = ⟨#[]⟩ := by simp [readL, List.getElem?_eq_none (Nat.le_of_not_lt hk), noSh]
      rw [hr]
      clear hr
      rcases h.form with ⟨rfl, rfl⟩ | ⟨g, cap, rfl, _⟩
      all_goals
        clear h
        try simp only [List.length_nil] at *
        go_enter Tryz.func20, Tryz.ntmps20
        go_wp2
        go_ret
        exact ⟨rfl, rfl⟩

theorem FileAt.own_ne {w : World} {B fb : Nat} {v : Value} {l : List Sh} (h : FileAt w B fb v l) : some fb ≠ v.ownBlock := by
  intro e
  rcases h.form with ⟨rfl, _⟩ | ⟨g, cap, rfl, _, _, hne, _⟩
  · simp [Value.ownBlock] at e
  · simp [Value.ownBlock] at e; omega
/-- One page more. -/
theorem FileAt.pushed {w w' : World} {B fb g n cap : Nat} {v : Value} {l : List Sh} {o : Obj} (h : FileAt w B fb v l) (x : Sh) (hr : w'.ownsRow B 81 3 (.slice (some ⟨g, 0, none⟩) n cap) (l.length + 1) (rowS l ++ shC x)) (hg : (w.alloc o).grownBy w' v.ownBlock) (hrow : v.ownBlock = some g ∨ g = w.heap.size + 1) (hl : l.length < 400) :
    FileAt (w'.setCell ⟨fb, 0, none⟩ (.slice (some ⟨g, 0, none⟩) n cap)) B fb (.slice (some ⟨g, 0, none⟩) n cap) (l ++ [x]) ∧ Fo fb w v (w'.setCell ⟨fb, 0, none⟩ (.slice (some ⟨g, 0, none⟩) n cap)) (.slice (some ⟨g, 0, none⟩) n cap) ∧ w'.heap[fb]? = some (.cells #[v] 79 (0, 0)) := by
  have hg' := grown_alloc hg
  have ho := hg'.block fb h.lt h.own_ne
  refine ⟨h.put ho (by rw [rowS_snoc]; simpa using hr) (by simp; omega), Fo.trans (Fo.grown hg' (fun k hk => ?_)) (Fo.obj _), ho.trans h.obj⟩
  simp only [Value.ownBlock, Option.some.injEq] at hk
  subst hk
  rcases hrow with e | e
  · exact .inl e
  · exact .inr (by omega)

end Go.Proofs.YtpionokcabjokaaGreat.F

namespace Go.Proofs.YtpionokcabjokaaGreat.F
open Go.RowKit

/-- A slice of texts. -/
def StrsAt (w : World) (v : Value) (l : List ByteArray) : Prop :=
  ∃ ao cap, v = .slice ao l.length cap ∧ (l.length ≤ maxLen ∧ l.length ≤ cap) ∧ ∀ i (h : i < l.length), ∃ a, ao = some a ∧ w.cell? (a.add i) = some (.string l[i]) ∧ l[i].size ≤ maxLen
theorem StrsAt.below {w w' : World} {v : Value} {l : List ByteArray} (h : StrsAt w v l) (hb : Below w.heap.size w w') : StrsAt w' v l := by
  obtain ⟨ao, cap, h1, h2, h3⟩ := h
  refine ⟨ao, cap, h1, h2, fun i hi => ?_⟩
  obtain ⟨a, ha, hc, hs⟩ := h3 i hi
  exact ⟨a, ha, (hb.cell (p := a.add i) (World.block_lt_of_cell? w _ hc)).trans hc, hs⟩
theorem strs_nil (w : World) : StrsAt w (.slice none 0 0) [] := ⟨none, 0, rfl, ⟨by simp, Nat.zero_le _⟩, fun i hi => absurd hi (by simp)⟩
/-- A slice of truths. -/
def BoolsAt (w : World) (v : Value) (l : List Bool) : Prop :=
  ∃ ao cap, v = .slice ao l.length cap ∧ (l.length ≤ maxLen ∧ l.length ≤ cap) ∧ ∀ i (h : i < l.length), ∃ a, ao = some a ∧ w.cell? (a.add i) = some (.bool l[i])
theorem BoolsAt.below {w w' : World} {v : Value} {l : List Bool} (h : BoolsAt w v l) (hb : Below w.heap.size w w') : BoolsAt w' v l := by
  obtain ⟨ao, cap, h1, h2, h3⟩ := h
  refine ⟨ao, cap, h1, h2, fun i hi => ?_⟩
  obtain ⟨a, ha, hc⟩ := h3 i hi
  exact ⟨a, ha, (hb.cell (p := a.add i) (World.block_lt_of_cell? w _ hc)).trans hc⟩
theorem bools_nil (w : World) : BoolsAt w (.slice none 0 0) [] := ⟨none, 0, rfl, ⟨by simp, Nat.zero_le _⟩, fun i hi => absurd hi (by simp)⟩

theorem cut_head {t : TypeId} {ao : Option Addr} {len cap n size : Nat} (ht : Tryz.prog.underlying t = some (.slice (Tryz.prog.elem t))) (hs : ∀ w, (Go.sizeOf (Tryz.prog.elem t)).run Tryz.prog w = .ok size w) (h : n ≤ cap) (w : World) :
    (Instr.slice t (.slice ao len cap) none (some (.int .i64 (n : Int))) none).run Tryz.prog w = .ok (.slice ao n cap) w := by
  rw [run_slice_h w t ao len cap ht .i64 (n : Int) (by omega) (by omega), hs]
  simp only [Result.andThen, sliced, Int.toNat_natCast, Nat.zero_mul, Nat.sub_zero]
  cases ao <;> simp [Addr.add]
theorem index_at {t : TypeId} {ao : Option Addr} {a : Addr} (ht : Tryz.prog.underlying t = some (.slice (Tryz.prog.elem t))) (hs : ∀ w, (Go.sizeOf (Tryz.prog.elem t)).run Tryz.prog w = .ok 1 w) (len cap k : Nat) (ha : ao = some a) (h : k < len) (w : World) :
    (Instr.indexAt t (.slice ao len cap) (.int .i64 (k : Int))).run Tryz.prog w = .ok (.pointer (some (a.add k))) w := by
  subst ha
  rw [run_indexAt_slice (P := Tryz.prog) w t a len cap .i64 k ht, if_pos (by omega), hs]
  simp only [Result.andThen, Int.toNat_natCast, Nat.mul_one]
theorem Tryz.elemStrs : Tryz.prog.underlying 26 = some (.slice (Tryz.prog.elem 26)) := by kernel_rfl
theorem Tryz.sizeStrs (w : World) : (Go.sizeOf (Tryz.prog.elem 26)).run Tryz.prog w = .ok 1 w := by kernel_rfl
def newL (ss : List ByteArray) : List Sh := ss.map fun s => ⟨s, s, false⟩
theorem newL_take (ss : List ByteArray) (k : Nat) (h : k < ss.length) : newL (ss.take (k + 1)) = newL (ss.take k) ++ [⟨ss[k], ss[k], false⟩] := by
  unfold newL
  rw [List.take_succ_eq_append_getElem h, List.map_append]
  rfl

set_option maxRecDepth 10000 in
set_option maxHeartbeats 4000000 in
theorem new_any (ss : List ByteArray) (v : Value) (w : World) (h : StrsAt w v ss) (hl : ss.length ≤ 400) :
    Calls Tryz.prog 9 #[v] w fun e w' => e = .returned (.pointer (some ⟨w.heap.size, 0, none⟩)) ∧ ∃ u, FileAt w' w.heap.size w.heap.size u (newL ss) ∧ Below w.heap.size w w' := by
  obtain ⟨i0, hi, hz0, hz1, hz2⟩ := info_parts Tryz.infoSheet
  obtain ⟨ao, cap, rfl, ⟨_, hcap⟩, h3⟩ := h
  have hcut := cut_head (ao := ao) (len := ss.length) (cap := cap) (n := ss.length) Tryz.elemStrs Tryz.sizeStrs hcap
  have h3 := hid h3
  have F0 : FileAt (w.alloc (.cells #[.slice none 0 0] 79)) w.heap.size w.heap.size (.slice none 0 0) (newL (ss.take 0)) :=
    ⟨heap_newL w _, Nat.le_refl _, World.ownsRow_nil _ _ _ _, by simp [newL]⟩
  have F0 := hid F0
  have B0 := hid ((Below.refl w.heap.size w).alloc (Nat.le_refl _) (.cells #[.slice none 0 0] 79))
  have hmin : min ss.length 400 = ss.length := by omega
  go_enter Tryz.func9, Tryz.ntmps9
  go_wp2
  clear hcut hmin
  go_loopg [14] ss.length (fun g i wr => ∃ (k : Nat) (u : Value), k + g = ss.length ∧ i = .int .i64 k ∧ Hid (FileAt wr w.heap.size w.heap.size u (newL (ss.take k))) ∧ Hid (Below w.heap.size w wr))
  case atStart => exact ⟨0, _, by omega, rfl, F0, B0⟩
  case round =>
    obtain ⟨k, u, hk, rfl, hf, hb⟩ := hrel
    clear F0 B0
    cases gk with
    | zero =>
      have hke : k = ss.length := by omega
      subst hke
      go_wp2
      go_ret
      rw [List.take_length] at hf
      exact ⟨rfl, u, hf.out, hb.out⟩
    | succ g =>
      have hlk : k < ss.length := by omega
      obtain ⟨a, ha, hcell, _⟩ := h3.out k hlk
      have hx := index_at (len := ss.length) (cap := cap) Tryz.elemStrs Tryz.sizeStrs k ha hlk
      have hc := cell_of_one hf.out.obj
      have hfr := free_of_one hf.out.obj
      have hlt := hf.out.lt
      have hcs : wr.cell? (a.add k) = some (.string ss[k]) := (hb.out.cell (p := a.add k) (World.block_lt_of_cell? w _ hcell)).trans hcell
      have hln : (newL (ss.take k)).length = k := by simp [newL]; omega
      have HR := hid hf.out.row
      rw [hln] at HR
      obtain ⟨bo, cp, rfl⟩ := hf.out.slice
      rw [hln] at hc HR hf
      have hsz := hb.out.size
      obtain ⟨s, hs⟩ : ∃ s, ss[k] = s := ⟨_, rfl⟩
      rw [hs] at hcs
      have hs := hid hs
      clear hcell ha
      go_wp2_with (first
        | (at_builtin; refine wpList_append_lies _ rfl (.tmp 22) (.tmp 26) 77 rfl w.heap.size 81 i0 (.agg #[.string ⟨#[]⟩, .string ⟨#[]⟩, .bool false]) 3 40 Tryz.underlying77 hi hz0 hz1 hz2 rfl (by omega) _ k (rowS (newL (ss.take k))) rfl (HR.out.alloc _) ⟨wr.heap.size, 0, none⟩ 1 1 (shC ⟨s, s, false⟩) rfl rfl (World.news_of_block (heap_newL wr _)) (by simp [shC, Value.oneCell']) (by omega) (by unfold maxLen; omega) (by omega) (by simp; omega) (wr.heap.size + 1) (by simp) ?_)
        | fail)
      intro g' cap' w1 hown hgrow hg hgs
      obtain ⟨hF, hO, ho1⟩ := hf.out.pushed ⟨s, s, false⟩ (by rw [hln]; exact hown) hgrow hg (by omega)
      have hB := hid ((hO.below hf.out))
      have hF := hid hF
      have hc1 := cell_of_one ho1
      have hf1 := free_of_one ho1
      clear hown hgrow hg ho1 HR hO
      go_wp2
      go_roundg g
      case rel => exact ⟨k + 1, _, by omega, by go_num, by show FileAt _ _ _ _ _; rw [newL_take ss k hlk]; rw [hs.out]; exact hF.out, hb.out.trans hB.out⟩
      case measure => omega
end Go.Proofs.YtpionokcabjokaaGreat.F

namespace Go.Proofs.YtpionokcabjokaaGreat.F
open Go.RowKit

def syS (s : Sh) : Sh := ⟨s.now, s.now, false⟩
def syncL (l : List Sh) : List Sh := l.map syS
def syncTo (l : List Sh) (k : Nat) : List Sh := (l.take k).map syS ++ l.drop k
theorem syncTo_zero (l : List Sh) : syncTo l 0 = l := by simp [syncTo]
theorem syncTo_all (l : List Sh) : syncTo l l.length = syncL l := by simp [syncTo, syncL]
theorem syncTo_length (l : List Sh) (k : Nat) : (syncTo l k).length = l.length := by simp [syncTo]; omega
theorem syncTo_at (l : List Sh) (k : Nat) (h : k < l.length) : (syncTo l k)[k]'(by rw [syncTo_length]; exact h) = l[k] := by
  simp [syncTo, List.getElem_append_right, Nat.min_eq_left (Nat.le_of_lt h)]
theorem syncTo_set (l : List Sh) (k : Nat) (h : k < l.length) : (syncTo l k).set k (syS l[k]) = syncTo l (k + 1) := by
  unfold syncTo
  rw [List.set_append_right _ _ (by simp; omega), List.drop_eq_getElem_cons h, List.take_succ_eq_append_getElem h, List.map_append, List.append_assoc]
  congr 1
  simp only [List.length_map, List.length_take, Nat.min_eq_left (Nat.le_of_lt h), Nat.sub_self, List.set_cons_zero]
  rfl
theorem FileAt.stored3 {w : World} {B fb g n cap : Nat} {l : List Sh} (h : FileAt w B fb (.slice (some ⟨g, 0, none⟩) n cap) l) (hn : n = l.length) (i : Nat) (hi : i < l.length) (t : Sh) :
    FileAt (((w.setCell ⟨g, i * 3, none⟩ (.string t.now)).setCell ⟨g, i * 3 + 1, none⟩ (.string t.syn)).setCell ⟨g, i * 3 + 2, none⟩ (.bool t.loose)) B fb (.slice (some ⟨g, 0, none⟩) n cap) (l.set i t) := by
  have h1 := h.stored hn i hi 0 (by omega) (.string t.now) ⟨t.now, l[i].syn, l[i].loose⟩ rfl
  have h2 := h1.stored (by simpa using hn) i (by simpa using hi) 1 (by omega) (.string t.syn) ⟨t.now, t.syn, l[i].loose⟩ (by simp [shC])
  have h3 := h2.stored (by simpa using hn) i (by simpa using hi) 2 (by omega) (.bool t.loose) ⟨t.now, t.syn, t.loose⟩ (by simp [shC])
  simpa using h3

def looseL : List Sh → Nat → List Int
  | [], _ => []
  | x :: l, n => if x.loose then (n : Int) :: looseL l (n + 1) else looseL l (n + 1)
theorem looseL_append : ∀ (l m : List Sh) (n : Nat), looseL (l ++ m) n = looseL l n ++ looseL m (n + l.length)
  | [], m, n => by simp [looseL]
  | x :: l, m, n => by
    simp only [List.cons_append, looseL, looseL_append l m (n + 1), List.length_cons]
    rw [show n + 1 + l.length = n + (l.length + 1) by omega]
    split <;> simp
theorem looseL_take (l : List Sh) (k : Nat) (h : k < l.length) : looseL (l.take (k + 1)) 0 = if l[k].loose then looseL (l.take k) 0 ++ [(k : Int)] else looseL (l.take k) 0 := by
  rw [List.take_succ_eq_append_getElem h, looseL_append]
  simp only [looseL, Nat.zero_add, List.length_take, Nat.min_eq_left (Nat.le_of_lt h)]
  split <;> simp
theorem looseL_le : ∀ (l : List Sh) (n : Nat), (looseL l n).length ≤ l.length
  | [], n => by simp [looseL]
  | x :: l, n => by
    have := looseL_le l (n + 1)
    simp only [looseL, List.length_cons]
    split <;> simp <;> omega
def intCells (l : List Int) : List Value := l.map (Value.int .i64)
/-- A row of numbers of the call's own. -/
def OwnInts (w : World) (base : Nat) (v : Value) (l : List Int) : Prop := w.ownsRow base 3 1 v l.length (intCells l)
theorem OwnInts.slice {w : World} {base : Nat} {v : Value} {l : List Int} (h : OwnInts w base v l) : ∃ ao cap, v = .slice ao l.length cap := by
  rcases h.2 with ⟨rfl, h0⟩ | ⟨g, cap, cur, rfl, _⟩
  · exact ⟨none, 0, by rw [h0]⟩
  · exact ⟨_, _, rfl⟩

set_option maxRecDepth 10000 in
set_option maxHeartbeats 4000000 in
theorem loose_any (w : World) (B fb : Nat) (v : Value) (l : List Sh) (h : FileAt w B fb v l) :
    Calls Tryz.prog 21 #[.pointer (some ⟨fb, 0, none⟩)] w fun e w' => ∃ u, e = .returned u ∧ OwnInts w' w.heap.size u (looseL l 0) ∧ Below w.heap.size w w' := by
  obtain ⟨i0, hi, hz0, hz1, hz2⟩ := info_parts Tryz.infoInt
  have hc := cell_of_one h.obj
  rcases h.form with ⟨rfl, rfl⟩ | ⟨g, cap, rfl, h1, h2, hne, h3, h4⟩
  · clear h
    go_enter Tryz.func21, Tryz.ntmps21
    go_wp2
    refine wp_loop_rounds 1 ?_
    rw [rounds_succ]
    go_wp2
    go_ret
    exact ⟨_, rfl, World.ownsRow_nil _ _ _ _, Below.refl _ _⟩
  · have F0 := hid h
    have hl4 := h.len
    clear h
    go_enter Tryz.func21, Tryz.ntmps21
    go_wp2
    go_loopg [3, 11] l.length (fun gk u i wr => ∃ (k : Nat), k + gk = l.length ∧ i = .int .i64 k ∧ Hid (OwnInts wr w.heap.size u (looseL (l.take k) 0)) ∧ Hid (Below w.heap.size w wr))
    case atStart => exact ⟨0, by omega, rfl, World.ownsRow_nil _ _ _ _, Below.refl _ _⟩
    case round =>
      obtain ⟨k, hk, rfl, hu, hb⟩ := hrel
      clear hc
      cases gk with
      | zero =>
        have hke : k = l.length := by omega
        subst hke
        go_wp2
        go_ret
        rw [List.take_length] at hu
        exact ⟨_, rfl, hu.out, hb.out⟩
      | succ gg =>
        have hlk : k < l.length := by omega
        have hx := atSheets g l.length cap k hlk
        have hf := F0.out.below hb.out
        obtain ⟨c0, c1, c2⟩ := hf.cell rfl k hlk
        have hsz := hb.out.size
        have hgl : g < wr.heap.size := World.block_lt_of_cell? wr _ c0
        have hll := looseL_le (l.take k) 0
        rw [List.length_take] at hll
        have HL := hid (looseL_take l k hlk)
        obtain ⟨x, hxk⟩ : ∃ x, l[k] = x := ⟨_, rfl⟩
        rw [hxk] at c0 c1 c2 HL
        clear hxk hf
        obtain ⟨xn, xs, xl⟩ := x
        obtain ⟨ao, cp, rfl⟩ := hu.out.slice
        have HU := hid (hu.out.alloc (.cells #[.string xn, .string xs, .bool xl] 81))
        have HB := hid (hb.out.alloc (by omega) (.cells #[.string xn, .string xs, .bool xl] 81))
        cases xl
        · go_wp2
          go_roundg gg
          case rel => exact ⟨k + 1, by omega, by go_num, by show OwnInts _ _ _ _; rw [HL.out]; exact HU.out, HB.out⟩
          case measure => omega
        · generalize hL : looseL (l.take k) 0 = L at *
          go_wp2_with (first
            | (at_builtin; refine wpList_append_lies _ rfl (.tmp 18) (.tmp 20) 23 rfl w.heap.size 3 i0 (.int .i64 0) 1 8 Tryz.underlying23 hi hz0 hz1 hz2 rfl (by omega) _ L.length (intCells L) rfl (HU.out.alloc _) ⟨wr.heap.size + 1, 0, none⟩ 1 1 [.int .i64 k] rfl rfl (by have := World.news_of_block (heap_newL (wr.alloc (.cells #[.string xn, .string xs, .bool true] 81)) (.cells #[.int .i64 k] 3)); simpa only [World.size_alloc] using this) (by simp [Value.oneCell']) (by omega) (by unfold maxLen; omega) (by omega) (by simp; omega) (wr.heap.size + 2) (by simp) ?_)
            | fail)
          intro g' cap' w1 hown hgrow hg hgs
          have hBel := hid ((HB.out.alloc (by simp; omega) _).grown hgrow (by simp; omega) (fun r hr => (HU.out.lt r hr).1))
          have hown := hid hown
          clear hgrow hg hu hb HU HB
          go_wp2
          go_roundg gg
          case rel => exact ⟨k + 1, by omega, by go_num, by show OwnInts _ _ _ _; rw [HL.out]; simpa [OwnInts, intCells] using hown.out, hBel.out⟩
          case measure => omega
end Go.Proofs.YtpionokcabjokaaGreat.F

namespace Go.Proofs.YtpionokcabjokaaGreat.F
open Go.RowKit

/-- A slice of numbers. -/
def IntsAt (w : World) (v : Value) (l : List Int) : Prop :=
  ∃ ao cap, v = .slice ao l.length cap ∧ l.length ≤ maxLen ∧ ∀ i (h : i < l.length), ∃ a, ao = some a ∧ w.cell? (a.add i) = some (.int .i64 l[i])
theorem IntsAt.below {w w' : World} {v : Value} {l : List Int} (h : IntsAt w v l) (hb : Below w.heap.size w w') : IntsAt w' v l := by
  obtain ⟨ao, cap, h1, h2, h3⟩ := h
  refine ⟨ao, cap, h1, h2, fun i hi => ?_⟩
  obtain ⟨a, ha, hc⟩ := h3 i hi
  exact ⟨a, ha, (hb.cell (p := a.add i) (World.block_lt_of_cell? w _ hc)).trans hc⟩
theorem ints_nil (w : World) : IntsAt w (.slice none 0 0) [] := ⟨none, 0, rfl, by simp, fun i hi => absurd hi (by simp)⟩
theorem OwnInts.at {w : World} {base : Nat} {v : Value} {l : List Int} (h : OwnInts w base v l) (hl : l.length ≤ maxLen) : IntsAt w v l := by
  obtain ⟨ao, cap, rfl⟩ := h.slice
  refine ⟨ao, cap, rfl, hl, fun i hi => ?_⟩
  rcases h.2 with ⟨hv, h0⟩ | ⟨g, cap', cur, hv, _⟩
  · omega
  · simp only [Value.slice.injEq, true_and] at hv
    obtain ⟨rfl, rfl⟩ := hv
    refine ⟨_, rfl, ?_⟩
    have := World.ownsRow.cellAt h i (by omega)
    rw [Addr.add_mid, Nat.zero_add, this]
    simp [intCells, hi]
theorem Tryz.elemInts : Tryz.prog.underlying 23 = some (.slice (Tryz.prog.elem 23)) := by kernel_rfl
theorem Tryz.sizeInts (w : World) : (Go.sizeOf (Tryz.prog.elem 23)).run Tryz.prog w = .ok 1 w := by kernel_rfl
theorem atInts {ao : Option Addr} {a : Addr} (len cap k : Nat) (ha : ao = some a) (h : k < len) (w : World) : (Instr.indexAt 23 (.slice ao len cap) (.int .i64 (k : Int))).run Tryz.prog w = .ok (.pointer (some (a.add k))) w :=
  index_at Tryz.elemInts Tryz.sizeInts len cap k ha h w
theorem below_draws (w : World) (n : Nat) : Below w.heap.size w (w.drewN n) := ⟨rfl, rfl, rfl, Nat.le_refl _, fun _ _ => rfl⟩
theorem ret_bool {a b : Bool} (h : a = b) : Ending.returned (.bool a) = .returned (.bool b) := by rw [h]

set_option maxHeartbeats 1000000 in
theorem refSameInts_any (l m : List Int) (v u : Value) (w : World) (hv : IntsAt w v l) (hu : IntsAt w u m) :
    Calls Tryz.prog 26 #[v, u] w fun e w' => e = .returned (.bool (decide (l = m))) ∧ Below w.heap.size w w' := by
  obtain ⟨ao, cap, rfl, hlm, hc⟩ := hv
  obtain ⟨ao2, cap2, rfl, hlm2, hc2⟩ := hu
  unfold maxLen at hlm hlm2
  have HC := hid hc
  have HC2 := hid hc2
  clear hc hc2
  by_cases hne : l.length = m.length
  · have hneB : ((l.length : Int) != (m.length : Int)) = false := by simp; omega
    have HNE := hid hne
    clear hne
    go_enter Tryz.func26, Tryz.ntmps26
    go_wp2
    go_loopw [5] (fun i wr => ∃ k : Nat, k ≤ l.length ∧ i = .int .i64 k ∧ Hid (l.take k = m.take k) ∧ Below w.heap.size w wr) (fun i _ => l.length - (intOf i).toNat)
    case atStart => exact ⟨0, Nat.zero_le _, rfl, rfl, Below.refl _ _⟩
    case round =>
      obtain ⟨k, hk, rfl, hall, hbel⟩ := hrel
      by_cases hlt : k < l.length
      · have hlt2 : k < m.length := by rw [← HNE.out]; exact hlt
        obtain ⟨a, ha, hce⟩ := HC.out k hlt
        obtain ⟨a2, ha2, hce2⟩ := HC2.out k hlt2
        have hcell : wr.cell? (a.add k) = some (Value.int .i64 l[k]) := (hbel.cell (p := a.add k) (World.block_lt_of_cell? w _ hce)).trans hce
        have hcell2 : wr.cell? (a2.add k) = some (Value.int .i64 m[k]) := (hbel.cell (p := a2.add k) (World.block_lt_of_cell? w _ hce2)).trans hce2
        have hia := atInts (ao := ao) l.length cap k ha hlt
        have hia2 := atInts (ao := ao2) m.length cap2 k ha2 hlt2
        clear hce hce2 ha ha2
        have HT1 := hid (List.take_succ_eq_append_getElem hlt)
        have HT2 := hid (List.take_succ_eq_append_getElem hlt2)
        by_cases heq : l[k] = m[k]
        · have hb : (l[k] != m[k]) = false := by simp [heq]
          have HE := hid heq
          clear heq
          go_wp2_with fail
          go_quiet (fail)
          go_wp2
          go_roundw
          case rel => exact ⟨k + 1, by omega, by go_num, by show _ = _; rw [HT1.out, HT2.out, HE.out, hall.out], hbel.trans ((below_draws wr nq).mono hbel.size)⟩
          case measure => simp [intOf]; omega
        · have hb : (l[k] != m[k]) = true := by simpa using heq
          have HE := hid heq
          clear heq
          go_wp2_with fail
          go_quiet (fail)
          go_wp2
          go_ret
          refine ⟨ret_bool ?_, hbel.trans ((below_draws wr nq).mono hbel.size)⟩
          have : ¬ l = m := by
            intro e
            subst e
            exact HE.out rfl
          simp [this]
      · have hke : k = l.length := by omega
        go_wp2
        go_ret
        refine ⟨ret_bool ?_, hbel⟩
        have h1 := hall.out
        rw [List.take_of_length_le (by omega), List.take_of_length_le (by have := HNE.out; omega)] at h1
        simp [h1]
  · have hneB : ((l.length : Int) != (m.length : Int)) = true := by simp; omega
    have HNE := hid hne
    clear hne
    go_enter Tryz.func26, Tryz.ntmps26
    go_wp2
    go_ret
    refine ⟨ret_bool ?_, Below.refl _ _⟩
    have : ¬ l = m := fun e => HNE.out (by rw [e])
    simp [this]

theorem Tryz.eqErr (w : World) : (binOp .eql 45 (.iface 59 (.int .i64 14)) (.iface 59 (.int .i64 14))).run Tryz.prog w = .ok (.bool true) w := by kernel_rfl
theorem Tryz.eqNil (w : World) : (binOp .eql 45 (.iface 59 (.int .i64 14)) .nilIface).run Tryz.prog w = .ok (.bool false) w := by kernel_rfl
theorem Tryz.eqNilNil (w : World) : (binOp .eql 45 .nilIface .nilIface).run Tryz.prog w = .ok (.bool true) w := by kernel_rfl
theorem Tryz.callTypeOf (w : World) : (callFunc 47 #[.iface 59 (.int .i64 14)]).run Tryz.prog w = .ok (.value (.iface 116 (.agg #[.pointer (some ⟨0, 59, none⟩)]))) w := by kernel_rfl
theorem Tryz.callComparable (w : World) : (callFunc 161 #[.agg #[.pointer (some ⟨0, 59, none⟩)]]).run Tryz.prog w = .ok (.value (.bool true)) w := by kernel_rfl
theorem Tryz.methodComparable (v : Value) (w : World) : (Go.method 319 116 v "Comparable").run Tryz.prog w = .ok (161, v) w := by kernel_rfl

set_option maxHeartbeats 400000 in
theorem is_same (w : World) :
    Calls Tryz.prog 24 #[.iface 59 (.int .i64 14), .iface 59 (.int .i64 14)] w fun e w' => e = .returned (.bool true) ∧ w' = w := by
  have tT := Tryz.callTypeOf
  have cT := Tryz.callComparable
  have e1 := Tryz.eqErr
  have e2 := Tryz.eqNil
  have mR := Tryz.methodComparable
  go_enter Tryz.func24, Tryz.ntmps24
  go_wp2
  refine wp_loop_rounds 1 ?_
  rw [rounds_succ]
  go_wp2
  go_ret
  exact ⟨rfl, rfl⟩

end Go.Proofs.YtpionokcabjokaaGreat.F
