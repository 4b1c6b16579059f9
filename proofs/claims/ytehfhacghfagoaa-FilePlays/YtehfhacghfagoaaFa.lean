/- A file in memory: its pages as plain data, what a call may turn; no function is walked here. -/
import Derived.Test.YtehfhacghfagoaaRows
import Derived.WalkKit
import Derived.WalkSpells
import Derived.WalkLawsBesides
import Derived.Deep.MidRow
import Derived.Deep.AppendLies
namespace Go.Proofs.Ytehfhacghfagoaa
open Go.RowKit

/-- A fact kept from the walk, under its own name for it. -/
theorem hid {p : Prop} (h : p) : Hid p := h
theorem heap_newL (w : World) (o : Obj) : (w.alloc o).heap[w.heap.size]? = some o := heap_alloc_new w o
theorem cell_rowL {w : World} {b : Nat} {cs : Array Value} {T : TypeId} {fr : Nat × Nat} (hb : w.heap[b]? = some (.cells cs T fr)) (j : Nat) : w.cell? ⟨b, j, none⟩ = cs[j]? := by
  simp [World.cell?, hb]
theorem frozen_rowL {w : World} {b : Nat} {cs : Array Value} {T : TypeId} (hb : w.heap[b]? = some (.cells cs T (0, 0))) (j : Nat) : w.frozen? ⟨b, j, none⟩ = false := by
  simp [World.frozen?, hb]
theorem lt_of_heap {w : World} {b : Nat} {o : Obj} (h : w.heap[b]? = some o) : b < w.heap.size := (Array.getElem?_eq_some_iff.1 h).1
theorem grown_setCell (w : World) (b o : Nat) (u : Value) : w.grownBy (w.setCell ⟨b, o, none⟩ u) (some b) :=
  ⟨rfl, rfl, rfl, by simp, fun k _ hne => by rw [Below.heap_setCell _ _ _ _ (by simpa using fun e => hne (by rw [e]))]⟩

/-- A page as the file has it: as it is now, as it was synced, whether it is loose. -/
structure Sh where
  now : ByteArray
  syn : ByteArray
  loose : Bool
def shC (s : Sh) : List Value := [.string s.now, .string s.syn, .bool s.loose]
def rowS (l : List Sh) : List Value := (l.map shC).flatten
theorem rowS_snoc (l : List Sh) (s : Sh) : rowS (l ++ [s]) = rowS l ++ shC s := by simp [rowS]
theorem rowS_cons (l : List Sh) (s : Sh) : rowS (s :: l) = shC s ++ rowS l := by simp [rowS]
theorem rowS_length (l : List Sh) : (rowS l).length = l.length * 3 := by
  induction l with
  | nil => rfl
  | cons a l ih => rw [rowS_cons, List.length_append, ih, List.length_cons]; simp [shC]; omega
theorem rowS_at : ∀ (l : List Sh) (i : Nat) (h : i < l.length) (j : Nat), j < 3 → (rowS l)[i * 3 + j]? = (shC l[i])[j]?
  | [], i, h, j, hj => absurd h (by simp)
  | a :: l, 0, h, j, hj => by
    rw [rowS_cons, List.getElem?_append_left (by simp [shC]; omega)]
    simp
  | a :: l, i + 1, h, j, hj => by
    rw [rowS_cons, List.getElem?_append_right (by simp [shC]; omega)]
    have := rowS_at l i (by simpa using h) j hj
    simp only [List.getElem_cons_succ]
    rw [← this]
    congr 1
    simp [shC]
    omega
theorem rowS_take (l : List Sh) (n : Nat) (h : n ≤ l.length) : (rowS l).take (n * 3) = rowS (l.take n) := by
  have e : rowS l = rowS (l.take n) ++ rowS (l.drop n) := by simp only [rowS, ← List.flatten_append, ← List.map_append, List.take_append_drop]
  rw [e, List.take_append_of_le_length (by rw [rowS_length, List.length_take]; omega), List.take_of_length_le (by rw [rowS_length, List.length_take]; omega)]
/-- One of a page's three fields another one. -/
def Sh.put (s : Sh) (j : Nat) (u : Value) (t : Sh) : Prop := (shC s).set j u = shC t
theorem rowS_set : ∀ (l : List Sh) (i : Nat) (h : i < l.length) (j : Nat) (u : Value) (t : Sh), j < 3 → (shC l[i]).set j u = shC t → (rowS l).set (i * 3 + j) u = rowS (l.set i t)
  | [], i, h, _, _, _, _, _ => absurd h (by simp)
  | a :: l, 0, h, j, u, t, hj, e => by
    rw [rowS_cons, List.set_append_left _ _ (by simp [shC]; omega), List.set_cons_zero, rowS_cons]
    rw [List.getElem_cons_zero] at e
    rw [← e]
    simp
  | a :: l, i + 1, h, j, u, t, hj, e => by
    rw [rowS_cons, List.set_append_right _ _ (by simp [shC]; omega), List.set_cons_succ, rowS_cons]
    rw [← rowS_set l i (by simpa using h) j u t hj (by simpa using e)]
    congr 2
    simp [shC]
    omega

/-- The file in block fb, its pages' row v, all of it from block B on. -/
structure FileAt (w : World) (B fb : Nat) (v : Value) (l : List Sh) : Prop where
  obj : w.heap[fb]? = some (.cells #[v] 56 (0, 0))
  base : B ≤ fb
  row : w.ownsRow B 58 3 v l.length (rowS l)
  len : l.length ≤ 400
theorem FileAt.lt {w : World} {B fb : Nat} {v : Value} {l : List Sh} (h : FileAt w B fb v l) : fb < w.heap.size := lt_of_heap h.obj
theorem FileAt.baseLe {w : World} {B fb : Nat} {v : Value} {l : List Sh} (h : FileAt w B fb v l) : B ≤ w.heap.size := by have := h.lt; have := h.base; omega
theorem FileAt.form {w : World} {B fb : Nat} {v : Value} {l : List Sh} (h : FileAt w B fb v l) : (v = .slice none 0 0 ∧ l = []) ∨ ∃ g cap, v = .slice (some ⟨g, 0, none⟩) l.length cap ∧ l.length ≤ cap ∧ cap ≤ maxLen ∧ g ≠ fb ∧ g < w.heap.size ∧ B ≤ g := by
  rcases h.row.2 with ⟨rfl, h0⟩ | ⟨g, cap, cur, rfl, hB, hg, hn, hm, hs, ht⟩
  · exact .inl ⟨rfl, List.length_eq_zero_iff.1 h0⟩
  · refine .inr ⟨g, cap, rfl, hn, hm, fun e => ?_, lt_of_heap hg, hB⟩
    subst e
    have := h.obj
    rw [hg] at this
    simp at this
theorem FileAt.slice {w : World} {B fb : Nat} {v : Value} {l : List Sh} (h : FileAt w B fb v l) : ∃ ao cap, v = .slice ao l.length cap := by
  rcases h.form with ⟨rfl, rfl⟩ | ⟨g, cap, rfl, _⟩
  · exact ⟨_, _, rfl⟩
  · exact ⟨_, _, rfl⟩
theorem FileAt.kept {w w' : World} {B fb : Nat} {v : Value} {l : List Sh} (h : FileAt w B fb v l) (hf : w'.heap[fb]? = w.heap[fb]?) (hr : ∀ g, v.ownBlock = some g → w'.heap[g]? = w.heap[g]?) : FileAt w' B fb v l := by
  refine ⟨hf.trans h.obj, h.base, ⟨h.row.1, ?_⟩, h.len⟩
  rcases h.row.2 with hn | ⟨g, cap, cur, rfl, hb, hgg, rest⟩
  · exact .inl hn
  · exact .inr ⟨g, cap, cur, rfl, hb, (hr g rfl).trans hgg, rest⟩
theorem FileAt.rowLt {w : World} {B fb : Nat} {v : Value} {l : List Sh} (h : FileAt w B fb v l) : ∀ g, v.ownBlock = some g → B ≤ g ∧ g < w.heap.size := h.row.lt
theorem FileAt.below {w w' : World} {B fb : Nat} {v : Value} {l : List Sh} (h : FileAt w B fb v l) (hb : Below w.heap.size w w') : FileAt w' B fb v l :=
  h.kept (hb.block fb h.lt) (fun g hg => hb.block g (h.rowLt g hg).2)
theorem FileAt.alloc {w : World} {B fb : Nat} {v : Value} {l : List Sh} (h : FileAt w B fb v l) (o : Obj) : FileAt (w.alloc o) B fb v l :=
  h.below ((Below.refl _ w).alloc (Nat.le_refl _) o)

/-- What a method of the file in block fb may turn: that block, the row of its pages, new memory. -/
structure Fo (fb : Nat) (w : World) (v : Value) (w' : World) (v' : Value) : Prop where
  os : w'.os = w.os
  tape : w'.tape = w.tape
  output : w'.output = w.output
  size : w.heap.size ≤ w'.heap.size
  block : ∀ k, k < w.heap.size → k ≠ fb → v.ownBlock ≠ some k → w'.heap[k]? = w.heap[k]?
  row : ∀ g, v'.ownBlock = some g → v.ownBlock = some g ∨ w.heap.size ≤ g
theorem Fo.refl (fb : Nat) (w : World) (v : Value) : Fo fb w v w v := ⟨rfl, rfl, rfl, Nat.le_refl _, fun _ _ _ _ => rfl, fun _ h => .inl h⟩
theorem Fo.trans {fb : Nat} {w w1 w2 : World} {v v1 v2 : Value} (h : Fo fb w v w1 v1) (k : Fo fb w1 v1 w2 v2) : Fo fb w v w2 v2 := by
  refine ⟨k.os.trans h.os, k.tape.trans h.tape, k.output.trans h.output, Nat.le_trans h.size k.size, fun i hi hf hv => ?_, fun g hg => ?_⟩
  · refine (k.block i (Nat.lt_of_lt_of_le hi h.size) hf (fun e => ?_)).trans (h.block i hi hf hv)
    rcases h.row i e with h' | h'
    · exact hv h'
    · omega
  · rcases k.row g hg with h' | h'
    · exact h.row g h'
    · exact .inr (Nat.le_trans h.size h')
theorem Fo.below {fb B : Nat} {w w' : World} {v v' : Value} {l : List Sh} (h : Fo fb w v w' v') (hf : FileAt w B fb v l) : Below B w w' :=
  ⟨h.os, h.tape, h.output, h.size, fun k hk => h.block k (by have := hf.baseLe; omega) (by have := hf.base; omega) (fun e => by have := (hf.rowLt k e).1; omega)⟩
theorem Fo.of_below {fb : Nat} {w w' : World} {v : Value} (h : Below w.heap.size w w') : Fo fb w v w' v :=
  ⟨h.os, h.tape, h.output, h.size, fun k hk _ _ => h.block k hk, fun _ h => .inl h⟩
theorem Fo.alloc {fb : Nat} {w w' : World} {v v' : Value} (h : Fo fb w v w' v') (o : Obj) : Fo fb w v (w'.alloc o) v' :=
  h.trans (.of_below ((Below.refl _ w').alloc (Nat.le_refl _) o))
/-- An append to the row of pages. -/
theorem Fo.grown {fb : Nat} {w w' : World} {v v' : Value} (h : w.grownBy w' v.ownBlock) (hr : ∀ g, v'.ownBlock = some g → v.ownBlock = some g ∨ w.heap.size ≤ g) : Fo fb w v w' v' :=
  ⟨h.os, h.tape, h.output, h.size, fun k hk _ hv => h.block k hk (fun e => hv e.symm), hr⟩
theorem Fo.obj {fb : Nat} {w : World} {v : Value} (u : Value) : Fo fb w v (w.setCell ⟨fb, 0, none⟩ u) v :=
  ⟨rfl, rfl, rfl, by simp, fun k _ hf _ => by rw [Below.heap_setCell _ _ _ _ (by simpa using hf)], fun _ h => .inl h⟩
theorem Fo.cell {fb g o n cap : Nat} {w : World} (u : Value) : Fo fb w (.slice (some ⟨g, 0, none⟩) n cap) (w.setCell ⟨g, o, none⟩ u) (.slice (some ⟨g, 0, none⟩) n cap) :=
  ⟨rfl, rfl, rfl, by simp, fun k _ _ hv => by rw [Below.heap_setCell _ _ _ _ (by intro e; apply hv; simp only [Value.ownBlock]; exact congrArg some e.symm)], fun _ h => .inl h⟩
theorem Fo.drew {fb : Nat} {w w' : World} {v v' : Value} (h : Fo fb w v w' v') : Fo fb w v w'.drew v' := ⟨h.os, h.tape, h.output, h.size, h.block, h.row⟩
theorem Fo.as {fb : Nat} {w w' : World} {v v' u : Value} (h : Fo fb w v w' v') (e : u.ownBlock = v'.ownBlock) : Fo fb w v w' u := ⟨h.os, h.tape, h.output, h.size, h.block, fun g hg => h.row g (by rw [← e]; exact hg)⟩
theorem FileAt.drew {w : World} {B fb : Nat} {v : Value} {l : List Sh} (h : FileAt w B fb v l) : FileAt w.drew B fb v l := h.kept rfl (fun _ _ => rfl)

theorem owns_stored {w : World} {base : Nat} {e : TypeId} {size g n cap : Nat} {xs : List Value} (h : w.ownsRow base e size (.slice (some ⟨g, 0, none⟩) n cap) n xs) (i : Nat) (u : Value) : (w.setCell ⟨g, i, none⟩ u).ownsRow base e size (.slice (some ⟨g, 0, none⟩) n cap) n (xs.set i u) := by
  obtain ⟨h1, h2⟩ := h
  refine ⟨by simpa using h1, ?_⟩
  rcases h2 with ⟨hv, _⟩ | ⟨g', cap', cur, hv, hb, hg, hn, hc, hs, ht⟩
  · cases hv
  · simp only [Value.slice.injEq, Option.some.injEq, Addr.mk.injEq, true_and, and_true] at hv
    obtain ⟨rfl, rfl⟩ := hv
    refine .inr ⟨g, cap, cur.setIfInBounds i u, rfl, hb, heap_setCell_same w g i cur e u hg, hn, hc, by simpa using hs, ?_⟩
    rw [Array.toList_setIfInBounds, List.take_set, ht]
/-- A store into a field of page i. -/
theorem FileAt.stored {w : World} {B fb g n cap : Nat} {l : List Sh} (h : FileAt w B fb (.slice (some ⟨g, 0, none⟩) n cap) l) (hn : n = l.length) (i : Nat) (hi : i < l.length) (j : Nat) (hj : j < 3) (u : Value) (t : Sh) (ht : (shC l[i]).set j u = shC t) :
    FileAt (w.setCell ⟨g, i * 3 + j, none⟩ u) B fb (.slice (some ⟨g, 0, none⟩) n cap) (l.set i t) := by
  subst hn
  have hgf : g ≠ fb := by
    rcases h.form with ⟨h', _⟩ | ⟨g', cap', h', _, _, hne, _⟩
    · cases h'
    · simp only [Value.slice.injEq, Option.some.injEq, Addr.mk.injEq, true_and, and_true] at h'
      rw [h'.1]; exact hne
  refine ⟨?_, h.base, ?_, by simpa using h.len⟩
  · rw [Below.heap_setCell _ _ _ _ (by simpa using fun e => hgf e.symm)]
    exact h.obj
  · have := owns_stored h.row (i * 3 + j) u
    rw [rowS_set l i hi j u t hj ht] at this
    simpa using this
theorem FileAt.cell {w : World} {B fb g n cap : Nat} {l : List Sh} (h : FileAt w B fb (.slice (some ⟨g, 0, none⟩) n cap) l) (hn : n = l.length) (i : Nat) (hi : i < l.length) :
    w.cell? ⟨g, i * 3, none⟩ = some (.string l[i].now) ∧ w.cell? ⟨g, i * 3 + 1, none⟩ = some (.string l[i].syn) ∧ w.cell? ⟨g, i * 3 + 2, none⟩ = some (.bool l[i].loose) := by
  subst hn
  refine ⟨?_, ?_, ?_⟩
  · have h1 := h.row.cellAt (i * 3 + 0) (by omega)
    rw [rowS_at l i hi 0 (by omega)] at h1
    exact h1
  · rw [h.row.cellAt (i * 3 + 1) (by omega), rowS_at l i hi 1 (by omega)]; rfl
  · rw [h.row.cellAt (i * 3 + 2) (by omega), rowS_at l i hi 2 (by omega)]; rfl
theorem FileAt.frozen {w : World} {B fb g n cap : Nat} {l : List Sh} (h : FileAt w B fb (.slice (some ⟨g, 0, none⟩) n cap) l) (hn : n = l.length) (j : Nat) : w.frozen? ⟨g, j, none⟩ = false := by
  subst hn
  exact h.row.frozenAt j
/-- The pages' row is another one now. -/
theorem FileAt.put {w w' : World} {B fb : Nat} {v u : Value} {l m : List Sh} (h : FileAt w B fb v l) (hf : w'.heap[fb]? = w.heap[fb]?) (hr : w'.ownsRow B 58 3 u m.length (rowS m)) (hm : m.length ≤ 400) : FileAt (w'.setCell ⟨fb, 0, none⟩ u) B fb u m := by
  have ho := hf.trans h.obj
  refine ⟨one_setCell ho, h.base, ownsRow_setCell_other hr (fun e => ?_) u, hm⟩
  rcases hr.2 with ⟨rfl, _⟩ | ⟨g, cap, cur, rfl, hb, hgg, rest⟩
  · simp [Value.ownBlock] at e
  · simp [Value.ownBlock] at e
    subst e
    rw [hgg] at ho
    simp at ho
theorem Try.infoSheet : (Try.prog.info? 58).map (fun i => (i.zero, i.size, i.bytes)) = some (some (.agg #[.string ⟨#[]⟩, .string ⟨#[]⟩, .bool false]), 3, 40) := by kernel_rfl
theorem Try.infoInt : (Try.prog.info? 3).map (fun i => (i.zero, i.size, i.bytes)) = some (some (.int .i64 0), 1, 8) := by kernel_rfl
theorem Try.elemSheets : Try.prog.underlying 54 = some (.slice (Try.prog.elem 54)) := by kernel_rfl
theorem Try.sizeSheets (w : World) : (Go.sizeOf (Try.prog.elem 54)).run Try.prog w = .ok 3 w := by kernel_rfl
theorem atSheets (g len cap k : Nat) (h : k < len) (w : World) : (Instr.indexAt 54 (.slice (some ⟨g, 0, none⟩) len cap) (.int .i64 (k : Int))).run Try.prog w = .ok (.pointer (some ⟨g, k * 3, none⟩)) w := by
  rw [run_indexAt_slice (P := Try.prog) w 54 ⟨g, 0, none⟩ len cap .i64 k Try.elemSheets, if_pos (by omega), Try.sizeSheets]
  simp only [Result.andThen, Int.toNat_natCast, Addr.add_mid, Nat.zero_add]
/-- What is appended when its element lies in a block of its own. -/
theorem grown_alloc {w w' : World} {row : Option Nat} {o : Obj} (g : (w.alloc o).grownBy w' row) : w.grownBy w' row :=
  ⟨g.os, g.tape, g.output, by have := g.size; simp at this; omega, fun k hk hne => (g.block k (by simp; omega) hne).trans (Below.heap_alloc w o k hk)⟩
end Go.Proofs.Ytehfhacghfagoaa
