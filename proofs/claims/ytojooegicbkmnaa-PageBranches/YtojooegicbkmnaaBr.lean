/- PageBranches: a branch and its two rows, in memory; plain facts. -/
import Derived.Test.YtojooegicbkmnaaKc
import Derived.Deep.AppendLies
import Derived.Deep.RegionLaw
import Derived.OneCell
namespace Go.Proofs.Ytojooegicbkmnaa
open Go.RowKit Go.Sort

/-- The i-th key. -/
def keyN (i : Nat) : ByteArray := bs [107, UInt8.ofNat (97 + i)]
def keyB (i : Nat) : ByteArray := if i = 0 then ⟨#[]⟩ else keyN i
def keysB (k : Nat) : List ByteArray := (List.range k).map keyB
theorem keysB_length (k : Nat) : (keysB k).length = k := by simp [keysB]
theorem keysB_succ (k : Nat) : keysB (k + 1) = keysB k ++ [keyB k] := by simp [keysB, List.range_succ]
def zzB : ByteArray := ⟨#[122, 122]⟩
def aB : ByteArray := ⟨#[97]⟩
def K1 (a m : Nat) : List ByteArray := if m = 1 then keysB a ++ [zzB] else keysB a
def D1 (a m : Nat) : List Int := if m = 2 ∧ 0 < a then (upFrom 2 a).set 0 1 else upFrom 2 a
def K2 (a m : Nat) (t : Bool) : List ByteArray := if t = true ∧ 0 < a then (K1 a m).set 0 aB else K1 a m
def G1 (a m : Nat) : Bool := decide (2 ≤ a) && decide (a ≤ 4) && !decide (m = 1) && !(decide (m = 2) && decide (0 < a))
def G2 (a m : Nat) (t : Bool) : Bool := G1 a m && !(t && decide (0 < a))
def brP (ks : List ByteArray) (ds : List Int) : PageD := { noPage with kind := 2, keys := ks, kids := ds }
theorem is_br : ∀ a, a < 7 → ∀ m, m < 3 → ∀ t, isPB (brP (K2 a m t) (D1 a m)) = G2 a m t := by decide +kernel
theorem brP_txn (ks : List ByteArray) (ds : List Int) : TxnOk (brP ks ds) := ⟨by simp [brP, noPage], by simp [brP, noPage]⟩
def brCs (vk vd : Value) : Array Value := #[.int .i64 2, .slice none 0 0, vk, vd, .string ⟨#[]⟩, .slice none 0 0, .slice none 0 0, .int .i64 0, .int .u64 0, .int .i64 0, .int .i64 0, .int .i64 0, .int .i64 0, .int .i64 0]
/-- The page in block B; the rows uk, ud of keys and children. -/
structure Br (w : World) (B : Nat) (Y : World) (vk vd uk ud : Value) (ks : List ByteArray) (ds : List Int) : Prop where
  pg : Y.heap[B]? = some (.cells (brCs vk vd) 33 (0, 0))
  below : Below B w Y
  size : B + 1 ≤ Y.heap.size
  keys : OwnStrs Y (B + 1) uk ks
  kids : OwnInts Y (B + 1) ud ds
theorem ownsB_block {w w' : World} {base : Nat} {e : TypeId} {size n : Nat} {v : Value} {xs : List Value} (h : w.ownsRow base e size v n xs) (hk : ∀ (b : Nat) (cs : Array Value) (fr : Nat × Nat), w.heap[b]? = some (Obj.cells cs e fr) → w'.heap[b]? = w.heap[b]?) : w'.ownsRow base e size v n xs := by
  refine ⟨h.1, ?_⟩
  rcases h.2 with hn | ⟨g, cap, cur, rfl, hb, hgg, rest⟩
  · exact .inl hn
  · exact .inr ⟨g, cap, cur, rfl, hb, (hk g _ _ hgg).trans hgg, rest⟩
theorem ltB_of_heap {w : World} {b : Nat} {o : Obj} (h : w.heap[b]? = some o) : b < w.heap.size := (Array.getElem?_eq_some_iff.1 h).1
theorem row_keeps {w w' : World} {base : Nat} {e : TypeId} {size : Nat} {u : Value} {n : Nat} {xs : List Value} (hu : w.ownsRow base e size u n xs) (hg : w.grownBy w' u.ownBlock) {b : Nat} {cs : Array Value} {T : TypeId} {fr : Nat × Nat} (hb : w.heap[b]? = some (.cells cs T fr)) (hT : T ≠ e) : w'.heap[b]? = w.heap[b]? := by
  refine hg.block b (ltB_of_heap hb) (fun e' => ?_)
  rcases hu.2 with ⟨rfl, _⟩ | ⟨g, cap, cur, rfl, _, hgg, _⟩
  · simp [Value.ownBlock] at e'
  · simp [Value.ownBlock] at e'
    subst e'
    rw [hgg] at hb
    simp only [Option.some.injEq, Obj.cells.injEq] at hb
    exact hT hb.2.1.symm
section
variable {w Y : World} {B : Nat} {vk vd uk ud : Value} {ks : List ByteArray} {ds : List Int}
theorem Br.alloc (h : Br w B Y vk vd uk ud ks ds) (o : Obj) : Br w B (Y.alloc o) vk vd uk ud ks ds := by
  have hs := h.size
  exact ⟨(Below.heap_alloc _ _ _ (by omega)).trans h.pg, h.below.alloc (by omega) o, by simp; omega, ⟨h.keys.1.alloc o, h.keys.2⟩, ⟨h.kids.1.alloc o, h.kids.2⟩⟩
theorem Br.drew (h : Br w B Y vk vd uk ud ks ds) : Br w B Y.drew vk vd uk ud ks ds := ⟨h.pg, ⟨h.below.os, h.below.tape, h.below.output, h.below.size, h.below.block⟩, h.size, h.keys, h.kids⟩
theorem Br.kidsApp (h : Br w B Y vk vd uk ud ks ds) (x : Int) (b : Nat) (hb : Y.heap[b]? = some (.cells #[.int .i64 x] 3 (0, 0))) (hl : ds.length ≤ 999) (ty : TypeId) :
    ∃ v' w', (Builtin.append_ #[25, 25] ty #[ud, .slice (some ⟨b, 0, none⟩) 1 1]).run Try.prog Y = .ok v' w' ∧ (Br w B w' vk vd uk v' ks (ds ++ [x]) ∧ (∃ g cap, v' = .slice (some ⟨g, 0, none⟩) (ds.length + 1) cap) ∧ ∀ (b : Nat) (cs : Array Value) (fr : Nat × Nat), Y.heap[b]? = some (.cells cs 9 fr) → w'.heap[b]? = some (.cells cs 9 fr)) := by
  obtain ⟨i0, hi, hz0, hz1, hz2⟩ := info_parts Try.infoInt
  obtain ⟨g, cap, w', h1, h2, h3, h4, h5⟩ := run_append_lies (P := Try.prog) Y 25 ty (B + 1) 3 i0 (.int .i64 0) 1 8 Try.underlying25 hi hz0 hz1 hz2 rfl (by omega) ud ds.length (intCells ds) h.kids.1 ⟨b, 0, none⟩ 1 1 [.int .i64 x] rfl (World.news_of_block hb) (by simp [Value.oneCell']) (by omega) (by unfold maxLen; omega) (by omega) h.size Y.heap.size rfl
  refine ⟨_, w', h1, ⟨(row_keeps h.kids.1 h3 h.pg (by decide)).trans h.pg, h.below.grown h3 (by have := h.size; omega) (fun k hk => by have := (h.kids.1.lt k hk).1; omega), by have := h3.size; have := h.size; omega, ⟨ownsB_block h.keys.1 (fun b cs fr hh => row_keeps h.kids.1 h3 hh (by decide)), h.keys.2⟩, ⟨by simpa [intCells] using h2, by simp; omega⟩⟩, ⟨g, cap, rfl⟩, fun b cs fr hh => (row_keeps h.kids.1 h3 hh (by decide)).trans hh⟩
theorem Br.keysApp (h : Br w B Y vk vd uk ud ks ds) (x : ByteArray) (b : Nat) (hb : Y.heap[b]? = some (.cells #[.string x] 9 (0, 0))) (hl : ks.length ≤ 999) (hx : x.size ≤ 65535) (ty : TypeId) :
    ∃ v' w', (Builtin.append_ #[24, 24] ty #[uk, .slice (some ⟨b, 0, none⟩) 1 1]).run Try.prog Y = .ok v' w' ∧ (Br w B w' vk vd v' ud (ks ++ [x]) ds ∧ ∃ g cap, v' = .slice (some ⟨g, 0, none⟩) (ks.length + 1) cap) := by
  obtain ⟨i0, hi, hz0, hz1, hz2⟩ := info_parts Try.infoStr
  obtain ⟨g, cap, w', h1, h2, h3, h4, h5⟩ := run_append_lies (P := Try.prog) Y 24 ty (B + 1) 9 i0 (.string ⟨#[]⟩) 1 16 Try.underlying24 hi hz0 hz1 hz2 rfl (by omega) uk ks.length (strCellsL ks) h.keys.1 ⟨b, 0, none⟩ 1 1 [.string x] rfl (World.news_of_block hb) (by simp [Value.oneCell']) (by omega) (by unfold maxLen; omega) (by omega) h.size Y.heap.size rfl
  refine ⟨_, w', h1, ⟨(row_keeps h.keys.1 h3 h.pg (by decide)).trans h.pg, h.below.grown h3 (by have := h.size; omega) (fun k hk => by have := (h.keys.1.lt k hk).1; omega), by have := h3.size; have := h.size; omega, ⟨by simpa [strCellsL] using h2, by simp; omega, ?_⟩, ⟨ownsB_block h.kids.1 (fun b cs fr hh => row_keeps h.keys.1 h3 hh (by decide)), h.kids.2⟩⟩, ⟨g, cap, rfl⟩⟩
  intro y hy
  rcases List.mem_append.1 hy with hy | hy
  · exact h.keys.2.2 y hy
  · rw [List.mem_singleton.1 hy]; exact hx
theorem setPage_keeps (h : Br w B Y vk vd uk ud ks ds) (o : Nat) (u : Value) {b : Nat} {cs : Array Value} {T : TypeId} {fr : Nat × Nat} (hb : Y.heap[b]? = some (.cells cs T fr)) (hT : T ≠ 33) : (Y.setCell ⟨B, o, none⟩ u).heap[b]? = Y.heap[b]? := by
  refine Below.heap_setCell _ _ _ _ (fun e => ?_)
  have e : b = B := e
  subst e
  rw [h.pg] at hb
  simp only [Option.some.injEq, Obj.cells.injEq] at hb
  exact hT hb.2.1.symm
theorem Br.setKids (h : Br w B Y vk vd uk ud ks ds) : Br w B (Y.setCell ⟨B, 3, none⟩ ud) vk ud uk ud ks ds :=
  ⟨by rw [heap_setCell_same Y B 3 _ _ _ h.pg]; rfl, h.below.setCell (Nat.le_refl _) ud, by simpa [World.setCell] using h.size, ⟨ownsB_block h.keys.1 (fun b cs fr hh => setPage_keeps h 3 ud hh (by decide)), h.keys.2⟩, ⟨ownsB_block h.kids.1 (fun b cs fr hh => setPage_keeps h 3 ud hh (by decide)), h.kids.2⟩⟩
theorem Br.setKeys (h : Br w B Y vk vd uk ud ks ds) : Br w B (Y.setCell ⟨B, 2, none⟩ uk) uk vd uk ud ks ds :=
  ⟨by rw [heap_setCell_same Y B 2 _ _ _ h.pg]; rfl, h.below.setCell (Nat.le_refl _) uk, by simpa [World.setCell] using h.size, ⟨ownsB_block h.keys.1 (fun b cs fr hh => setPage_keeps h 2 uk hh (by decide)), h.keys.2⟩, ⟨ownsB_block h.kids.1 (fun b cs fr hh => setPage_keeps h 2 uk hh (by decide)), h.kids.2⟩⟩
end
theorem ownsB_stored {w : World} {base : Nat} {e : TypeId} {size g n cap : Nat} {xs : List Value} (h : w.ownsRow base e size (.slice (some ⟨g, 0, none⟩) n cap) n xs) (i : Nat) (u : Value) : (w.setCell ⟨g, i, none⟩ u).ownsRow base e size (.slice (some ⟨g, 0, none⟩) n cap) n (xs.set i u) := by
  obtain ⟨h1, h2⟩ := h
  refine ⟨by simpa using h1, ?_⟩
  rcases h2 with ⟨hv, _⟩ | ⟨g', cap', cur, hv, hb, hg, hn, hc, hs, ht⟩
  · cases hv
  · simp only [Value.slice.injEq, Option.some.injEq, Addr.mk.injEq, true_and, and_true] at hv
    obtain ⟨rfl, rfl⟩ := hv
    refine .inr ⟨g, cap, cur.setIfInBounds i u, rfl, hb, heap_setCell_same w g i cur e u hg, hn, hc, by simpa using hs, ?_⟩
    rw [Array.toList_setIfInBounds, List.take_set, ht]
theorem own_block {w : World} {base : Nat} {e : TypeId} {size g n cap : Nat} {xs : List Value} (h : w.ownsRow base e size (.slice (some ⟨g, 0, none⟩) n cap) n xs) : base ≤ g ∧ ∃ cur, w.heap[g]? = some (.cells cur e (0, 0)) := by
  rcases h.2 with ⟨hv, _⟩ | ⟨g', cap', cur, hv, hb, hg, _⟩
  · cases hv
  · simp only [Value.slice.injEq, Option.some.injEq, Addr.mk.injEq, true_and, and_true] at hv
    obtain ⟨rfl, rfl⟩ := hv
    exact ⟨hb, cur, hg⟩
theorem set_keeps {w : World} {g o : Nat} {u : Value} {cs : Array Value} {e : TypeId} {fr : Nat × Nat} (hg : w.heap[g]? = some (.cells cs e fr)) {b : Nat} {cs' : Array Value} {T : TypeId} {fr' : Nat × Nat} (hb : w.heap[b]? = some (.cells cs' T fr')) (hT : T ≠ e) : (w.setCell ⟨g, o, none⟩ u).heap[b]? = w.heap[b]? := by
  refine Below.heap_setCell _ _ _ _ (fun e' => ?_)
  have e' : b = g := e'
  subst e'
  rw [hg] at hb
  simp only [Option.some.injEq, Obj.cells.injEq] at hb
  exact hT hb.2.1.symm
section
variable {w Y : World} {B g n cap : Nat} {vk vd uk ud : Value} {ks : List ByteArray} {ds : List Int}
theorem Br.key (h : Br w B Y vk vd (.slice (some ⟨g, 0, none⟩) n cap) ud ks ds) (hn : n = ks.length) (i : Nat) (s : ByteArray) (hs : s.size ≤ 65535) : Br w B (Y.setCell ⟨g, i, none⟩ (.string s)) vk vd (.slice (some ⟨g, 0, none⟩) n cap) ud (ks.set i s) ds := by
  subst hn
  obtain ⟨hb, cur, hg⟩ := own_block h.keys.1
  refine ⟨(set_keeps hg h.pg (by decide)).trans h.pg, h.below.setCell (by show B ≤ g; omega) _, by simpa [World.setCell] using h.size, ⟨?_, by simpa using h.keys.2.1, ?_⟩, ⟨ownsB_block h.kids.1 (fun b cs fr hh => set_keeps hg hh (by decide)), h.kids.2⟩⟩
  · have := ownsB_stored h.keys.1 i (.string s)
    rw [List.length_set]
    simpa [strCellsL, List.map_set] using this
  · intro y hy
    rcases List.mem_or_eq_of_mem_set hy with hy | rfl
    · exact h.keys.2.2 y hy
    · exact hs
theorem Br.kid (h : Br w B Y vk vd uk (.slice (some ⟨g, 0, none⟩) n cap) ks ds) (hn : n = ds.length) (i : Nat) (x : Int) : Br w B (Y.setCell ⟨g, i, none⟩ (.int .i64 x)) vk vd uk (.slice (some ⟨g, 0, none⟩) n cap) ks (ds.set i x) := by
  subst hn
  obtain ⟨hb, cur, hg⟩ := own_block h.kids.1
  refine ⟨(set_keeps hg h.pg (by decide)).trans h.pg, h.below.setCell (by show B ≤ g; omega) _, by simpa [World.setCell] using h.size, ⟨ownsB_block h.keys.1 (fun b cs fr hh => set_keeps hg hh (by decide)), h.keys.2⟩, ⟨?_, by simpa using h.kids.2⟩⟩
  have := ownsB_stored h.kids.1 i (.int .i64 x)
  rw [List.length_set]
  simpa [intCells, List.map_set] using this
theorem Br.hangs (h : Br w B Y vk vd uk ud ks ds) : Hangs Y (brP ks ds) (.slice none 0 0) uk ud (.slice none 0 0) (.slice none 0 0) :=
  ⟨items_nil _, h.keys.strs, h.kids.ints, text_nil_le, strs_nil _, frees_nil _⟩
end
end Go.Proofs.Ytojooegicbkmnaa
