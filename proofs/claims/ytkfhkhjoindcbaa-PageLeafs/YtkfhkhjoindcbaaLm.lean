/- PageLeafs: the rows of keys. -/
import Derived.Test.YtkfhkhjoindcbaaKc
import Derived.Test.YtkfhkhjoindcbaaBc
import Derived.RegionTactic
import Derived.ChangeAlike
namespace Go.Proofs.Ytkfhkhjoindcbaa
open Go.RowKit Go.Sort

/-- An item with this key and nothing else. -/
def keyI (s : ByteArray) : ItemD := ⟨s, 1, ⟨#[]⟩, 0, 0, [], 0, ⟨0, 0, 0⟩⟩
def keyC (s : ByteArray) : List Value := [.string s, .int .i64 1, .string ⟨#[]⟩, .int .i64 0, .int .i64 0, .slice none 0 0, .int .i64 0, .int .i64 0, .int .i64 0, .int .i64 0]
def rowC (l : List ByteArray) : List Value := (l.map keyC).flatten
/-- The i-th key. -/
def keyN (i : Nat) : ByteArray := bs [107, UInt8.ofNat (97 + i)]
def keysN (k : Nat) : List ByteArray := (List.range k).map keyN
theorem keysN_length (k : Nat) : (keysN k).length = k := by simp [keysN]
theorem keysN_succ (k : Nat) : keysN (k + 1) = keysN k ++ [keyN k] := by simp [keysN, List.range_succ]
theorem rowC_snoc (l : List ByteArray) (s : ByteArray) : rowC (l ++ [s]) = rowC l ++ keyC s := by simp [rowC]
theorem rowC_length (l : List ByteArray) : (rowC l).length = l.length * 10 := by
  induction l with
  | nil => rfl
  | cons a l ih => simp [rowC, keyC] at ih ⊢; omega
def leafCs (v : Value) : Array Value := #[.int .i64 1, v, .slice none 0 0, .slice none 0 0, .string ⟨#[]⟩, .slice none 0 0, .slice none 0 0, .int .i64 0, .int .u64 0, .int .i64 0, .int .i64 0, .int .i64 0, .int .i64 0, .int .i64 0]
/-- The page in block B. -/
structure Lf (w : World) (B : Nat) (W : World) (v : Value) : Prop where
  pg : W.heap[B]? = some (.cells (leafCs v) 32 (0, 0))
  below : Below B w W
  size : B + 1 ≤ W.heap.size
theorem Lf.alloc {w W : World} {B : Nat} {v : Value} (h : Lf w B W v) (o : Obj) : Lf w B (W.alloc o) v := by
  have hs := h.size
  exact ⟨(Below.heap_alloc _ _ _ (by omega)).trans h.pg, h.below.alloc (by omega) o, by simp; omega⟩
theorem Lf.row {w W W' : World} {B : Nat} {v : Value} {row : Option Nat} (h : Lf w B W v) (hg : W.grownBy W' row) (hr : ∀ k, row = some k → B + 1 ≤ k) : Lf w B W' v := by
  have hs := h.size
  exact ⟨(hg.block B (by omega) (fun e => by have := hr B e.symm; omega)).trans h.pg, h.below.grown hg (by omega) (fun k hk => by have := hr k hk; omega), by have := hg.size; omega⟩
theorem Lf.set {w W : World} {B : Nat} {v : Value} (h : Lf w B W v) (u : Value) : Lf w B (W.setCell ⟨B, 1, none⟩ u) u := by
  refine ⟨?_, h.below.setCell (Nat.le_refl _) u, by simpa [World.setCell] using h.size⟩
  rw [heap_setCell_same W B 1 _ _ _ h.pg]
  rfl
theorem Lf.drew {w W : World} {B : Nat} {v : Value} (h : Lf w B W v) : Lf w B W.drew v := ⟨h.pg, ⟨h.below.os, h.below.tape, h.below.output, h.below.size, h.below.block⟩, h.size⟩
/-- A row of items of the call's own. -/
def OwnKeys (w : World) (base : Nat) (v : Value) (l : List ByteArray) : Prop := w.ownsRow base 47 10 v l.length (rowC l)
theorem OwnKeys.slice {w : World} {base : Nat} {v : Value} {l : List ByteArray} (h : OwnKeys w base v l) : ∃ ao n cap, v = .slice ao n cap := by
  rcases h.2 with ⟨rfl, _⟩ | ⟨g, cap, cur, rfl, _⟩
  · exact ⟨_, _, _, rfl⟩
  · exact ⟨_, _, _, rfl⟩
theorem heap_new2 (w : World) (o1 o2 : Obj) : ((w.alloc o1).alloc o2).heap[w.heap.size + 1]? = some o2 := by
  have := heap_newL (w.alloc o1) o2
  simpa only [World.size_alloc] using this
/-- One byte as a string. -/
theorem conv_one (W : World) (g : Nat) (c : UInt8) (h : W.cell? ⟨g, 0, none⟩ = some (.int .u8 (c.toNat : Int))) : (convert 42 9 (.slice (some ⟨g, 0, none⟩) 1 1)).run Try.prog W = .ok (.string (bs [c])) W :=
  run_convert_bytes_back W 42 9 5 ⟨g, 0, none⟩ 1 [c] Try.underlying42 Try.underlying5 Try.underlying9 (fun j hj => by
    have : j = 0 := by simpa using hj
    subst this
    simpa [Addr.add] using h)

theorem owns_stored {w : World} {base : Nat} {e : TypeId} {size g n cap : Nat} {xs : List Value} (h : w.ownsRow base e size (.slice (some ⟨g, 0, none⟩) n cap) n xs) (i : Nat) (u : Value) : (w.setCell ⟨g, i, none⟩ u).ownsRow base e size (.slice (some ⟨g, 0, none⟩) n cap) n (xs.set i u) := by
  obtain ⟨h1, h2⟩ := h
  refine ⟨by simpa using h1, ?_⟩
  rcases h2 with ⟨hv, _⟩ | ⟨g', cap', cur, hv, hb, hg, hn, hc, hs, ht⟩
  · cases hv
  · simp only [Value.slice.injEq, Option.some.injEq, Addr.mk.injEq, true_and, and_true] at hv
    obtain ⟨rfl, rfl⟩ := hv
    refine .inr ⟨g, cap, cur.setIfInBounds i u, rfl, hb, heap_setCell_same w g i cur e u hg, hn, hc, by simpa using hs, ?_⟩
    rw [Array.toList_setIfInBounds, List.take_set, ht]
theorem rowC_last (l : List ByteArray) (x s : ByteArray) : (rowC (l ++ [x])).set (l.length * 10) (.string s) = rowC (l ++ [s]) := by
  rw [rowC_snoc, rowC_snoc, List.set_append_right _ _ (by rw [rowC_length]; omega), rowC_length, Nat.sub_self]
  rfl
theorem OwnKeys.drew {w : World} {base : Nat} {v : Value} {l : List ByteArray} (h : OwnKeys w base v l) : OwnKeys w.drew base v l := h
theorem rowC_key (l : List ByteArray) (i : Nat) (h : i < l.length) : (rowC l)[i * 10]? = some (.string l[i]) := by
  unfold rowC
  have := flatten_at 10 (l.map keyC) i 0 (fun r hr => by obtain ⟨k, _, rfl⟩ := List.mem_map.1 hr; rfl) (by simpa using h) (by omega)
  rw [Nat.add_zero] at this
  rw [this]
  simp [keyC]
/-- So many letters z. -/
def zs (m : Nat) : ByteArray := bs (List.replicate m 122)
theorem zs_size (m : Nat) : (zs m).size = m := by simp [zs, bs_size]
theorem zs_succ (m : Nat) : zs m ++ ⟨#[122]⟩ = zs (m + 1) := by
  unfold zs
  rw [show (⟨#[122]⟩ : ByteArray) = bs [122] from rfl, bs_append, List.replicate_succ']
def strLen : Value → Nat
  | .string b => b.size
  | _ => 0
def leafK (l : List ByteArray) : PageD := { noPage with kind := 1, items := l.map keyI }
theorem leafK_txn (l : List ByteArray) : TxnOk (leafK l) := ⟨by simp [leafK, noPage], by simp [leafK, noPage]⟩
theorem rowC_items (l : List ByteArray) : itemRows (l.map keyI) (List.replicate l.length (.slice none 0 0)) = rowC l := by
  induction l with
  | nil => rfl
  | cons a l ih =>
    simp only [List.map_cons, List.length_cons, List.replicate_succ, itemRows, List.zipWith_cons_cons, List.flatten_cons, rowC] at ih ⊢
    rw [ih]
    rfl
theorem OwnKeys.hangs {W : World} {B : Nat} {v : Value} {l : List ByteArray} (h : OwnKeys W B v l) (hl : l.length ≤ 1000) (hs : ∀ x ∈ l, x.size ≤ 65535) : Hangs W (leafK l) v (.slice none 0 0) (.slice none 0 0) (.slice none 0 0) (.slice none 0 0) := by
  have ho : OwnItems W B v (l.map keyI) := by
    refine ⟨by simpa using hl, ?_, List.replicate l.length (.slice none 0 0), by simp, ?_, fun i h1 h2 => ?_⟩
    · intro x hx
      obtain ⟨k, hk, rfl⟩ := List.mem_map.1 hx
      exact ⟨hs k hk, by show (⟨#[]⟩ : ByteArray).size ≤ 65535; decide⟩
    · rw [rowC_items, List.length_map]
      exact h
    · simp only [List.getElem_replicate, List.getElem_map, keyI]
      exact ownStrs_nil _ _
  exact ⟨ho.items, strs_nil _, ints_nil _, text_nil_le, strs_nil _, frees_nil _⟩
theorem is_c0 : isPB (leafK []) = false := by decide +kernel
theorem is_c1 : ∀ a, a < 6 → ∀ m, m < 12 → isPB (leafK (keysN a ++ [zs m])) = (decide (a < 4) && decide (1 ≤ m) && decide (m ≤ 8)) := by decide +kernel
theorem is_c2 : ∀ a, a < 5 → isPB (leafK (keysN (a + 1) ++ [keyN a])) = false := by decide +kernel
end Go.Proofs.Ytkfhkhjoindcbaa
