/- A page that comes in as an argument, opened. -/
import Derived.Test.YtpionokcabjokaaGreatXNj
import Derived.ProofKit
import Derived.OpenShut
import Derived.ShutString
import Derived.ChangeOld
import Derived.Deep.Slices
namespace Go.Proofs.YtpionokcabjokaaGreat
open Go.ChangeShapes Go.WideShapes Go.ChangeAt Go.RowKit Go.Deep

section
variable {H : Type} {enc : TypeId × Value → H} {w : World} {base : Nat} {spare : Nat → Bool} {held : Bool}
def intIn : Value → Int | .int _ n => n | _ => 0
def textIn : Value → ByteArray | .string s => s | _ => ⟨#[]⟩
theorem cellsStr : Tryz.prog.cellsOf 9 = 1 := by kernel_rfl
theorem cellsInt : Tryz.prog.cellsOf 3 = 1 := by kernel_rfl
theorem cellsU64 : Tryz.prog.cellsOf 29 = 1 := by kernel_rfl
theorem cellsStrs : Tryz.prog.cellsOf 26 = 1 := by kernel_rfl
theorem cellsInts : Tryz.prog.cellsOf 23 = 1 := by kernel_rfl
theorem cellsItems : Tryz.prog.cellsOf 27 = 1 := by kernel_rfl
theorem cellsFrees : Tryz.prog.cellsOf 28 = 1 := by kernel_rfl
theorem cellsRoot : Tryz.prog.cellsOf 31 = 3 := by kernel_rfl
theorem cellsFree : Tryz.prog.cellsOf 74 = 2 := by kernel_rfl
theorem cellsItem : Tryz.prog.cellsOf 67 = 10 := by kernel_rfl
theorem cellsMeta : Tryz.prog.cellsOf 33 = 6 := by kernel_rfl
theorem cellsPage : Tryz.prog.cellsOf 35 = 14 := by kernel_rfl
theorem open_strs {n : Nat} {v : Value} {y : DataW H × List MemPlace} (h : DataW.trod enc Tryz.prog w base spare held n 26 [v] = some y) : ∃ l, StrsAt w v l := by
  rcases open_slice1 Tryz.underlying26 cellsStr h with ⟨hcs, _⟩ | ⟨x, l, c, m, n, V, D, Pl, hcs, _, hl, hm, hmm, _, hcell⟩
  · simp only [List.cons.injEq, and_true] at hcs
    subst hcs
    exact ⟨[], strs_nil w⟩
  · simp only [List.cons.injEq, and_true] at hcs
    subst hcs
    refine ⟨(List.range l).map fun i => textIn (V i), some x, c, by simp, ⟨by simp; omega, by simpa using hl⟩, fun i hi => ⟨x, rfl, ?_⟩⟩
    have hi' : i < l := by simpa using hi
    have hm' : i < m := by rw [hmm]; split <;> omega
    obtain ⟨hc, ht⟩ := hcell i hm'
    obtain ⟨y, hy, _, hsz⟩ := DataW.trod_string Tryz.underlying9 ht
    simp only [List.cons.injEq, and_true] at hy
    simp only [List.getElem_map, List.getElem_range]
    rw [hc, hy]
    exact ⟨rfl, hsz⟩
theorem open_ints {n : Nat} {v : Value} {y : DataW H × List MemPlace} (h : DataW.trod enc Tryz.prog w base spare held n 23 [v] = some y) : ∃ l, IntsAt w v l := by
  rcases open_slice1 Tryz.underlying23 cellsInt h with ⟨hcs, _⟩ | ⟨x, l, c, m, n, V, D, Pl, hcs, _, hl, hm, hmm, _, hcell⟩
  · simp only [List.cons.injEq, and_true] at hcs
    subst hcs
    exact ⟨[], ints_nil w⟩
  · simp only [List.cons.injEq, and_true] at hcs
    subst hcs
    refine ⟨(List.range l).map fun i => intIn (V i), some x, c, by simp, by simp; omega, fun i hi => ⟨x, rfl, ?_⟩⟩
    have hi' : i < l := by simpa using hi
    have hm' : i < m := by rw [hmm]; split <;> omega
    obtain ⟨hc, ht⟩ := hcell i hm'
    obtain ⟨y, hy, _, _⟩ := DataW.trod_int Tryz.underlying3 ht
    simp only [List.cons.injEq, and_true] at hy
    simp only [List.getElem_map, List.getElem_range]
    rw [hc, hy]
    rfl
theorem spot_none {a : Addr} {v : Value} (h : w.cell? a = some v) : a = ⟨a.block, a.off, none⟩ := by
  obtain ⟨b, o, s⟩ := a
  cases s with
  | none => rfl
  | some s =>
    unfold World.cell? at h
    split at h <;> simp at h
theorem fieldW {t : TypeId} {fs : Array Field} {fuel : Nat} {cs : List Value} {x : DataW H × List MemPlace} (ht : Tryz.prog.underlying t = some (.struct fs)) (h : DataW.trod enc Tryz.prog w base spare held fuel t cs = some x) (i : Nat) (f : Field) (hf : fs[i]? = some f) :
    ∃ n y, DataW.trod enc Tryz.prog w base spare held n f.type ((cs.drop f.offset).take (Tryz.prog.cellsOf f.type)) = some y := by
  obtain ⟨xs, n, _, _, _, hlen, hx⟩ := DataW.trod_struct ht h
  have hi : i < xs.length := by rw [hlen]; exact (Array.getElem?_eq_some_iff.1 hf).1
  exact ⟨n, xs[i], by rw [hx i f hf, List.getElem?_eq_getElem hi]⟩
theorem openInt {n : Nat} {c : Value} {y : DataW H × List MemPlace} (h : DataW.trod enc Tryz.prog w base spare held n 3 [c] = some y) : ∃ x, c = .int .i64 x := by
  obtain ⟨a, ea, _, _⟩ := DataW.trod_int Tryz.underlying3 h
  simp only [List.cons.injEq, and_true] at ea
  exact ⟨a, ea⟩
theorem openU64 {n : Nat} {c : Value} {y : DataW H × List MemPlace} (h : DataW.trod enc Tryz.prog w base spare held n 29 [c] = some y) : ∃ x, c = .int .u64 x ∧ 0 ≤ x ∧ x < 18446744073709551616 := by
  obtain ⟨a, ea, _, wa⟩ := DataW.trod_int Tryz.underlying29 h
  simp only [List.cons.injEq, and_true] at ea
  have := bounds_u64 wa
  exact ⟨a, ea, this.1, by omega⟩
theorem openStr {n : Nat} {c : Value} {y : DataW H × List MemPlace} (h : DataW.trod enc Tryz.prog w base spare held n 9 [c] = some y) : ∃ x, c = .string x ∧ x.size ≤ maxLen := by
  obtain ⟨a, ea, _, wa⟩ := DataW.trod_string Tryz.underlying9 h
  simp only [List.cons.injEq, and_true] at ea
  exact ⟨a, ea, wa⟩
set_option maxRecDepth 100000 in
theorem openRoot {n : Nat} {c0 c1 c2 : Value} {y : DataW H × List MemPlace} (h : DataW.trod enc Tryz.prog w base spare held n 31 [c0, c1, c2] = some y) :
    ∃ r : RootD, c0 = .int .i64 r.page ∧ c1 = .int .i64 r.count ∧ c2 = .int .i64 r.flags := by
  obtain ⟨_, _, h0⟩ := fieldW Tryz.underlying31 h 0 _ rfl
  obtain ⟨_, _, h1⟩ := fieldW Tryz.underlying31 h 1 _ rfl
  obtain ⟨_, _, h2⟩ := fieldW Tryz.underlying31 h 2 _ rfl
  simp only [cellsInt, List.getElem_toArray, List.getElem_cons_zero, List.getElem_cons_succ, List.drop, List.take] at h0 h1 h2
  obtain ⟨a, ha⟩ := openInt h0
  obtain ⟨b, hb⟩ := openInt h1
  obtain ⟨c, hc⟩ := openInt h2
  exact ⟨⟨a, b, c⟩, ha, hb, hc⟩
set_option maxRecDepth 100000 in
/-- One row of free numbers, of two cells. -/
theorem open_free {n : Nat} {c0 c1 : Value} {y : DataW H × List MemPlace} (h : DataW.trod enc Tryz.prog w base spare held n 74 [c0, c1] = some y) :
    ∃ f : FreeD, c0 = .int .u64 f.txn ∧ (0 ≤ f.txn ∧ f.txn < 18446744073709551616) ∧ IntsAt w c1 f.ids := by
  obtain ⟨_, _, h0⟩ := fieldW Tryz.underlying74 h 0 _ rfl
  obtain ⟨_, _, h1⟩ := fieldW Tryz.underlying74 h 1 _ rfl
  simp only [cellsU64, cellsInts, List.getElem_toArray, List.getElem_cons_zero, List.getElem_cons_succ, List.drop, List.take] at h0 h1
  obtain ⟨a, ha, ha'⟩ := openU64 h0
  obtain ⟨l, hl⟩ := open_ints h1
  exact ⟨⟨a, l⟩, ha, ha', hl⟩
set_option maxRecDepth 100000 in
/-- One item, of ten cells. -/
theorem open_item {n : Nat} {c0 c1 c2 c3 c4 c5 c6 c7 c8 c9 : Value} {y : DataW H × List MemPlace} (h : DataW.trod enc Tryz.prog w base spare held n 67 [c0, c1, c2, c3, c4, c5, c6, c7, c8, c9] = some y) :
    ∃ (x : ItemD) (u : Value), [c0, c1, c2, c3, c4, c5, c6, c7, c8, c9] = itemCells x u ∧ StrsAt w u x.vals ∧ x.key.size ≤ maxLen ∧ x.val.size ≤ maxLen := by
  obtain ⟨_, _, h0⟩ := fieldW Tryz.underlying67 h 0 _ rfl
  obtain ⟨_, _, h1⟩ := fieldW Tryz.underlying67 h 1 _ rfl
  obtain ⟨_, _, h2⟩ := fieldW Tryz.underlying67 h 2 _ rfl
  obtain ⟨_, _, h3⟩ := fieldW Tryz.underlying67 h 3 _ rfl
  obtain ⟨_, _, h4⟩ := fieldW Tryz.underlying67 h 4 _ rfl
  obtain ⟨_, _, h5⟩ := fieldW Tryz.underlying67 h 5 _ rfl
  obtain ⟨_, _, h6⟩ := fieldW Tryz.underlying67 h 6 _ rfl
  obtain ⟨_, _, h7⟩ := fieldW Tryz.underlying67 h 7 _ rfl
  simp only [cellsStr, cellsInt, cellsStrs, cellsRoot, List.getElem_toArray, List.getElem_cons_zero, List.getElem_cons_succ, List.drop, List.take] at h0 h1 h2 h3 h4 h5 h6 h7
  obtain ⟨a0, e0, s0⟩ := openStr h0
  obtain ⟨a1, e1⟩ := openInt h1
  obtain ⟨a2, e2, s2⟩ := openStr h2
  obtain ⟨a3, e3⟩ := openInt h3
  obtain ⟨a4, e4⟩ := openInt h4
  obtain ⟨a5, e5⟩ := open_strs h5
  obtain ⟨a6, e6⟩ := openInt h6
  obtain ⟨a7, e7, e8, e9⟩ := openRoot h7
  refine ⟨⟨a0, a1, a2, a3, a4, a5, a6, a7⟩, c5, ?_, e5, s0, s2⟩
  rw [e0, e1, e2, e3, e4, e6, e7, e8, e9]
  rfl
theorem cells_list2 {cs : List Value} (h : cs.length = 2) : ∃ c0 c1, cs = [c0, c1] := by
  match cs, h with
  | [c0, c1], _ => exact ⟨c0, c1, rfl⟩
theorem cells_list10 {cs : List Value} (h : cs.length = 10) : ∃ c0 c1 c2 c3 c4 c5 c6 c7 c8 c9, cs = [c0, c1, c2, c3, c4, c5, c6, c7, c8, c9] := by
  match cs, h with
  | [c0, c1, c2, c3, c4, c5, c6, c7, c8, c9], _ => exact ⟨c0, c1, c2, c3, c4, c5, c6, c7, c8, c9, rfl⟩
theorem add_off {b o n : Nat} : (Addr.mk b o none).add n = ⟨b, o + n, none⟩ := Addr.add_mid ..
theorem open_frees {n : Nat} {v : Value} {y : DataW H × List MemPlace} (h : DataW.trod enc Tryz.prog w base spare held n 28 [v] = some y) : ∃ l, FreesAt w v l ∧ ∀ f ∈ l, 0 ≤ f.txn ∧ f.txn < 18446744073709551616 := by
  rcases open_slice Tryz.underlying28 h with ⟨hcs, _⟩ | ⟨x, len, c, m, n, D, Pl, hcs, _, hl, hm, hmm, _, hcell⟩
  · simp only [List.cons.injEq, and_true] at hcs
    subst hcs
    exact ⟨[], frees_nil w, by simp⟩
  · simp only [List.cons.injEq, and_true] at hcs
    subst hcs
    rw [cellsFree] at hcell
    have hall : ∀ i, i < len → ∃ f : FreeD, (∃ b o u, x = ⟨b, o, none⟩ ∧ b < w.heap.size ∧ w.cell? ⟨b, o + i * 2, none⟩ = some (.int .u64 f.txn) ∧ w.cell? ⟨b, o + i * 2 + 1, none⟩ = some u ∧ IntsAt w u f.ids) ∧ 0 ≤ f.txn ∧ f.txn < 18446744073709551616 := by
      have hone : ∀ i, i < len → ∃ c0 c1, w.cell? (x.add (i * 2)) = some c0 ∧ w.cell? ((x.add (i * 2)).add 1) = some c1 ∧ ∃ f : FreeD, c0 = .int .u64 f.txn ∧ (0 ≤ f.txn ∧ f.txn < 18446744073709551616) ∧ IntsAt w c1 f.ids := by
        intro i hi
        have hm' : i < m := by rw [hmm]; split <;> omega
        obtain ⟨cs', h1, h2⟩ := hcell i hm'
        obtain ⟨_, hlen, hc⟩ := World.cells?_some h1
        obtain ⟨c0, c1, rfl⟩ := cells_list2 hlen
        exact ⟨c0, c1, by simpa [Addr.add] using hc 0 (by omega), by simpa using hc 1 (by omega), open_free h2⟩
      intro i hi
      obtain ⟨z0, _, hz, _⟩ := hone 0 (by omega)
      have hx : x = ⟨x.block, x.off, none⟩ := spot_none (by simpa [Addr.add] using hz)
      obtain ⟨c0, c1, g0, g1, f, e0, ht, hi2⟩ := hone i hi
      rw [hx, add_off] at g0 g1
      rw [add_off] at g1
      subst e0
      exact ⟨f, ⟨x.block, x.off, c1, hx, World.block_lt_of_cell? w ⟨x.block, x.off + i * 2, none⟩ g0, g0, g1, hi2⟩, ht⟩
    haveI : Inhabited FreeD := ⟨⟨0, []⟩⟩
    obtain ⟨F, hF⟩ := choose_lt (α := FreeD) (p := fun i f => (∃ b o u, x = ⟨b, o, none⟩ ∧ b < w.heap.size ∧ w.cell? ⟨b, o + i * 2, none⟩ = some (.int .u64 f.txn) ∧ w.cell? ⟨b, o + i * 2 + 1, none⟩ = some u ∧ IntsAt w u f.ids) ∧ 0 ≤ f.txn ∧ f.txn < 18446744073709551616) hall
    refine ⟨(List.range len).map F, ⟨some x, c, by simp, by simp; omega, fun i hi => ?_⟩, ?_⟩
    · have hi' : i < len := by simpa using hi
      obtain ⟨⟨b, o, u, e1, e2, e3, e4, e5⟩, _⟩ := hF i hi'
      simp only [List.getElem_map, List.getElem_range]
      exact ⟨b, o, u, by rw [e1], e2, e3, e4, e5⟩
    · intro f hf
      simp only [List.mem_map, List.mem_range] at hf
      obtain ⟨i, hi, rfl⟩ := hf
      exact (hF i hi).2
theorem open_items {n : Nat} {v : Value} {y : DataW H × List MemPlace} (h : DataW.trod enc Tryz.prog w base spare held n 27 [v] = some y) : ∃ l, ItemsAt w v l := by
  rcases open_slice Tryz.underlying27 h with ⟨hcs, _⟩ | ⟨x, len, c, m, n, D, Pl, hcs, _, hl, hm, hmm, _, hcell⟩
  · simp only [List.cons.injEq, and_true] at hcs
    subst hcs
    exact ⟨[], items_nil w⟩
  · simp only [List.cons.injEq, and_true] at hcs
    subst hcs
    rw [cellsItem] at hcell
    have hall : ∀ i, i < len → ∃ f : ItemD, ∃ b o u, x = ⟨b, o, none⟩ ∧ b < w.heap.size ∧ w.rangeAt b (o + i * 10) (itemCells f u) ∧ StrsAt w u f.vals ∧ f.key.size ≤ maxLen ∧ f.val.size ≤ maxLen := by
      have hone : ∀ i, i < len → ∃ (f : ItemD) (u : Value), (∀ j, j < 10 → w.cell? ((x.add (i * 10)).add j) = (itemCells f u)[j]?) ∧ StrsAt w u f.vals ∧ f.key.size ≤ maxLen ∧ f.val.size ≤ maxLen := by
        intro i hi
        have hm' : i < m := by rw [hmm]; split <;> omega
        obtain ⟨cs', h1, h2⟩ := hcell i hm'
        obtain ⟨_, hlen, hc⟩ := World.cells?_some h1
        obtain ⟨c0, c1, c2, c3, c4, c5, c6, c7, c8, c9, rfl⟩ := cells_list10 hlen
        obtain ⟨f, u, e, h3⟩ := open_item h2
        rw [e] at hc
        exact ⟨f, u, hc, h3⟩
      intro i hi
      obtain ⟨f0, u0, hz, _⟩ := hone 0 (by omega)
      have hz0 := hz 0 (by omega)
      have hx : x = ⟨x.block, x.off, none⟩ := spot_none (v := .string f0.key) (by simpa [Addr.add, itemCells] using hz0)
      obtain ⟨f, u, hc, h3⟩ := hone i hi
      rw [hx, add_off] at hc
      have hr : w.rangeAt x.block (x.off + i * 10) (itemCells f u) := by
        intro j v hj
        have hj10 : j < 10 := by
          rcases Nat.lt_or_ge j 10 with h | h
          · exact h
          · rw [List.getElem?_eq_none (by simp [itemCells]; omega)] at hj
            cases hj
        have := hc j hj10
        rw [add_off, hj] at this
        exact this
      exact ⟨f, x.block, x.off, u, hx, World.block_lt_of_cell? w ⟨x.block, x.off + i * 10, none⟩ (range10 hr).1, hr, h3⟩
    haveI : Inhabited ItemD := ⟨noItem⟩
    obtain ⟨F, hF⟩ := choose_lt (α := ItemD) (p := fun i f => ∃ b o u, x = ⟨b, o, none⟩ ∧ b < w.heap.size ∧ w.rangeAt b (o + i * 10) (itemCells f u) ∧ StrsAt w u f.vals ∧ f.key.size ≤ maxLen ∧ f.val.size ≤ maxLen) hall
    refine ⟨(List.range len).map F, some x, c, by simp, by simp; omega, fun i hi => ?_⟩
    have hi' : i < len := by simpa using hi
    obtain ⟨b, o, u, e1, e2, e3, e4⟩ := hF i hi'
    simp only [List.getElem_map, List.getElem_range]
    exact ⟨b, o, u, by rw [e1], e2, e3, e4⟩
theorem array14 {cs : Array Value} (h : cs.size = 14) : ∃ c0 c1 c2 c3 c4 c5 c6 c7 c8 c9 c10 c11 c12 c13, cs = #[c0, c1, c2, c3, c4, c5, c6, c7, c8, c9, c10, c11, c12, c13] := by
  obtain ⟨l⟩ := cs
  match l, h with
  | [c0, c1, c2, c3, c4, c5, c6, c7, c8, c9, c10, c11, c12, c13], _ => exact ⟨c0, c1, c2, c3, c4, c5, c6, c7, c8, c9, c10, c11, c12, c13, rfl⟩
set_option maxRecDepth 100000 in
/-- A page that came in: what it is, and what hangs on it. -/
theorem open_page {r : Reach} {b0 : Nat} {v : Value} {d : DataW H} {p : List MemPlace} (hv : Value.okWide Tryz.prog w r b0 35 v) (h : DataW.Trod enc Tryz.prog w base spare held 35 v d p) :
    ∃ (a : PageD) (vi vk vd vv vf : Value), v = .agg (pageCells a vi vk vd vv vf).toArray ∧ Hangs w a vi vk vd vv vf ∧ TxnOk a := by
  obtain ⟨cs, rfl, hsz⟩ := okWide_struct Tryz.underlying35 hv
  obtain ⟨c0, c1, c2, c3, c4, c5, c6, c7, c8, c9, c10, c11, c12, c13, rfl⟩ := array14 (hsz.trans cellsPage)
  obtain ⟨fuel, hf⟩ := h
  obtain ⟨_, _, h0⟩ := fieldW Tryz.underlying35 hf 0 _ rfl
  obtain ⟨_, _, h1⟩ := fieldW Tryz.underlying35 hf 1 _ rfl
  obtain ⟨_, _, h2⟩ := fieldW Tryz.underlying35 hf 2 _ rfl
  obtain ⟨_, _, h3⟩ := fieldW Tryz.underlying35 hf 3 _ rfl
  obtain ⟨_, _, h4⟩ := fieldW Tryz.underlying35 hf 4 _ rfl
  obtain ⟨_, _, h5⟩ := fieldW Tryz.underlying35 hf 5 _ rfl
  obtain ⟨_, _, h6⟩ := fieldW Tryz.underlying35 hf 6 _ rfl
  obtain ⟨_, _, h7⟩ := fieldW Tryz.underlying35 hf 7 _ rfl
  obtain ⟨_, _, h8⟩ := fieldW Tryz.underlying35 hf 8 _ rfl
  simp only [Value.cells, cellsInt, cellsItems, cellsStrs, cellsInts, cellsStr, cellsFrees, cellsMeta, List.getElem_toArray, List.getElem_cons_zero, List.getElem_cons_succ, List.drop, List.take] at h0 h1 h2 h3 h4 h5 h6 h7 h8
  obtain ⟨_, _, g0⟩ := fieldW Tryz.underlying33 h8 0 _ rfl
  obtain ⟨_, _, g1⟩ := fieldW Tryz.underlying33 h8 1 _ rfl
  obtain ⟨_, _, g2⟩ := fieldW Tryz.underlying33 h8 2 _ rfl
  obtain ⟨_, _, g3⟩ := fieldW Tryz.underlying33 h8 3 _ rfl
  simp only [cellsInt, cellsU64, cellsRoot, List.getElem_toArray, List.getElem_cons_zero, List.getElem_cons_succ, List.drop, List.take] at g0 g1 g2 g3
  obtain ⟨a0, e0⟩ := openInt h0
  obtain ⟨li, hi⟩ := open_items h1
  obtain ⟨lk, hk⟩ := open_strs h2
  obtain ⟨ld, hd⟩ := open_ints h3
  obtain ⟨at1, e4, s4⟩ := openStr h4
  obtain ⟨lv, hv5⟩ := open_strs h5
  obtain ⟨lf, hf6, htf⟩ := open_frees h6
  obtain ⟨an, e7⟩ := openInt h7
  obtain ⟨ax, e8, t0, t1⟩ := openU64 g0
  obtain ⟨ar, e9, e10, e11⟩ := openRoot g1
  obtain ⟨af, e12⟩ := openInt g2
  obtain ⟨al, e13⟩ := openInt g3
  subst e0 e4 e7 e8 e9 e10 e11 e12 e13
  exact ⟨⟨a0, li, lk, ld, at1, lv, lf, an, ⟨ax, ar, af, al⟩⟩, c1, c2, c3, c5, c6, rfl, ⟨hi, hk, hd, s4, hv5, hf6⟩, ⟨t0, t1⟩, htf⟩
end
end Go.Proofs.YtpionokcabjokaaGreat
