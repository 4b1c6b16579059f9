/- Slices of pages, of steps and of numbers that come in as arguments, opened, with how great they are. -/
import Derived.Test.YtpionokcabjokaaGreatZEq
import Derived.Test.YtpionokcabjokaaGreatZOp
import Derived.SizedLaws
namespace Go.Proofs.YtpionokcabjokaaGreat
open Go.ChangeShapes Go.WideShapes Go.ChangeAt Go.RowKit Go.Deep

/-- Pages one behind the other. -/
def PagesAt (w : World) (v : Value) (l : List PageD) : Prop :=
  ∃ ao cap, v = .slice ao l.length cap ∧ ∀ i (h : i < l.length), ∃ b o vi vk vd vv vg, ao = some ⟨b, o, none⟩ ∧ b < w.heap.size ∧ w.rangeAt b (o + i * 14) (pageCells l[i] vi vk vd vv vg) ∧ Hangs w l[i] vi vk vd vv vg ∧ TxnOk l[i] ∧ l[i].free.length ≤ 140737488355328
structure StepD8 where
  what : Int
  id : Int
  p : PageD
/-- Steps one behind the other. -/
def StepsAt8 (w : World) (v : Value) (l : List StepD8) : Prop :=
  ∃ ao cap, v = .slice ao l.length cap ∧ ∀ i (h : i < l.length), ∃ b o vi vk vd vv vg, ao = some ⟨b, o, none⟩ ∧ b < w.heap.size ∧ w.rangeAt b (o + i * 16) (.int .i64 l[i].what :: .int .i64 l[i].id :: pageCells l[i].p vi vk vd vv vg) ∧ Hangs w l[i].p vi vk vd vv vg ∧ TxnOk l[i].p ∧ InI l[i].id
def RowsV (w : World) (v : Value) (l : List Int) : Prop := ∃ ao cap, v = .slice ao l.length cap ∧ H.RowAt w ao cap l

section
variable {H : Type} {enc : TypeId × Value → H} {w : World} {base : Nat} {spare : Nat → Bool} {held : Bool}
theorem weights_in_all {P : Program} {e : TypeId} : ∀ {l : List (DataW H)} {d : DataW H}, d ∈ l → ∀ x ∈ d.weights P e, x ∈ DataW.weightsAll P e l
  | [], _, h, _, _ => by cases h
  | c :: l, d, h, x, hx => by
    rw [DataW.weightsAll, List.mem_append]
    rcases List.mem_cons.1 h with rfl | h'
    · exact .inl hx
    · exact .inr (weights_in_all h' x hx)
/-- No part of it is greater than may be. -/
def Fits (t : TypeId) (d : DataW H) : Prop := ∀ x ∈ d.weights Tryz.prog t, x ≤ reachBytes
theorem field_fits {t : TypeId} {fs : Array Field} {fuel : Nat} {cs : List Value} {x : DataW H × List MemPlace} (ht : Tryz.prog.underlying t = some (.struct fs)) (h : DataW.trod enc Tryz.prog w base spare held fuel t cs = some x) (hw : Fits t x.1) (i : Nat) (f : Field) (hf : fs[i]? = some f) :
    ∃ n y, DataW.trod enc Tryz.prog w base spare held n f.type ((cs.drop f.offset).take (Tryz.prog.cellsOf f.type)) = some y ∧ Fits f.type y.1 := by
  obtain ⟨xs, n, _, rfl, _, hlen, hx⟩ := DataW.trod_struct ht h
  have hi : i < xs.length := by rw [hlen]; exact (Array.getElem?_eq_some_iff.1 hf).1
  refine ⟨n, xs[i], by rw [hx i f hf, List.getElem?_eq_getElem hi], fun z hz => hw z ?_⟩
  simp only [DataW.weights, ht]
  refine DataW.weights_mem_each (j := i) (t := f.type) (d := xs[i].1) ?_ ?_ z hz
  · rw [List.getElem?_map, Array.getElem?_toList, hf]; rfl
  · rw [List.getElem?_map, List.getElem?_eq_getElem hi]; rfl
theorem slice_fits {t e : TypeId} {fuel : Nat} {cs : List Value} {x : DataW H × List MemPlace} (ht : Tryz.prog.underlying t = some (.slice e)) (h : DataW.trod enc Tryz.prog w base spare held fuel t cs = some x) (hw : Fits t x.1) :
    cs = [.slice none 0 0] ∨ ∃ (a : Addr) (len cap n : Nat), cs = [.slice (some a) len cap] ∧ len ≤ cap ∧ cap ≤ maxLen ∧ len * Tryz.prog.bytesOf e ≤ reachBytes ∧
      ∀ i, i < len → ∃ cs' y, w.cells? base (a.add (i * Tryz.prog.cellsOf e)) (Tryz.prog.cellsOf e) = some cs' ∧ DataW.trod enc Tryz.prog w base spare held n e cs' = some y ∧ Fits e y.1 := by
  rcases open_slice ht h with ⟨hcs, _⟩ | ⟨a, len, cap, m, n, D, Pl, hcs, _, hl, hm, hmm, rfl, hcell⟩
  · exact .inl hcs
  · refine .inr ⟨a, len, cap, n, hcs, hl, hm, ?_, fun i hi => ?_⟩
    · have := hw ((((List.range len).map D).length + ((List.range (m - len)).map fun j => D (len + j)).length) * Tryz.prog.bytesOf e) (by simp only [DataW.weights, ht]; exact List.mem_cons_self)
      simp only [List.length_map, List.length_range] at this
      exact Nat.le_trans (Nat.mul_le_mul_right _ (by omega)) this
    · have hm' : i < m := by rw [hmm]; split <;> omega
      obtain ⟨cs', h1, h2⟩ := hcell i hm'
      refine ⟨cs', _, h1, h2, fun z hz => hw z ?_⟩
      simp only [DataW.weights, ht]
      refine List.mem_cons_of_mem _ (List.mem_append_left _ (weights_in_all (d := D i) ?_ z hz))
      exact List.mem_map.2 ⟨i, List.mem_range.2 hi, rfl⟩
theorem bytesFree : Tryz.prog.bytesOf 74 = 32 := by kernel_rfl
theorem frees_few {n : Nat} {v : Value} {y : DataW H × List MemPlace} (h : DataW.trod enc Tryz.prog w base spare held n 28 [v] = some y) (hw : Fits 28 y.1) : ∃ ao len cap, v = .slice ao len cap ∧ len ≤ 140737488355328 := by
  rcases slice_fits Tryz.underlying28 h hw with hcs | ⟨a, len, cap, n, hcs, _, _, hb, _⟩
  · simp only [List.cons.injEq, and_true] at hcs
    exact ⟨none, 0, 0, hcs, by omega⟩
  · simp only [List.cons.injEq, and_true] at hcs
    rw [bytesFree] at hb
    have hr : reachBytes ≤ 140737488355328 := by decide
    exact ⟨some a, len, cap, hcs, by omega⟩
set_option maxRecDepth 100000 in
/-- A page's cells. -/
theorem open_pageC {n : Nat} {c0 c1 c2 c3 c4 c5 c6 c7 c8 c9 c10 c11 c12 c13 : Value} {y : DataW H × List MemPlace} (hf : DataW.trod enc Tryz.prog w base spare held n 35 [c0, c1, c2, c3, c4, c5, c6, c7, c8, c9, c10, c11, c12, c13] = some y) (hw : Fits 35 y.1) :
    ∃ (a : PageD) (vi vk vd vv vg : Value), [c0, c1, c2, c3, c4, c5, c6, c7, c8, c9, c10, c11, c12, c13] = pageCells a vi vk vd vv vg ∧ Hangs w a vi vk vd vv vg ∧ TxnOk a ∧ a.free.length ≤ 140737488355328 := by
  obtain ⟨_, _, h0⟩ := fieldW Tryz.underlying35 hf 0 _ rfl
  obtain ⟨_, _, h1⟩ := fieldW Tryz.underlying35 hf 1 _ rfl
  obtain ⟨_, _, h2⟩ := fieldW Tryz.underlying35 hf 2 _ rfl
  obtain ⟨_, _, h3⟩ := fieldW Tryz.underlying35 hf 3 _ rfl
  obtain ⟨_, _, h4⟩ := fieldW Tryz.underlying35 hf 4 _ rfl
  obtain ⟨_, _, h5⟩ := fieldW Tryz.underlying35 hf 5 _ rfl
  obtain ⟨_, _, h6, w6⟩ := field_fits Tryz.underlying35 hf hw 6 _ rfl
  obtain ⟨_, _, h7⟩ := fieldW Tryz.underlying35 hf 7 _ rfl
  obtain ⟨_, _, h8⟩ := fieldW Tryz.underlying35 hf 8 _ rfl
  simp only [cellsInt, cellsItems, cellsStrs, cellsInts, cellsStr, cellsFrees, cellsMeta, List.getElem_toArray, List.getElem_cons_zero, List.getElem_cons_succ, List.drop, List.take] at h0 h1 h2 h3 h4 h5 h6 h7 h8
  obtain ⟨_, _, g0⟩ := fieldW Tryz.underlying33 h8 0 _ rfl
  obtain ⟨_, _, g1⟩ := fieldW Tryz.underlying33 h8 1 _ rfl
  obtain ⟨_, _, g2⟩ := fieldW Tryz.underlying33 h8 2 _ rfl
  obtain ⟨_, _, g3⟩ := fieldW Tryz.underlying33 h8 3 _ rfl
  simp only [cellsInt, cellsU64, cellsRoot, List.getElem_toArray, List.getElem_cons_zero, List.getElem_cons_succ, List.drop, List.take] at g0 g1 g2 g3
  obtain ⟨a0, e0⟩ := openInt h0
  obtain ⟨li, hi⟩ := open_items h1
  obtain ⟨lk, hk⟩ := open_strs h2
  obtain ⟨ld, hd⟩ := open_ints h3
  obtain ⟨at1, e4, s4⟩ := openStr h4
  obtain ⟨lv, hv5⟩ := open_strs h5
  obtain ⟨lf, hf6, htf⟩ := open_frees h6
  obtain ⟨ao, len, cap, e6, hfew⟩ := frees_few h6 w6
  obtain ⟨an, e7⟩ := openInt h7
  obtain ⟨ax, e8, t0, t1⟩ := openU64 g0
  obtain ⟨ar, e9, e10, e11⟩ := openRoot g1
  obtain ⟨af, e12⟩ := openInt g2
  obtain ⟨al, e13⟩ := openInt g3
  subst e0 e4 e7 e8 e9 e10 e11 e12 e13
  have hlen : lf.length = len := by
    obtain ⟨_, _, e, _⟩ := hf6
    rw [e6] at e
    simp only [Value.slice.injEq] at e
    omega
  exact ⟨⟨a0, li, lk, ld, at1, lv, lf, an, ⟨ax, ar, af, al⟩⟩, c1, c2, c3, c5, c6, rfl, ⟨hi, hk, hd, s4, hv5, hf6⟩, ⟨⟨t0, t1⟩, htf⟩, by simp only; omega⟩
theorem cells_list14 {cs : List Value} (h : cs.length = 14) : ∃ c0 c1 c2 c3 c4 c5 c6 c7 c8 c9 c10 c11 c12 c13, cs = [c0, c1, c2, c3, c4, c5, c6, c7, c8, c9, c10, c11, c12, c13] := by
  match cs, h with
  | [c0, c1, c2, c3, c4, c5, c6, c7, c8, c9, c10, c11, c12, c13], _ => exact ⟨c0, c1, c2, c3, c4, c5, c6, c7, c8, c9, c10, c11, c12, c13, rfl⟩
theorem cells_list16 {cs : List Value} (h : cs.length = 16) : ∃ d0 d1 c0 c1 c2 c3 c4 c5 c6 c7 c8 c9 c10 c11 c12 c13, cs = [d0, d1, c0, c1, c2, c3, c4, c5, c6, c7, c8, c9, c10, c11, c12, c13] := by
  match cs, h with
  | [d0, d1, c0, c1, c2, c3, c4, c5, c6, c7, c8, c9, c10, c11, c12, c13], _ => exact ⟨d0, d1, c0, c1, c2, c3, c4, c5, c6, c7, c8, c9, c10, c11, c12, c13, rfl⟩
theorem cellsStep8 : Tryz.prog.cellsOf 43 = 16 := by kernel_rfl
/-- Cells one behind the other are a range. -/
theorem range_of_cells {x : Addr} {i sz : Nat} {cs : List Value} (hx : x = ⟨x.block, x.off, none⟩) (hlen : cs.length = sz) (hc : ∀ j, j < sz → w.cell? ((x.add (i * sz)).add j) = cs[j]?) : w.rangeAt x.block (x.off + i * sz) cs := by
  intro j v hj
  have hj2 : j < sz := by
    rcases Nat.lt_or_ge j sz with h | h
    · exact h
    · rw [List.getElem?_eq_none (by omega)] at hj
      cases hj
  have := hc j hj2
  rw [hx, add_off, add_off, hj] at this
  exact this
theorem open_pages8 {n : Nat} {v : Value} {d : DataW H} {p : List MemPlace} (h : DataW.trod enc Tryz.prog w base spare held n 22 [v] = some (d, p)) (hw : Fits 22 d) : ∃ l, PagesAt w v l := by
  rcases slice_fits Tryz.underlying22 h hw with hcs | ⟨x, len, cap, n, hcs, hl, hm, _, hcell⟩
  · simp only [List.cons.injEq, and_true] at hcs
    subst hcs
    exact ⟨[], none, 0, rfl, fun i hi => absurd hi (by simp)⟩
  · simp only [List.cons.injEq, and_true] at hcs
    subst hcs
    rw [cellsPage] at hcell
    have hone : ∀ i, i < len → ∃ (f : PageD) (vi vk vd vv vg : Value), (∀ j, j < 14 → w.cell? ((x.add (i * 14)).add j) = (pageCells f vi vk vd vv vg)[j]?) ∧ Hangs w f vi vk vd vv vg ∧ TxnOk f ∧ f.free.length ≤ 140737488355328 := by
      intro i hi
      obtain ⟨cs', y, h1, h2, h3⟩ := hcell i hi
      obtain ⟨_, hlen, hc⟩ := World.cells?_some h1
      obtain ⟨c0, c1, c2, c3, c4, c5, c6, c7, c8, c9, c10, c11, c12, c13, rfl⟩ := cells_list14 hlen
      obtain ⟨f, vi, vk, vd, vv, vg, e, h4⟩ := open_pageC h2 h3
      rw [e] at hc
      exact ⟨f, vi, vk, vd, vv, vg, hc, h4⟩
    have hall : ∀ i, i < len → ∃ f : PageD, ∃ b o vi vk vd vv vg, x = ⟨b, o, none⟩ ∧ b < w.heap.size ∧ w.rangeAt b (o + i * 14) (pageCells f vi vk vd vv vg) ∧ Hangs w f vi vk vd vv vg ∧ TxnOk f ∧ f.free.length ≤ 140737488355328 := by
      intro i hi
      obtain ⟨f0, _, _, _, _, _, hz, _⟩ := hone 0 (by omega)
      have hz0 := hz 0 (by omega)
      have hx : x = ⟨x.block, x.off, none⟩ := spot_none (v := .int .i64 f0.kind) (by simpa [Addr.add, pageCells] using hz0)
      obtain ⟨f, vi, vk, vd, vv, vg, hc, h3⟩ := hone i hi
      have hr := range_of_cells hx (by simp [pageCells]) hc
      have hb := hr 0 (.int .i64 f.kind) (by simp [pageCells])
      exact ⟨f, x.block, x.off, vi, vk, vd, vv, vg, hx, World.block_lt_of_cell? w ⟨x.block, x.off + i * 14 + 0, none⟩ hb, hr, h3⟩
    haveI : Inhabited PageD := ⟨noPage⟩
    obtain ⟨F, hF⟩ := choose_lt (α := PageD) (p := fun i f => ∃ b o vi vk vd vv vg, x = ⟨b, o, none⟩ ∧ b < w.heap.size ∧ w.rangeAt b (o + i * 14) (pageCells f vi vk vd vv vg) ∧ Hangs w f vi vk vd vv vg ∧ TxnOk f ∧ f.free.length ≤ 140737488355328) hall
    refine ⟨(List.range len).map F, some x, cap, by simp, fun i hi => ?_⟩
    have hi' : i < len := by simpa using hi
    obtain ⟨b, o, vi, vk, vd, vv, vg, e1, e2⟩ := hF i hi'
    simp only [List.getElem_map, List.getElem_range]
    exact ⟨b, o, vi, vk, vd, vv, vg, by rw [e1], e2⟩
set_option maxRecDepth 100000 in
theorem open_steps8 {n : Nat} {v : Value} {d : DataW H} {p : List MemPlace} (h : DataW.trod enc Tryz.prog w base spare held n 24 [v] = some (d, p)) (hw : Fits 24 d) : ∃ l, StepsAt8 w v l := by
  rcases slice_fits Tryz.underlying24 h hw with hcs | ⟨x, len, cap, n, hcs, hl, hm, _, hcell⟩
  · simp only [List.cons.injEq, and_true] at hcs
    subst hcs
    exact ⟨[], none, 0, rfl, fun i hi => absurd hi (by simp)⟩
  · simp only [List.cons.injEq, and_true] at hcs
    subst hcs
    rw [cellsStep8] at hcell
    have hone : ∀ i, i < len → ∃ (f : StepD8) (vi vk vd vv vg : Value), (∀ j, j < 16 → w.cell? ((x.add (i * 16)).add j) = (.int .i64 f.what :: .int .i64 f.id :: pageCells f.p vi vk vd vv vg)[j]?) ∧ Hangs w f.p vi vk vd vv vg ∧ TxnOk f.p ∧ InI f.id := by
      intro i hi
      obtain ⟨cs', y, h1, h2, h3⟩ := hcell i hi
      obtain ⟨_, hlen, hc⟩ := World.cells?_some h1
      obtain ⟨d0, d1, c0, c1, c2, c3, c4, c5, c6, c7, c8, c9, c10, c11, c12, c13, rfl⟩ := cells_list16 hlen
      obtain ⟨_, _, k0⟩ := fieldW Tryz.underlying43 h2 0 _ rfl
      obtain ⟨_, _, k1⟩ := fieldW Tryz.underlying43 h2 1 _ rfl
      obtain ⟨_, _, k2, w2⟩ := field_fits Tryz.underlying43 h2 h3 2 _ rfl
      simp only [cellsInt, cellsPage, List.getElem_toArray, List.getElem_cons_zero, List.getElem_cons_succ, List.drop, List.take] at k0 k1 k2
      obtain ⟨z0, e0⟩ := openInt k0
      obtain ⟨z1, e1, _, hz1⟩ := DataW.trod_int Tryz.underlying3 k1
      simp only [List.cons.injEq, and_true] at e1
      have hb1 := bounds_i64 hz1
      obtain ⟨f, vi, vk, vd, vv, vg, e, h4, h5, _⟩ := open_pageC k2 w2
      subst e0 e1
      rw [e] at hc
      exact ⟨⟨z0, z1, f⟩, vi, vk, vd, vv, vg, hc, h4, h5, by (show -9223372036854775808 ≤ z1 ∧ z1 < 9223372036854775808); omega⟩
    have hall : ∀ i, i < len → ∃ f : StepD8, ∃ b o vi vk vd vv vg, x = ⟨b, o, none⟩ ∧ b < w.heap.size ∧ w.rangeAt b (o + i * 16) (.int .i64 f.what :: .int .i64 f.id :: pageCells f.p vi vk vd vv vg) ∧ Hangs w f.p vi vk vd vv vg ∧ TxnOk f.p ∧ InI f.id := by
      intro i hi
      obtain ⟨f0, _, _, _, _, _, hz, _⟩ := hone 0 (by omega)
      have hz0 := hz 0 (by omega)
      have hx : x = ⟨x.block, x.off, none⟩ := spot_none (v := .int .i64 f0.what) (by simpa [Addr.add] using hz0)
      obtain ⟨f, vi, vk, vd, vv, vg, hc, h3⟩ := hone i hi
      have hr := range_of_cells hx (by simp [pageCells]) hc
      have hb := hr 0 (.int .i64 f.what) (by simp)
      exact ⟨f, x.block, x.off, vi, vk, vd, vv, vg, hx, World.block_lt_of_cell? w ⟨x.block, x.off + i * 16 + 0, none⟩ hb, hr, h3⟩
    haveI : Inhabited StepD8 := ⟨⟨0, 0, noPage⟩⟩
    obtain ⟨F, hF⟩ := choose_lt (α := StepD8) (p := fun i f => ∃ b o vi vk vd vv vg, x = ⟨b, o, none⟩ ∧ b < w.heap.size ∧ w.rangeAt b (o + i * 16) (.int .i64 f.what :: .int .i64 f.id :: pageCells f.p vi vk vd vv vg) ∧ Hangs w f.p vi vk vd vv vg ∧ TxnOk f.p ∧ InI f.id) hall
    refine ⟨(List.range len).map F, some x, cap, by simp, fun i hi => ?_⟩
    have hi' : i < len := by simpa using hi
    obtain ⟨b, o, vi, vk, vd, vv, vg, e1, e2⟩ := hF i hi'
    simp only [List.getElem_map, List.getElem_range]
    exact ⟨b, o, vi, vk, vd, vv, vg, by rw [e1], e2⟩
end
section
variable {K : Type} {enc : TypeId × Value → K} {w : World} {base : Nat} {held : Bool}
theorem open_rows8 {n : Nat} {v : Value} {y : DataW K × List MemPlace} (h : DataW.trod enc Tryz.prog w base (fun _ => true) held n 23 [v] = some y) : ∃ l, RowsV w v l := by
  rcases open_slice1 Tryz.underlying23 cellsInt h with ⟨hcs, _⟩ | ⟨x, l, c, m, n, V, D, Pl, hcs, _, hl, hm, hmm, _, hcell⟩
  · simp only [List.cons.injEq, and_true] at hcs
    subst hcs
    exact ⟨[], none, 0, rfl, H.RowAt.nil w⟩
  · simp only [List.cons.injEq, and_true] at hcs
    subst hcs
    have hmc : m = c := by simpa using hmm
    have hsp : 0 < c → x = ⟨x.block, x.off, none⟩ := by
      intro h0
      have h1 := spot_none (hcell 0 (by omega)).1
      rw [show x.add 0 = x by simp [Addr.add]] at h1
      exact h1
    have hv : ∀ i, i < l → ∃ z, V i = .int .i64 z := by
      intro i hi
      obtain ⟨hc, ht⟩ := hcell i (by omega)
      exact openInt ht
    refine ⟨(List.range l).map fun i => intIn (V i), some x, c, by simp, ⟨by simp; omega, (fun e => by cases e), (fun a e h0 => ?_), fun i hi => ?_⟩⟩
    · simp only [Option.some.injEq] at e
      subst e
      exact ⟨_, _, hsp h0⟩
    · have hi' : i < l := by simpa using hi
      have hx := hsp (by omega)
      obtain ⟨z, hz⟩ := hv i hi'
      refine ⟨x.block, x.off, by rw [← hx], ?_⟩
      have hc := (hcell i (by omega)).1
      rw [hx, Addr.add_mid] at hc
      rw [hc, hz]
      simp [List.getD, hi', hz, intIn]
end
end Go.Proofs.YtpionokcabjokaaGreat
