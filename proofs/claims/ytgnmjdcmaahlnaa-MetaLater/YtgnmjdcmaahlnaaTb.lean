/- Contract of package meta's latest: what lies in a channel of two at most. -/
import Derived.Test.YtgnmjdcmaahlnaaTa
namespace Go.Proofs.Ytgnmjdcmaahlnaa
open Go.RowKit Go.Sort Go.Conc

/-- Of these metas, one behind the other, the last one that is later than those ahead of it. -/
def pickM : List MetaD → MetaD × Bool
  | [] => (noMeta, false)
  | [m] => (m, true)
  | m :: n :: _ => (if m.txn < n.txn then n else m, true)
def errM (t : Bool) : Value := if t then .nilIface else .iface 34 (.int .i64 12)

def zeros : Array Value := #[.int .u64 0, .int .i64 0, .int .i64 0, .int .i64 0, .int .i64 0, .int .i64 0]
/-- The channel in block c, the result's place in R, the meta so far in L. -/
structure InL (w W : World) (c R L : Nat) (l : List Value) (cs : Array Value) (s r : Nat) : Prop where
  chan : W.heap[c]? = some (.chan 2 l.toArray false s r false)
  res : W.heap[R]? = some (.cells zeros 26 (0, 0))
  last : W.heap[L]? = some (.cells cs 26 (0, 0))
  grown : w.grownBy W (some c)
  hc : c < w.heap.size
  hR : w.heap.size = R
  hL : R + 1 = L
  hLs : L < W.heap.size
theorem lt_of_chan {w : World} {c cap s r : Nat} {buf : Array Value} {cl tm : Bool} (h : w.heap[c]? = some (.chan cap buf cl s r tm)) : c < w.heap.size := by
  rcases Nat.lt_or_ge c w.heap.size with h' | h'
  · exact h'
  · simp [Array.getElem?_eq_none h'] at h
theorem inL_start {w : World} {c s r : Nat} {l : List Value} (h : w.heap[c]? = some (.chan 2 l.toArray false s r false)) :
    InL w ((w.alloc (.cells zeros 26)).alloc (.cells zeros 26)) c w.heap.size (w.heap.size + 1) l zeros s r := by
  have hlt := lt_of_chan h
  refine ⟨?_, ?_, ?_, ?_, hlt, rfl, rfl, by simp⟩
  · rw [Below.heap_alloc _ _ _ (by simp; omega), Below.heap_alloc _ _ _ hlt, h]
  · rw [Below.heap_alloc _ _ _ (by simp), heap_newL]
  · have := heap_newL (w.alloc (.cells zeros 26)) (.cells zeros 26)
    simpa only [World.size_alloc] using this
  · exact grown_new (grown_new (grown_refl w (some c)) _) _
/-- The first loop in a text. -/
def loopIn : Code → Option Code
  | .loop c => some c
  | .seq a b => (loopIn a).or (loopIn b)
  | .block _ c => loopIn c
  | _ => none
/-- The first loop of a function. -/
def lcOf (f : Func) : Code := (f.body.bind loopIn).getD .skip
def metaC (m : MetaD) : Array Value := #[.int .u64 m.txn, .int .i64 m.main.page, .int .i64 m.main.count, .int .i64 m.main.flags, .int .i64 m.free, .int .i64 m.last]
/-- The frame at a round's beginning. -/
def act14 (c R L : Nat) (E t6 t7 t8 t9 t10 t11 t12 t13 t14 t15 t16 t17 t18 t19 t20 t21 t22 t23 t24 : Value) : Act := ⟨#[.chan (some c), undef, .pointer (some ⟨R, 0, none⟩), .nilIface, .pointer (some ⟨L, 0, none⟩), E, t6, t7, t8, t9, t10, t11, t12, t13, t14, t15, t16, t17, t18, t19, t20, t21, t22, t23, t24], []⟩
def Post14 (w : World) (c : Nat) (m : MetaD) (E : Value) : Exit → Act → World → Prop := bodyPost Try.prog Try.f14 fun e w' => e = .returned (.tuple #[metaA m, E]) ∧ w.grownBy w' (some c)

theorem set6 {w : World} {b : Nat} {T : TypeId} {c0 c1 c2 c3 c4 c5 : Value} (h : w.heap[b]? = some (.cells #[c0, c1, c2, c3, c4, c5] T (0, 0))) (d0 d1 d2 d3 d4 d5 : Value) :
    ((((((w.setCell ⟨b, 0, none⟩ d0).setCell ⟨b, 1, none⟩ d1).setCell ⟨b, 2, none⟩ d2).setCell ⟨b, 3, none⟩ d3).setCell ⟨b, 4, none⟩ d4).setCell ⟨b, 5, none⟩ d5).heap[b]? = some (.cells #[d0, d1, d2, d3, d4, d5] T (0, 0)) := by
  have h0 := heap_setCell_same w b 0 _ T d0 h
  have h1 := heap_setCell_same _ b 1 _ T d1 h0
  have h2 := heap_setCell_same _ b 2 _ T d2 h1
  have h3 := heap_setCell_same _ b 3 _ T d3 h2
  have h4 := heap_setCell_same _ b 4 _ T d4 h3
  have h5 := heap_setCell_same _ b 5 _ T d5 h4
  simpa using h5

set_option maxHeartbeats 4000000 in
/-- Nothing lies ready: what there is so far is the answer. -/
theorem round_none (K : Act → World → Prop) (w W : World) (c R L s r : Nat) (m : MetaD) (E : Value) (hE : E = .nilIface ∨ E = .iface 34 (.int .i64 12)) (HI : InL w W c R L [] (metaC m) s r) (t6 t7 t8 t9 t10 t11 t12 t13 t14 t15 t16 t17 t18 t19 t20 t21 t22 t23 t24 : Value) :
    (lcOf Try.f14).wp Try.prog (Exit.then K (Exit.inBlock 0 (Post14 w c m E))) (act14 c R L E t6 t7 t8 t9 t10 t11 t12 t13 t14 t15 t16 t17 t18 t19 t20 t21 t22 t23 t24) W := by
  have cL := cell_rowL HI.last
  have cR := cell_rowL HI.res
  unfold zeros at cR
  have fR := frozen_rowL HI.res
  have hRL : R < L := by have := HI.hL; omega
  replace HI := hid HI
  obtain ⟨m1, ⟨m2, m3, m4⟩, m5, m6⟩ := m
  unfold act14 lcOf
  simp only [metaC] at cL
  simp only [Try.f14, loopIn, Option.bind_some, Option.none_or, Option.getD_some]
  unfold Post14
  rcases hE with rfl | rfl
  all_goals
    iterate 11 go_step
    refine wp_none (c := c) (z := .agg #[.int .u64 0, .int .i64 0, .int .i64 0, .int .i64 0, .int .i64 0, .int .i64 0]) ?_ HI.out.chan ?_
    · simp [go_sem, execOp, rcase, Act.eval]
    simp only [goInt]
    go_simp
    go_wp2
    refine bodyPost_ret (v := .tuple #[.agg #[.int .u64 m1, .int .i64 m2, .int .i64 m3, .int .i64 m4, .int .i64 m5, .int .i64 m6], _]) (by simp [results, Try.results14, go_sem, cR]) rfl ⟨rfl, ?_⟩
    have hR := HI.out.hR
    have HG := HI.out.grown
    repeat (refine grown_set ?_ R _ (Nat.le_of_eq hR) _)
    exact HG

/-- Behind a receive. -/
theorem InL.got {w W : World} {c R L s r : Nat} {v : Value} {l : List Value} {cs : Array Value} (HI : InL w W c R L (v :: l) cs s r) : InL w (W.setChan c 2 l.toArray false s (r + 1) false) c R L l cs s (r + 1) := by
  obtain ⟨h1, h2, h3, h4, h5, h6, h7, h8⟩ := HI
  exact ⟨heap_setChan _ _ _ _ _ _ _ _ (lt_of_chan h1), by rw [setChan_other _ _ _ _ _ _ _ _ _ (by omega), h2], by rw [setChan_other _ _ _ _ _ _ _ _ _ (by omega), h3],
    grown_trans h4 (grown_setChan W c 2 l.toArray false s (r + 1) false), h5, h6, h7, by simpa [World.setChan] using h8⟩
theorem InL.new {w W : World} {c R L s r : Nat} {l : List Value} {cs : Array Value} (HI : InL w W c R L l cs s r) (o : Obj) : InL w (W.alloc o) c R L l cs s r := by
  obtain ⟨h1, h2, h3, h4, h5, h6, h7, h8⟩ := HI
  have := lt_of_chan h1
  exact ⟨by rw [Below.heap_alloc _ _ _ this, h1], by rw [Below.heap_alloc _ _ _ (by omega), h2], by rw [Below.heap_alloc _ _ _ h8, h3], grown_new h4 _, h5, h6, h7, by simp; omega⟩
/-- The one so far is another one now. -/
theorem InL.put {w W : World} {c R L s r : Nat} {l : List Value} {c0 c1 c2 c3 c4 c5 : Value} (HI : InL w W c R L l #[c0, c1, c2, c3, c4, c5] s r) (d0 d1 d2 d3 d4 d5 : Value) :
    InL w ((((((W.setCell ⟨L, 0, none⟩ d0).setCell ⟨L, 1, none⟩ d1).setCell ⟨L, 2, none⟩ d2).setCell ⟨L, 3, none⟩ d3).setCell ⟨L, 4, none⟩ d4).setCell ⟨L, 5, none⟩ d5) c R L l #[d0, d1, d2, d3, d4, d5] s r := by
  obtain ⟨h1, h2, h3, h4, h5, h6, h7, h8⟩ := HI
  have hLw : w.heap.size ≤ L := by omega
  refine ⟨?_, ?_, set6 h3 _ _ _ _ _ _, ?_, h5, h6, h7, by simpa using h8⟩
  · iterate 6 rw [Below.heap_setCell _ _ _ _ (by simp; omega)]
    exact h1
  · iterate 6 rw [Below.heap_setCell _ _ _ _ (by simp; omega)]
    exact h2
  · repeat (refine grown_set ?_ L _ hLw _)
    exact h4

set_option maxHeartbeats 4000000 in
/-- One lies ready, and there was none so far: it is the one. -/
theorem round_first (K : Act → World → Prop) (Q : Exit → Act → World → Prop) (w W : World) (c R L s r : Nat) (n : MetaD) (l : List Value) (HI : InL w W c R L (metaA n :: l) zeros s r)
    (HK : ∀ W' u6 u7 u8 u9 u10 u11 u12 u13 u14 u15 u16 u17 u18 u19 u20 u21 u22 u23 u24, InL w W' c R L l (metaC n) s (r + 1) → K (act14 c R L .nilIface u6 u7 u8 u9 u10 u11 u12 u13 u14 u15 u16 u17 u18 u19 u20 u21 u22 u23 u24) W') (t6 t7 t8 t9 t10 t11 t12 t13 t14 t15 t16 t17 t18 t19 t20 t21 t22 t23 t24 : Value) :
    (lcOf Try.f14).wp Try.prog (Exit.then K Q) (act14 c R L (.iface 34 (.int .i64 12)) t6 t7 t8 t9 t10 t11 t12 t13 t14 t15 t16 t17 t18 t19 t20 t21 t22 t23 t24) W := by
  have HG := HI.got
  replace HK := hid HK
  have hch := hid HI.chan
  have hs1 : 0 < (metaA n :: l).toArray.size := by simp
  have e1 : (metaA n :: l).toArray.getD 0 undef = metaA n := by simp
  have e2 : (metaA n :: l).toArray.extract 1 (metaA n :: l).toArray.size = l.toArray := by simp
  clear HI
  unfold act14 lcOf
  simp only [Try.f14, loopIn, Option.bind_some, Option.none_or, Option.getD_some]
  iterate 10 go_step
  refine wp_recv (c := c) (z := .agg #[.int .u64 0, .int .i64 0, .int .i64 0, .int .i64 0, .int .i64 0, .int .i64 0]) ?_ hch.out hs1 ?_
  · simp [go_sem, execOp, rcase, Act.eval]
  rw [e1, e2]
  clear e1 e2 hs1 hch
  obtain ⟨n1, ⟨n2, n3, n4⟩, n5, n6⟩ := n
  simp only [goInt, metaA]
  go_simp
  generalize W.setChan c 2 l.toArray false s (r + 1) false = X at *
  have cL := cell_rowL HG.last
  have fL := frozen_rowL HG.last
  have hLX := HG.hLs
  unfold zeros at cL
  unfold zeros at HG
  have HN := hid ((HG.put (.int .u64 n1) (.int .i64 n2) (.int .i64 n3) (.int .i64 n4) (.int .i64 n5) (.int .i64 n6)).new (.cells #[.int .u64 n1, .int .i64 n2, .int .i64 n3, .int .i64 n4, .int .i64 n5, .int .i64 n6] 26))
  clear HG
  go_wp2
  exact HK.out _ _ _ _ _ _ _ _ _ _ _ _ _ _ _ _ _ _ _ _ HN.out

set_option maxHeartbeats 4000000 in
/-- One lies ready that is later than the one so far. -/
theorem round_later (K : Act → World → Prop) (Q : Exit → Act → World → Prop) (w W : World) (c R L s r : Nat) (m n : MetaD) (l : List Value) (HI : InL w W c R L (metaA n :: l) (metaC m) s r) (hlt : m.txn < n.txn)
    (HK : ∀ W' u6 u7 u8 u9 u10 u11 u12 u13 u14 u15 u16 u17 u18 u19 u20 u21 u22 u23 u24, InL w W' c R L l (metaC n) s (r + 1) → K (act14 c R L .nilIface u6 u7 u8 u9 u10 u11 u12 u13 u14 u15 u16 u17 u18 u19 u20 u21 u22 u23 u24) W') (t6 t7 t8 t9 t10 t11 t12 t13 t14 t15 t16 t17 t18 t19 t20 t21 t22 t23 t24 : Value) :
    (lcOf Try.f14).wp Try.prog (Exit.then K Q) (act14 c R L .nilIface t6 t7 t8 t9 t10 t11 t12 t13 t14 t15 t16 t17 t18 t19 t20 t21 t22 t23 t24) W := by
  have HG := HI.got
  replace HK := hid HK
  have hch := hid HI.chan
  have hs1 : 0 < (metaA n :: l).toArray.size := by simp
  have e1 : (metaA n :: l).toArray.getD 0 undef = metaA n := by simp
  have e2 : (metaA n :: l).toArray.extract 1 (metaA n :: l).toArray.size = l.toArray := by simp
  clear HI
  unfold act14 lcOf
  simp only [Try.f14, loopIn, Option.bind_some, Option.none_or, Option.getD_some]
  iterate 10 go_step
  refine wp_recv (c := c) (z := .agg #[.int .u64 0, .int .i64 0, .int .i64 0, .int .i64 0, .int .i64 0, .int .i64 0]) ?_ hch.out hs1 ?_
  · simp [go_sem, execOp, rcase, Act.eval]
  rw [e1, e2]
  clear e1 e2 hs1 hch
  obtain ⟨n1, ⟨n2, n3, n4⟩, n5, n6⟩ := n
  obtain ⟨m1, ⟨m2, m3, m4⟩, m5, m6⟩ := m
  simp only [goInt, metaA]
  go_simp
  generalize W.setChan c 2 l.toArray false s (r + 1) false = X at *
  have cL := cell_rowL HG.last
  have fL := frozen_rowL HG.last
  have hLX := HG.hLs
  simp only [metaC] at cL HG
  have HN := hid ((HG.put (.int .u64 n1) (.int .i64 n2) (.int .i64 n3) (.int .i64 n4) (.int .i64 n5) (.int .i64 n6)).new (.cells #[.int .u64 n1, .int .i64 n2, .int .i64 n3, .int .i64 n4, .int .i64 n5, .int .i64 n6] 26))
  clear HG
  replace hlt : m1 < n1 := hlt
  go_wp2
  exact HK.out _ _ _ _ _ _ _ _ _ _ _ _ _ _ _ _ _ _ _ _ HN.out

set_option maxHeartbeats 4000000 in
/-- One lies ready that isn't. -/
theorem round_not (K : Act → World → Prop) (Q : Exit → Act → World → Prop) (w W : World) (c R L s r : Nat) (m n : MetaD) (l : List Value) (HI : InL w W c R L (metaA n :: l) (metaC m) s r) (hlt : ¬ m.txn < n.txn)
    (HK : ∀ W' u6 u7 u8 u9 u10 u11 u12 u13 u14 u15 u16 u17 u18 u19 u20 u21 u22 u23 u24, InL w W' c R L l (metaC m) s (r + 1) → K (act14 c R L .nilIface u6 u7 u8 u9 u10 u11 u12 u13 u14 u15 u16 u17 u18 u19 u20 u21 u22 u23 u24) W') (t6 t7 t8 t9 t10 t11 t12 t13 t14 t15 t16 t17 t18 t19 t20 t21 t22 t23 t24 : Value) :
    (lcOf Try.f14).wp Try.prog (Exit.then K Q) (act14 c R L .nilIface t6 t7 t8 t9 t10 t11 t12 t13 t14 t15 t16 t17 t18 t19 t20 t21 t22 t23 t24) W := by
  have HG := HI.got
  replace HK := hid HK
  have hch := hid HI.chan
  have hs1 : 0 < (metaA n :: l).toArray.size := by simp
  have e1 : (metaA n :: l).toArray.getD 0 undef = metaA n := by simp
  have e2 : (metaA n :: l).toArray.extract 1 (metaA n :: l).toArray.size = l.toArray := by simp
  clear HI
  unfold act14 lcOf
  simp only [Try.f14, loopIn, Option.bind_some, Option.none_or, Option.getD_some]
  iterate 10 go_step
  refine wp_recv (c := c) (z := .agg #[.int .u64 0, .int .i64 0, .int .i64 0, .int .i64 0, .int .i64 0, .int .i64 0]) ?_ hch.out hs1 ?_
  · simp [go_sem, execOp, rcase, Act.eval]
  rw [e1, e2]
  clear e1 e2 hs1 hch
  obtain ⟨n1, ⟨n2, n3, n4⟩, n5, n6⟩ := n
  obtain ⟨m1, ⟨m2, m3, m4⟩, m5, m6⟩ := m
  simp only [goInt, metaA]
  go_simp
  generalize W.setChan c 2 l.toArray false s (r + 1) false = X at *
  have cL := cell_rowL HG.last
  have hLX := HG.hLs
  have HN := hid (HG.new (.cells #[.int .u64 n1, .int .i64 n2, .int .i64 n3, .int .i64 n4, .int .i64 n5, .int .i64 n6] 26))
  simp only [metaC] at cL
  clear HG
  replace hlt : ¬ m1 < n1 := hlt
  go_wp2
  exact HK.out _ _ _ _ _ _ _ _ _ _ _ _ _ _ _ _ _ _ _ _ HN.out

/-- What lies in the channel, of two at most: the latest of them. -/
theorem latest_any (c s r : Nat) (l : List MetaD) (hl : l.length ≤ 2) (w : World) (hc : w.heap[c]? = some (.chan 2 (l.map metaA).toArray false s r false)) :
    Calls Try.prog 14 #[.chan (some c)] w fun e w' => e = .returned (.tuple #[metaA (pickM l).1, errM (pickM l).2]) ∧ w.grownBy w' (some c) := by
  have HI := inL_start hc
  clear hc
  unfold zeros at HI
  have hend : ∀ (t : Bool), errM t = .nilIface ∨ errM t = .iface 34 (.int .i64 12) := by intro t; cases t <;> simp [errM]
  go_enter Try.func14, Try.ntmps14
  go_wp2
  change Code.wp Try.prog (Code.loop (lcOf Try.f14)) (Exit.inBlock 0 (Post14 w c (pickM l).1 (errM (pickM l).2))) (act14 c w.heap.size (w.heap.size + 1) (.iface 34 (.int .i64 12)) undef (.iface 34 (.int .i64 12)) undef undef undef undef undef undef undef undef undef undef undef undef undef undef undef undef undef) _
  refine wp_first ?_
  match l, hl with
  | [], _ => exact round_none _ _ _ _ _ _ _ _ noMeta _ (hend false) HI _ _ _ _ _ _ _ _ _ _ _ _ _ _ _ _ _ _ _
  | [m], _ =>
    refine round_first _ _ _ _ _ _ _ _ _ m _ HI ?_ _ _ _ _ _ _ _ _ _ _ _ _ _ _ _ _ _ _ _
    intro W' u6 u7 u8 u9 u10 u11 u12 u13 u14 u15 u16 u17 u18 u19 u20 u21 u22 u23 u24 HW
    refine wp_again ?_
    exact round_none _ _ _ _ _ _ _ _ m _ (hend true) HW u6 u7 u8 u9 u10 u11 u12 u13 u14 u15 u16 u17 u18 u19 u20 u21 u22 u23 u24
  | [m, n], _ =>
    refine round_first _ _ _ _ _ _ _ _ _ m _ HI ?_ _ _ _ _ _ _ _ _ _ _ _ _ _ _ _ _ _ _ _
    intro W' u6 u7 u8 u9 u10 u11 u12 u13 u14 u15 u16 u17 u18 u19 u20 u21 u22 u23 u24 HW
    refine wp_again ?_
    by_cases hlt : m.txn < n.txn
    · refine round_later _ _ _ _ _ _ _ _ _ m n _ HW hlt ?_ u6 u7 u8 u9 u10 u11 u12 u13 u14 u15 u16 u17 u18 u19 u20 u21 u22 u23 u24
      intro W'' v6 v7 v8 v9 v10 v11 v12 v13 v14 v15 v16 v17 v18 v19 v20 v21 v22 v23 v24 HW'
      refine wp_again ?_
      have e : pickM [m, n] = (n, true) := by simp [pickM, hlt]
      rw [e]
      exact round_none _ _ _ _ _ _ _ _ n _ (hend true) HW' v6 v7 v8 v9 v10 v11 v12 v13 v14 v15 v16 v17 v18 v19 v20 v21 v22 v23 v24
    · refine round_not _ _ _ _ _ _ _ _ _ m n _ HW hlt ?_ u6 u7 u8 u9 u10 u11 u12 u13 u14 u15 u16 u17 u18 u19 u20 u21 u22 u23 u24
      intro W'' v6 v7 v8 v9 v10 v11 v12 v13 v14 v15 v16 v17 v18 v19 v20 v21 v22 v23 v24 HW'
      refine wp_again ?_
      have e : pickM [m, n] = (m, true) := by simp [pickM, hlt]
      rw [e]
      exact round_none _ _ _ _ _ _ _ _ m _ (hend true) HW' v6 v7 v8 v9 v10 v11 v12 v13 v14 v15 v16 v17 v18 v19 v20 v21 v22 v23 v24
end Go.Proofs.Ytgnmjdcmaahlnaa
