/- Contracts of package file's inTurn and next. -/
import Derived.Test.YtehfhacghfagoaaFd
import Derived.Test.YtehfhacghfagoaaCh
import Derived.Deep.Cut
namespace Go.Proofs.Ytehfhacghfagoaa
open Go.RowKit Go.Conc

theorem Try.bytesBool : ∃ i, Try.prog.info? 4 = some i ∧ i.bytes = 1 := by
  have h : (Try.prog.info? 4).map (·.bytes) = some 1 := by kernel_rfl
  obtain ⟨i, hi, hb⟩ := Option.map_eq_some_iff.1 h
  exact ⟨i, hi, hb⟩
theorem mkChan (n : Nat) (hn : n ≤ 400) (w : World) : (Instr.makeChan 68 (.int .i64 (n : Int))).run Try.prog w = .ok (.chan (some w.heap.size)) (w.alloc (.chan n #[] false 0 0 false)) := by
  obtain ⟨i, hi, hb⟩ := Try.bytesBool
  exact run_makeChan (P := Try.prog) (w := w) Try.underlying68 hi .i64 n (by omega) (by rw [hb]; omega)
theorem capChan (ty : TypeId) (n c s r : Nat) (buf : Array Value) (w : World) (h : w.heap[c]? = some (.chan n buf false s r false)) : (Builtin.cap_ #[68] ty #[.chan (some c)]).run Try.prog w = .ok (.int .i64 (n : Int)) w := by
  simp [Builtin.cap_, run_underlying Try.underlying68, run_getObj_chan Try.prog w h, goInt]
theorem minInt (ats : Array TypeId) (ty : TypeId) (a b : Nat) (w : World) : (Builtin.min_ ats ty #[.int .i64 (a : Int), .int .i64 (b : Int)]).run Try.prog w = .ok (.int .i64 ((min a b : Nat) : Int)) w := by
  by_cases h : a ≤ b
  · simp [Builtin.min_, Builtin.min2, Nat.min_eq_left h]
    omega
  · simp [Builtin.min_, Builtin.min2, Nat.min_eq_right (Nat.le_of_not_le h), h]
def boolV (l : List Bool) : List Value := l.map Value.bool
/-- The channel in block c, and what lies in it. -/
def ChanAt (w : World) (c : Nat) (l : List Bool) : Prop := ∃ n s r, w.heap[c]? = some (.chan n (boolV l).toArray false s r false)
theorem ChanAt.lt {w : World} {c : Nat} {l : List Bool} (h : ChanAt w c l) : c < w.heap.size := by
  obtain ⟨n, s, r, h⟩ := h
  exact lt_of_heap h
theorem ChanAt.kept {w w' : World} {c : Nat} {l : List Bool} (h : ChanAt w c l) (hb : w'.heap[c]? = w.heap[c]?) : ChanAt w' c l := by
  obtain ⟨n, s, r, h⟩ := h
  exact ⟨n, s, r, hb.trans h⟩

set_option maxRecDepth 10000 in
set_option maxHeartbeats 4000000 in
theorem inTurn_any (ks : List Bool) (v : Value) (most : Nat) (w : World) (h : BoolsAt w v ks) (hm : most ≤ 400) :
    Calls Try.prog 25 #[v, .int .i64 most] w fun e w' => e = .returned (.chan (some w.heap.size)) ∧ ChanAt w' w.heap.size (ks.take most) ∧ Below w.heap.size w w' := by
  obtain ⟨ao, cap, rfl, ⟨hml, hcap⟩, h3⟩ := h
  obtain ⟨n, hn⟩ : ∃ n, min ks.length most = n := ⟨_, rfl⟩
  have hnk : n ≤ ks.length := by omega
  have hn4 : n ≤ 400 := by omega
  have hcut := cut_head (ao := ao) (len := ks.length) (cap := cap) (n := n) Try.elemBools Try.sizeBools (by omega)
  have hmk := mkChan n hn4
  have hch := heap_newL w (.chan n #[] false 0 0 false)
  have hcp := fun ty => capChan ty n w.heap.size 0 0 #[] _ hch
  replace h3 := hid h3
  have B0 := hid ((Below.refl w.heap.size w).alloc (Nat.le_refl _) (.chan n #[] false 0 0 false))
  have hmin := fun ats ty => minInt ats ty ks.length most
  rw [hn] at hmin
  replace hn := hid hn
  replace hch := hid hch
  generalize hc : w.heap.size = c at *
  go_enter Try.func25, Try.ntmps25
  go_wp2
  clear hcut hmk hcp hmin
  go_loopg [18] n (fun g i wr => ∃ (k : Nat), k + g = n ∧ i = .int .i64 k ∧ Hid (∃ s, wr.heap[c]? = some (.chan n (boolV (ks.take k)).toArray false s 0 false)) ∧ Hid (Below c w wr))
  case atStart => exact ⟨0, by omega, rfl, ⟨0, by simpa [boolV] using hch.out⟩, B0⟩
  case round =>
    obtain ⟨k, hk, rfl, hcc, hb⟩ := hrel
    clear hch B0
    cases gk with
    | zero =>
      have hke : k = n := by omega
      subst hke
      go_wp2
      go_ret
      obtain ⟨s, hs⟩ := hcc.out
      refine ⟨rfl, ⟨k, s, 0, ?_⟩, hb.out⟩
      have e : ks.take most = ks.take k := by rw [← hn.out]; rcases Nat.le_total ks.length most with h | h <;> simp [h, List.take_of_length_le]
      rw [e]
      exact hs
    | succ g =>
      have hlk : k < ks.length := by omega
      obtain ⟨a, ha, hcell⟩ := h3.out k hlk
      have hx := index_at (len := n) (cap := cap) Try.elemBools Try.sizeBools k ha (by omega)
      have hcs : wr.cell? (a.add k) = some (.bool ks[k]) := (hb.out.cell (p := a.add k) (by rw [← hc]; exact World.block_lt_of_cell? w _ hcell)).trans hcell
      obtain ⟨x, hxk⟩ : ∃ x, ks[k] = x := ⟨_, rfl⟩
      rw [hxk] at hcs
      replace hxk := hid hxk
      obtain ⟨s, hs⟩ := hcc.out
      have hroom : (boolV (ks.take k)).toArray.size < n := by simp [boolV]; omega
      have hclt := lt_of_heap hs
      have HN := hid (heap_setChan wr c n ((boolV (ks.take k)).toArray.push (.bool x)) false (s + 1) 0 false hclt)
      have HB := hid (hb.out.grown (grown_setChan wr c n ((boolV (ks.take k)).toArray.push (.bool x)) false (s + 1) 0 false) (by omega) (fun r hr => by cases hr; exact Nat.le_refl _))
      replace hs := hid hs
      replace hc := hid hc
      clear hcell ha hcc hb
      go_upto_region 5 with fail
      refine wp_send (c := c) (v0 := .chan (some c)) (v1 := .bool x) (z := .tuple #[]) rfl rfl ?_ ?_ ?_ hs.out hroom ?_
      · simp [go_sem, execOp, Act.eval]
      · simp [go_sem, execOp, Act.eval, Act.put]
      · simp [go_sem, execOp, Act.eval, Act.put, scase]
      generalize wr.setChan c n ((boolV (ks.take k)).toArray.push (.bool x)) false (s + 1) 0 false = X at *
      simp only [Act.put]
      go_simp
      go_wp2
      go_roundg g
      case rel => exact ⟨k + 1, by omega, by go_num, ⟨s + 1, by rw [HN.out, List.take_succ_eq_append_getElem hlk, hxk.out]; simp [boolV]⟩, HB.out⟩
      case measure => omega

/-- Behind a receive. -/
theorem ChanAt.got {w : World} {c n s r : Nat} {l : List Bool} {x : Bool} (h : w.heap[c]? = some (.chan n (boolV (x :: l)).toArray false s r false)) : ChanAt (w.setChan c n (boolV l).toArray false s (r + 1) false) c l :=
  ⟨n, s, r + 1, heap_setChan w c n (boolV l).toArray false s (r + 1) false (lt_of_heap h)⟩
def nextL (l : List Bool) : Bool := l.headD false
set_option maxRecDepth 10000 in
set_option maxHeartbeats 4000000 in
theorem next_any (c : Nat) (l : List Bool) (w : World) (h : ChanAt w c l) :
    Calls Try.prog 26 #[.chan (some c)] w fun e w' => e = .returned (.bool (nextL l)) ∧ ChanAt w' c l.tail ∧ w.grownBy w' (some c) := by
  obtain ⟨n, s, r, hc⟩ := h
  cases l with
  | nil =>
    have hc' : w.heap[c]? = some (.chan n #[] false s r false) := hc
    replace hc' := hid hc'
    replace hc := hid hc
    go_enter Try.func26, Try.ntmps26
    go_upto_region 2 with fail
    refine wp_none (c := c) (z := .bool false) ?_ hc'.out ?_
    · simp [go_sem, execOp, rcase, Act.eval]
    simp only [goInt]
    go_simp
    go_wp2
    go_ret
    exact ⟨rfl, ⟨n, s, r, hc.out⟩, World.grownBy.refl _ _⟩
  | cons x l =>
    have hs1 : 0 < (boolV (x :: l)).toArray.size := by simp [boolV]
    have e1 : (boolV (x :: l)).toArray.getD 0 undef = .bool x := by simp [boolV]
    have e2 : (boolV (x :: l)).toArray.extract 1 (boolV (x :: l)).toArray.size = (boolV l).toArray := by simp [boolV, List.take_of_length_le]
    have HG := hid (ChanAt.got hc)
    have HB := hid (grown_setChan w c n (boolV l).toArray false s (r + 1) false)
    replace hc := hid hc
    go_enter Try.func26, Try.ntmps26
    go_upto_region 2 with fail
    refine wp_recv (c := c) (z := .bool false) ?_ hc.out hs1 ?_
    · simp [go_sem, execOp, rcase, Act.eval]
    rw [e1, e2]
    simp only [goInt]
    go_simp
    generalize w.setChan c n (boolV l).toArray false s (r + 1) false = X at *
    go_wp2
    go_ret
    exact ⟨rfl, HG.out, HB.out⟩
end Go.Proofs.Ytehfhacghfagoaa
