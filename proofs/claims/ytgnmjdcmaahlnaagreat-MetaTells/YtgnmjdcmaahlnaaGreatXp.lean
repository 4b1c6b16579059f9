/- A send into a channel that has room, a receive that waits for nobody, in the walk of a function; a loop, round by round. Contracts of package meta's Place, Fresh, Bytes, read. Contract of package meta's latest: what lies in a channel of two at most. Contract of package meta's Choose. Which texts are metas, and what is chosen of them. Contract of the statements' own opening test known: it returns true and leaves what was there. -/
import Derived.Test.YtgnmjdcmaahlnaaGreatRows
import Derived.Conc.LoneSelect
import Derived.Tactics2
import Derived.Test.YtgnmjdcmaahlnaaGreatXo
import Derived.RegionTactic
import Derived.ChangeAlike
import Derived.Test.YtgnmjdcmaahlnaaGreatXa
namespace Go.Proofs.YtgnmjdcmaahlnaaGreat
open Go.RowKit Go.Conc

section
variable {P : Program} {ops : Array Oper} {Q : Exit → Act → World → Prop} {a : Act} {w w1 : World} {o : Oper} {i : Nat} {rest : List Nat}
/-- What is left of a region's operations, walked. -/
def RegTo (P : Program) (ops : Array Oper) (Q : Exit → Act → World → Prop) (l : List Nat) (a : Act) (w : World) : Prop :=
  ∀ (b : Frame) (k : List Item) (cs : List Frame), ∃ e a' w', Q e a' w' ∧ Arrives P (lone (b.at a (.inRegion ops l :: k)) cs w) b k cs e a' w'
theorem regTo_of {l : List Nat} (h : wpOps P ops Q l a w) : RegTo P ops Q l a w := fun b k cs => wp_ops l a w h b k cs
theorem wp_regTo {id : Nat} (h : RegTo P ops Q (List.range ops.size) a w) : (Code.region id ops false).wp P Q a w :=
  fun b k cs => let ⟨e, a', w', q, r⟩ := h b k cs; ⟨e, a', w', q, .of_steps (.one step_region) r⟩
theorem regTo_value {v : Value} (ho : ops[i]? = some o) (hw : Region.wanted o (yielded ops a.tmps) = true) (hr : (execOp a.eval o).run P w = .ok (.value v) w1)
    (h : RegTo P ops Q rest (a.put o.dst v) w1) : RegTo P ops Q (i :: rest) a w := by
  intro b k cs
  obtain ⟨e, a', w', q, r⟩ := h b k cs
  refine ⟨e, a', w', q, .of_steps (.one (step_lone_go ?_)) r⟩
  have hfin : (b.at a (.inRegion ops (i :: rest) :: k)).finish v = b.at (a.put o.dst v) (.inRegion ops rest :: k) := by rw [Frame.finish_at, ho]; rfl
  rw [Go.stepG_op ho hw, ← hfin]
  simp [stepG.apply, hr]
theorem comm_any {cases : Array CommCase} {blocking : Bool} {shape : CommShape} (b : Frame) (k : List Item) (cs : List Frame) (ho : ops[i]? = some o) (hw : Region.wanted o (yielded ops a.tmps) = true)
    (hr : (execOp a.eval o).run P w = .ok (.comm cases blocking shape) w1) :
    ∃ es, stepG P true (G (b.at a (.inRegion ops (i :: rest) :: k)) cs) w = .comm (G (b.at a (.inRegion ops (i :: rest) :: k)) cs) cases blocking shape w1 es := by
  rw [stepG_oper ho hw]
  simp [stepG.apply, hr, G, Frame.at, GStep.after]
theorem regTo_send {c cap s r : Nat} {buf : Array Value} {v z : Value} {tm : Bool} (ho : ops[i]? = some o) (hw : Region.wanted o (yielded ops a.tmps) = true)
    (hr : (execOp a.eval o).run P w = .ok (.comm #[scase c v z] true .send) w1) (hc : w1.heap[c]? = some (.chan cap buf false s r tm)) (hroom : buf.size < cap)
    (h : RegTo P ops Q rest (a.put o.dst undef) (w1.setChan c cap (buf.push v) false (s + 1) r tm)) : RegTo P ops Q (i :: rest) a w := by
  intro b k cs
  obtain ⟨es, hs⟩ := comm_any (rest := rest) b k cs ho hw hr
  have hst := step_lone_send_room hs hc hroom
  obtain ⟨e, a', w', q, r⟩ := h b k cs
  refine ⟨e, a', w', q, .of_steps (.one ?_) r⟩
  rw [lone_eq_solo, hst, Frame.finish_at, ho]
  rfl
theorem regTo_recv {c cap s r : Nat} {buf : Array Value} {z : Value} {tm closed : Bool} (ho : ops[i]? = some o) (hw : Region.wanted o (yielded ops a.tmps) = true)
    (hr : (execOp a.eval o).run P w = .ok (.comm #[rcase c z] false .select) w1) (hc : w1.heap[c]? = some (.chan cap buf closed s r tm)) (hsome : 0 < buf.size)
    (h : RegTo P ops Q rest (a.put o.dst (.tuple #[goInt 0, .bool true, buf.getD 0 undef])) (w1.setChan c cap (buf.extract 1 buf.size) closed s (r + 1) tm)) : RegTo P ops Q (i :: rest) a w := by
  intro b k cs
  obtain ⟨es, hs⟩ := comm_any (rest := rest) b k cs ho hw hr
  have hst := step_lone_select_recv_buf hs hc hsome
  obtain ⟨e, a', w', q, r⟩ := h b k cs
  refine ⟨e, a', w', q, .of_steps (.one ?_) r⟩
  rw [lone_eq_solo, hst, Frame.finish_at, ho]
  rfl
theorem regTo_default {c cap s r : Nat} {z : Value} {tm : Bool} (ho : ops[i]? = some o) (hw : Region.wanted o (yielded ops a.tmps) = true)
    (hr : (execOp a.eval o).run P w = .ok (.comm #[rcase c z] false .select) w1) (hc : w1.heap[c]? = some (.chan cap #[] false s r tm))
    (h : RegTo P ops Q rest (a.put o.dst (.tuple #[goInt (-1), .bool false, z])) w1) : RegTo P ops Q (i :: rest) a w := by
  intro b k cs
  obtain ⟨es, hs⟩ := comm_any (rest := rest) b k cs ho hw hr
  have hst := step_lone_select_default hs hc
  obtain ⟨e, a', w', q, r⟩ := h b k cs
  refine ⟨e, a', w', q, .of_steps (.one ?_) r⟩
  rw [lone_eq_solo, hst, Frame.finish_at, ho]
  rfl
end

section
variable {P : Program} {Q : Exit → Act → World → Prop} {a : Act} {w w1 : World} {id d ty : Nat} {pos : String} {af : Array Edge}
theorem range_head (n : Nat) : List.range (n + 1) = 0 :: List.range' 1 n := by
  rw [List.range_eq_range', List.range'_succ]
theorem rest_list {o : Oper} {l : List Oper} (h : wpList P (o :: l).toArray Q l a w) : RegTo P (o :: l).toArray Q (List.range' 1 l.length) a w := by
  refine regTo_of ?_
  rw [wpOps_eq_wpList l 1 (fun j => by simp [Nat.add_comm 1 j])]
  exact h
/-- The receive that a select with a default begins with: something lies ready. -/
theorem wp_recv {x : Operand} {T : TypeId} {l : List Oper} {c cap s r : Nat} {buf : Array Value} {z : Value} {tm closed : Bool}
    (hr : (execOp a.eval ⟨some d, .select #[⟨x, none, T⟩] false, ty, pos, af, none⟩).run P w = .ok (.comm #[rcase c z] false .select) w) (hc : w.heap[c]? = some (.chan cap buf closed s r tm)) (hsome : 0 < buf.size)
    (h : wpList P (⟨some d, .select #[⟨x, none, T⟩] false, ty, pos, af, none⟩ :: l).toArray Q l (a.put (some d) (.tuple #[goInt 0, .bool true, buf.getD 0 undef])) (w.setChan c cap (buf.extract 1 buf.size) closed s (r + 1) tm)) :
    (Code.region id (⟨some d, .select #[⟨x, none, T⟩] false, ty, pos, af, none⟩ :: l).toArray false).wp P Q a w := by
  refine wp_regTo ?_
  rw [List.size_toArray, List.length_cons, range_head]
  exact regTo_recv rfl rfl hr hc hsome (rest_list h)
/-- .. nothing does. -/
theorem wp_none {x : Operand} {T : TypeId} {l : List Oper} {c cap s r : Nat} {z : Value} {tm : Bool}
    (hr : (execOp a.eval ⟨some d, .select #[⟨x, none, T⟩] false, ty, pos, af, none⟩).run P w = .ok (.comm #[rcase c z] false .select) w) (hc : w.heap[c]? = some (.chan cap #[] false s r tm))
    (h : wpList P (⟨some d, .select #[⟨x, none, T⟩] false, ty, pos, af, none⟩ :: l).toArray Q l (a.put (some d) (.tuple #[goInt (-1), .bool false, z])) w) :
    (Code.region id (⟨some d, .select #[⟨x, none, T⟩] false, ty, pos, af, none⟩ :: l).toArray false).wp P Q a w := by
  refine wp_regTo ?_
  rw [List.size_toArray, List.length_cons, range_head]
  exact regTo_default rfl rfl hr hc (rest_list h)
/-- The channel, what is sent, the send. -/
theorem wp_send {o0 o1 : Oper} {x y : Operand} {v0 v1 z : Value} {c cap s r : Nat} {buf : Array Value} {tm : Bool}
    (g0 : o0.guard = none) (g1 : o1.guard = none) (h0 : (execOp a.eval o0).run P w = .ok (.value v0) w) (h1 : (execOp (a.put o0.dst v0).eval o1).run P w = .ok (.value v1) w)
    (h2 : (execOp ((a.put o0.dst v0).put o1.dst v1).eval ⟨none, .send x y, ty, pos, af, none⟩).run P w = .ok (.comm #[scase c v1 z] true .send) w)
    (hc : w.heap[c]? = some (.chan cap buf false s r tm)) (hroom : buf.size < cap)
    (h : Q .normal ((a.put o0.dst v0).put o1.dst v1) (w.setChan c cap (buf.push v1) false (s + 1) r tm)) :
    (Code.region id #[o0, o1, ⟨none, .send x y, ty, pos, af, none⟩] false).wp P Q a w := by
  refine wp_regTo ?_
  show RegTo P _ Q [0, 1, 2] a w
  refine regTo_value rfl (by simp [Region.wanted, g0]) h0 (regTo_value rfl (by simp [Region.wanted, g1]) h1 (regTo_send rfl rfl h2 hc hroom ?_))
  exact fun b k cs => ⟨.normal, _, _, h, .one step_region_end⟩
end

/-- Where a loop's next round begins. -/
def AtLoop (P : Program) (c : Code) (Q : Exit → Act → World → Prop) (a : Act) (w : World) : Prop :=
  ∀ (b : Frame) (k : List Item) (cs : List Frame), ∃ e a' w', Q e a' w' ∧ Arrives P (lone (b.at a (.inLoop c :: k)) cs w) b k cs e a' w'
section
variable {P : Program} {Q : Exit → Act → World → Prop} {a : Act} {w : World} {c : Code}
theorem round_next (h : c.wp P (Exit.then (AtLoop P c Q) Q) a w) (b : Frame) (k : List Item) (cs : List Frame) :
    ∃ e a' w', Q e a' w' ∧ Arrives P (lone (b.at a (.code c :: .inLoop c :: k)) cs w) b k cs e a' w' := by
  obtain ⟨e, a₁, w₁, hq, harr⟩ := h b (.inLoop c :: k) cs
  cases e with
  | normal =>
    obtain ⟨e₂, a₂, w₂, hq₂, harr₂⟩ := hq b k cs
    exact ⟨e₂, a₂, w₂, hq₂, .of_steps harr harr₂⟩
  | exit id => exact ⟨_, a₁, w₁, hq, .pass (x := .inLoop c) rfl (fun _ _ => .inl (by simp)) harr⟩
  | goto l => exact ⟨_, a₁, w₁, hq, .pass (x := .inLoop c) rfl (fun _ _ => .inl (by simp)) harr⟩
  | ret => exact ⟨_, a₁, w₁, hq, .pass (x := .inLoop c) rfl (fun _ _ => .inl (by simp)) harr⟩
  | panic ch => exact ⟨_, a₁, w₁, hq, .pass (x := .inLoop c) rfl (fun _ _ => .inl (by simp)) harr⟩
  | outgrown => exact ⟨_, a₁, w₁, hq, .pass (x := .inLoop c) rfl (fun _ _ => .inl (by simp)) harr⟩
theorem wp_first (h : c.wp P (Exit.then (AtLoop P c Q) Q) a w) : (Code.loop c).wp P Q a w := by
  intro b k cs
  obtain ⟨e, a', w', hq, harr⟩ := round_next h b k cs
  exact ⟨e, a', w', hq, .of_steps (.one step_loop) harr⟩
theorem wp_again (h : c.wp P (Exit.then (AtLoop P c Q) Q) a w) : AtLoop P c Q a w := by
  intro b k cs
  obtain ⟨e, a', w', hq, harr⟩ := round_next h b k cs
  exact ⟨e, a', w', hq, .of_steps (.one step_inLoop) harr⟩
end
/-- The same, what follows the round behind a letter. -/
theorem wp_first_k {P : Program} {Q : Exit → Act → World → Prop} {a : Act} {w : World} {c : Code} (h : ∀ K : Act → World → Prop, Hid (∀ a w, AtLoop P c Q a w → K a w) → c.wp P (Exit.then K Q) a w) : (Code.loop c).wp P Q a w := wp_first (h _ fun _ _ h => h)
theorem wp_again_k {P : Program} {Q : Exit → Act → World → Prop} {a : Act} {w : World} {c : Code} (h : ∀ K : Act → World → Prop, Hid (∀ a w, AtLoop P c Q a w → K a w) → c.wp P (Exit.then K Q) a w) : AtLoop P c Q a w := wp_again (h _ fun _ _ h => h)
theorem setChan_other (w : World) (c c' cap : Nat) (buf : Array Value) (closed : Bool) (s r : Nat) (tm : Bool) (h : c ≠ c') : (w.setChan c cap buf closed s r tm).heap[c']? = w.heap[c']? := by
  simp [World.setChan, Array.getElem?_setIfInBounds_ne h]
theorem grown_setChan (w : World) (c cap : Nat) (buf : Array Value) (closed : Bool) (s r : Nat) (tm : Bool) : w.grownBy (w.setChan c cap buf closed s r tm) (some c) :=
  ⟨rfl, rfl, rfl, by simp [World.setChan], fun k _ hne => setChan_other w c k cap buf closed s r tm (fun e => hne (by rw [e]))⟩
end Go.Proofs.YtgnmjdcmaahlnaaGreat

namespace Go.Proofs.YtgnmjdcmaahlnaaGreat
open Go.RowKit Go.Sort

/-- A meta as one value. -/
def metaA (m : MetaD) : Value := .agg #[.int .u64 m.txn, .int .i64 m.main.page, .int .i64 m.main.count, .int .i64 m.main.flags, .int .i64 m.free, .int .i64 m.last]
def noMeta : MetaD := ⟨0, ⟨0, 0, 0⟩, 0, 0⟩
def freshM (i : Int) : MetaD := ⟨min (max i 0) 1, ⟨0, 0, 0⟩, 0, 2⟩
def ofM (m : MetaD) : PageD := { noPage with kind := 6, mt := m }
def metaB (m : MetaD) : List UInt8 := bytesD (ofM m)
def MOk (m : MetaD) : Prop := 0 ≤ m.txn ∧ m.txn < 18446744073709551616
theorem ofM_txn {m : MetaD} (h : MOk m) : TxnOk (ofM m) := ⟨h, by simp [ofM, noPage]⟩

set_option maxHeartbeats 400000 in
theorem place_any (n : Int) (w : World) (h0 : 0 ≤ n) (h1 : n < 18446744073709551616) :
    Calls Tryz.prog 9 #[.int .u64 n] w fun e w' => e = .returned (.int .i64 (n % 2)) ∧ w' = w := by
  go_enter Tryz.func9, Tryz.ntmps9
  go_wp2
  go_ret
  refine ⟨ret_int ?_, rfl⟩
  go_num
set_option maxHeartbeats 400000 in
theorem fresh_any (i : Int) (w : World) :
    Calls Tryz.prog 11 #[.int .i64 i] w fun e w' => e = .returned (metaA (freshM i)) ∧ Below w.heap.size w w' := by
  go_enter Tryz.func11, Tryz.ntmps11
  go_wp2
  exact bodyPost_ret (v := metaA (freshM i)) (by simp [results, Tryz.results11, go_sem, metaA, freshM]) rfl ⟨rfl, (Below.refl _ _).alloc (Nat.le_refl _) _⟩
set_option maxHeartbeats 1000000 in
theorem metaBytes_any (m : MetaD) (w : World) (h : MOk m) :
    Calls Tryz.prog 7 #[metaA m] w fun e w' => e = .returned (.string (bs (metaB m))) ∧ Below w.heap.size w w' := by
  have HB : Hid (∀ W, Calls Tryz.prog 17 #[.agg #[.int .i64 6, .slice none 0 0, .slice none 0 0, .slice none 0 0, .string ⟨#[]⟩, .slice none 0 0, .slice none 0 0, .int .i64 0, .int .u64 m.txn, .int .i64 m.main.page, .int .i64 m.main.count, .int .i64 m.main.flags, .int .i64 m.free, .int .i64 m.last]] W fun e w' => e = .returned (.string (bs (metaB m))) ∧ Below W.heap.size W w') :=
    fun W => bytes_any (ofM m) (.slice none 0 0) (.slice none 0 0) (.slice none 0 0) (.slice none 0 0) (.slice none 0 0) W ⟨items_nil _, strs_nil _, ints_nil _, text_nil_le, strs_nil _, frees_nil _⟩ (ofM_txn h)
  clear h
  generalize bs (metaB m) = B at *
  unfold metaA
  generalize m.txn = m1 at *
  generalize m.main.page = m2 at *
  generalize m.main.count = m3 at *
  generalize m.main.flags = m4 at *
  generalize m.free = m5 at *
  generalize m.last = m6 at *
  go_enter Tryz.func7, Tryz.ntmps7
  go_wp2_with (go_at_call 17; refine (HB.out _).mono ?_; rintro e w' ⟨rfl, hb⟩)
  go_ret
  exact ⟨rfl, ((Below.refl _ _).alloc (Nat.le_refl _) _).trans (hb.mono (by simp))⟩
theorem below_drew {B : Nat} {a w : World} (h : Below B a w) : Below B a w.drew := ⟨h.os, h.tape, h.output, h.size, h.block⟩
/-- Whether these bytes are a meta's. -/
def okMt (l : List UInt8) : Bool := okR l && decide ((readD l).kind = 6)
set_option maxHeartbeats 4000000 in
theorem mread_of (s : ByteArray) (w : World) (p : PageD) (E : Value) (t : Bool) (hE : (t = true ∧ E = .nilIface) ∨ (t = false ∧ E = .iface 38 (.int .i64 12)))
    (HR0 : ∀ W, Calls Tryz.prog 21 #[.string s] W fun e w' => ∃ vi vk vd vv vf, e = .returned (.tuple #[.agg (pageCells p vi vk vd vv vf).toArray, E]) ∧ Hangs w' p vi vk vd vv vf ∧ Below W.heap.size W w') :
    Calls Tryz.prog 14 #[.string s] w fun e w' => e = .returned (.tuple #[metaA p.mt, .bool (t && decide (p.kind = 6))]) ∧ Below w.heap.size w w' := by
  have HR := hid HR0
  clear HR0
  have hR := heap_newL w (.cells #[.int .u64 0, .int .i64 0, .int .i64 0, .int .i64 0, .int .i64 0, .int .i64 0] 26)
  have HB0 := hid ((Below.refl w.heap.size w).alloc (Nat.le_refl _) (.cells #[.int .u64 0, .int .i64 0, .int .i64 0, .int .i64 0, .int .i64 0, .int .i64 0] 26))
  rcases hE with ⟨rfl, rfl⟩ | ⟨rfl, rfl⟩
  · go_enter Tryz.func14, Tryz.ntmps14
    go_wp2_with fail
    refine (HR.out _).mono ?_
    rintro e w1 ⟨vi, vk, vd, vv, vf, rfl, hang, hb⟩
    have hR1 := (hb.block _ (by simp)).trans hR
    have HB1 := hid (HB0.out.trans (hb.mono (by simp)))
    have hz : w.heap.size < w1.heap.size := by have := hb.size; simp at this; omega
    obtain ⟨ai, mi, ci, rfl⟩ := hang.items.slice
    obtain ⟨ak, mk, ck, rfl⟩ := hang.keys.slice
    obtain ⟨ad, md, cd, rfl⟩ := hang.kids.slice
    obtain ⟨av, mv, cv, rfl⟩ := hang.vals.slice
    obtain ⟨af, mf, cf, rfl⟩ := hang.free.slice
    clear hang hb HR hR HB0
    obtain ⟨k1, i1, y1, d1, t1, v1, f1, n1, ⟨x1, ⟨g1, c1, q1⟩, r1, l1⟩⟩ := p
    unfold pageCells
    have hP := heap_newL w1 (.cells #[.int .i64 k1, .slice ai mi ci, .slice ak mk ck, .slice ad md cd, .string t1, .slice av mv cv, .slice af mf cf, .int .i64 n1, .int .u64 x1, .int .i64 g1, .int .i64 c1, .int .i64 q1, .int .i64 r1, .int .i64 l1] 50)
    have hR2 := (Below.heap_alloc w1 (.cells #[.int .i64 k1, .slice ai mi ci, .slice ak mk ck, .slice ad md cd, .string t1, .slice av mv cv, .slice af mf cf, .int .i64 n1, .int .u64 x1, .int .i64 g1, .int .i64 c1, .int .i64 q1, .int .i64 r1, .int .i64 l1] 50) _ hz).trans hR1
    have cP := cell_rowL hP
    have cR := cell_rowL hR2
    have fR := frozen_rowL hR2
    go_wp2
    have HX := hid (HB1.out.trans (((Below.refl w1.heap.size w1).alloc (Nat.le_refl _) (.cells #[.int .i64 k1, .slice ai mi ci, .slice ak mk ck, .slice ad md cd, .string t1, .slice av mv cv, .slice af mf cf, .int .i64 n1, .int .u64 x1, .int .i64 g1, .int .i64 c1, .int .i64 q1, .int .i64 r1, .int .i64 l1] 50)).mono (Nat.le_of_lt hz)))
    clear hP hR1 hR2 HB1
    generalize w1.alloc (.cells #[.int .i64 k1, .slice ai mi ci, .slice ak mk ck, .slice ad md cd, .string t1, .slice av mv cv, .slice af mf cf, .int .i64 n1, .int .u64 x1, .int .i64 g1, .int .i64 c1, .int .i64 q1, .int .i64 r1, .int .i64 l1] 50) = X at *
    generalize w1.heap.size = P at *
    go_region
    go_wp2
    refine bodyPost_ret (v := .tuple #[metaA ⟨x1, ⟨g1, c1, q1⟩, r1, l1⟩, .bool (decide (k1 = 6))]) (by simp [results, Tryz.results14, go_sem, cR, metaA]; rfl) rfl ⟨rfl, below_drew ?_⟩
    repeat (refine Below.setCell ?_ (by simp) _)
    exact HX.out
  · go_enter Tryz.func14, Tryz.ntmps14
    go_wp2_with fail
    refine (HR.out _).mono ?_
    rintro e w1 ⟨vi, vk, vd, vv, vf, rfl, hang, hb⟩
    have hR1 := (hb.block _ (by simp)).trans hR
    have HB1 := hid (HB0.out.trans (hb.mono (by simp)))
    have hz : w.heap.size < w1.heap.size := by have := hb.size; simp at this; omega
    obtain ⟨ai, mi, ci, rfl⟩ := hang.items.slice
    obtain ⟨ak, mk, ck, rfl⟩ := hang.keys.slice
    obtain ⟨ad, md, cd, rfl⟩ := hang.kids.slice
    obtain ⟨av, mv, cv, rfl⟩ := hang.vals.slice
    obtain ⟨af, mf, cf, rfl⟩ := hang.free.slice
    clear hang hb HR hR HB0
    obtain ⟨k1, i1, y1, d1, t1, v1, f1, n1, ⟨x1, ⟨g1, c1, q1⟩, r1, l1⟩⟩ := p
    unfold pageCells
    have hP := heap_newL w1 (.cells #[.int .i64 k1, .slice ai mi ci, .slice ak mk ck, .slice ad md cd, .string t1, .slice av mv cv, .slice af mf cf, .int .i64 n1, .int .u64 x1, .int .i64 g1, .int .i64 c1, .int .i64 q1, .int .i64 r1, .int .i64 l1] 50)
    have hR2 := (Below.heap_alloc w1 (.cells #[.int .i64 k1, .slice ai mi ci, .slice ak mk ck, .slice ad md cd, .string t1, .slice av mv cv, .slice af mf cf, .int .i64 n1, .int .u64 x1, .int .i64 g1, .int .i64 c1, .int .i64 q1, .int .i64 r1, .int .i64 l1] 50) _ hz).trans hR1
    have cP := cell_rowL hP
    have cR := cell_rowL hR2
    have fR := frozen_rowL hR2
    go_wp2
    have HX := hid (HB1.out.trans (((Below.refl w1.heap.size w1).alloc (Nat.le_refl _) (.cells #[.int .i64 k1, .slice ai mi ci, .slice ak mk ck, .slice ad md cd, .string t1, .slice av mv cv, .slice af mf cf, .int .i64 n1, .int .u64 x1, .int .i64 g1, .int .i64 c1, .int .i64 q1, .int .i64 r1, .int .i64 l1] 50)).mono (Nat.le_of_lt hz)))
    clear hP hR1 hR2 HB1
    generalize w1.alloc (.cells #[.int .i64 k1, .slice ai mi ci, .slice ak mk ck, .slice ad md cd, .string t1, .slice av mv cv, .slice af mf cf, .int .i64 n1, .int .u64 x1, .int .i64 g1, .int .i64 c1, .int .i64 q1, .int .i64 r1, .int .i64 l1] 50) = X at *
    generalize w1.heap.size = P at *
    go_region
    go_wp2
    refine bodyPost_ret (v := .tuple #[metaA ⟨x1, ⟨g1, c1, q1⟩, r1, l1⟩, .bool (false)]) (by simp [results, Tryz.results14, go_sem, cR, metaA]) rfl ⟨rfl, below_drew ?_⟩
    repeat (refine Below.setCell ?_ (by simp) _)
    exact HX.out
theorem mread_any (s : ByteArray) (w : World) (hs : s.size ≤ maxLen) :
    Calls Tryz.prog 14 #[.string s] w fun e w' => e = .returned (.tuple #[metaA (readD s.data.toList).mt, .bool (okMt s.data.toList)]) ∧ Below w.heap.size w w' := by
  refine mread_of s w (readD s.data.toList) (readE s.data.toList) (okR s.data.toList) ?_ (fun W => read_any s W hs)
  unfold readE
  cases okR s.data.toList
  · exact .inr ⟨rfl, rfl⟩
  · exact .inl ⟨rfl, rfl⟩
end Go.Proofs.YtgnmjdcmaahlnaaGreat

namespace Go.Proofs.YtgnmjdcmaahlnaaGreat
open Go.RowKit Go.Sort Go.Conc

/-- Of these metas, one behind the other, the last one that is later than those ahead of it. -/
def pickM : List MetaD → MetaD × Bool
  | [] => (noMeta, false)
  | [m] => (m, true)
  | m :: n :: _ => (if m.txn < n.txn then n else m, true)
def errM (t : Bool) : Value := if t then .nilIface else .iface 38 (.int .i64 12)

def zeros : Array Value := #[.int .u64 0, .int .i64 0, .int .i64 0, .int .i64 0, .int .i64 0, .int .i64 0]
/-- The channel in block c, the result's place in R, the meta so far in L. -/
structure InL (w W : World) (c R L : Nat) (l : List Value) (cs : Array Value) (s r : Nat) : Prop where
  chan : W.heap[c]? = some (.chan 2 l.toArray false s r false)
  res : W.heap[R]? = some (.cells zeros 26 (0, 0))
  last : W.heap[L]? = some (.cells cs 26 (0, 0))
  grown : w.grownBy W (some c)
  hc : c < w.heap.size
  hR : w.heap.size = R
  hL : R + 1 = L
  hLs : L < W.heap.size
theorem lt_of_chan {w : World} {c cap s r : Nat} {buf : Array Value} {cl tm : Bool} (h : w.heap[c]? = some (.chan cap buf cl s r tm)) : c < w.heap.size := by
  rcases Nat.lt_or_ge c w.heap.size with h' | h'
  · exact h'
  · simp [Array.getElem?_eq_none h'] at h
theorem inL_start {w : World} {c s r : Nat} {l : List Value} (h : w.heap[c]? = some (.chan 2 l.toArray false s r false)) :
    InL w ((w.alloc (.cells zeros 26)).alloc (.cells zeros 26)) c w.heap.size (w.heap.size + 1) l zeros s r := by
  have hlt := lt_of_chan h
  refine ⟨?_, ?_, ?_, ?_, hlt, rfl, rfl, by simp⟩
  · rw [Below.heap_alloc _ _ _ (by simp; omega), Below.heap_alloc _ _ _ hlt, h]
  · rw [Below.heap_alloc _ _ _ (by simp), heap_newL]
  · have := heap_newL (w.alloc (.cells zeros 26)) (.cells zeros 26)
    simpa only [World.size_alloc] using this
  · exact grown_new (grown_new (grown_refl w (some c)) _) _
/-- The first loop in a text. -/
def loopIn : Code → Option Code
  | .loop c => some c
  | .seq a b => (loopIn a).or (loopIn b)
  | .block _ c => loopIn c
  | _ => none
/-- The first loop of a function. -/
def lcOf (f : Func) : Code := (f.body.bind loopIn).getD .skip
def metaC (m : MetaD) : Array Value := #[.int .u64 m.txn, .int .i64 m.main.page, .int .i64 m.main.count, .int .i64 m.main.flags, .int .i64 m.free, .int .i64 m.last]
/-- The frame at a round's beginning. -/
def act14 (c R L : Nat) (E t6 t7 t8 t9 t10 t11 t12 t13 t14 t15 t16 t17 t18 t19 t20 t21 t22 t23 t24 : Value) : Act := ⟨#[.chan (some c), undef, .pointer (some ⟨R, 0, none⟩), .nilIface, .pointer (some ⟨L, 0, none⟩), E, t6, t7, t8, t9, t10, t11, t12, t13, t14, t15, t16, t17, t18, t19, t20, t21, t22, t23, t24], []⟩
def Post14 (w : World) (c : Nat) (m : MetaD) (E : Value) : Exit → Act → World → Prop := bodyPost Tryz.prog Tryz.f15 fun e w' => e = .returned (.tuple #[metaA m, E]) ∧ w.grownBy w' (some c)

theorem set6 {w : World} {b : Nat} {T : TypeId} {c0 c1 c2 c3 c4 c5 : Value} (h : w.heap[b]? = some (.cells #[c0, c1, c2, c3, c4, c5] T (0, 0))) (d0 d1 d2 d3 d4 d5 : Value) :
    ((((((w.setCell ⟨b, 0, none⟩ d0).setCell ⟨b, 1, none⟩ d1).setCell ⟨b, 2, none⟩ d2).setCell ⟨b, 3, none⟩ d3).setCell ⟨b, 4, none⟩ d4).setCell ⟨b, 5, none⟩ d5).heap[b]? = some (.cells #[d0, d1, d2, d3, d4, d5] T (0, 0)) := by
  have h0 := heap_setCell_same w b 0 _ T d0 h
  have h1 := heap_setCell_same _ b 1 _ T d1 h0
  have h2 := heap_setCell_same _ b 2 _ T d2 h1
  have h3 := heap_setCell_same _ b 3 _ T d3 h2
  have h4 := heap_setCell_same _ b 4 _ T d4 h3
  have h5 := heap_setCell_same _ b 5 _ T d5 h4
  simpa using h5

set_option maxHeartbeats 4000000 in
/-- Nothing lies ready: what there is so far is the answer. -/
theorem round_none (K : Act → World → Prop) (w W : World) (c R L s r : Nat) (m : MetaD) (E : Value) (hE : E = .nilIface ∨ E = .iface 38 (.int .i64 12)) (HI : InL w W c R L [] (metaC m) s r) (t6 t7 t8 t9 t10 t11 t12 t13 t14 t15 t16 t17 t18 t19 t20 t21 t22 t23 t24 : Value) :
    (lcOf Tryz.f15).wp Tryz.prog (Exit.then K (Exit.inBlock 0 (Post14 w c m E))) (act14 c R L E t6 t7 t8 t9 t10 t11 t12 t13 t14 t15 t16 t17 t18 t19 t20 t21 t22 t23 t24) W := by
  have cL := cell_rowL HI.last
  have cR := cell_rowL HI.res
  unfold zeros at cR
  have fR := frozen_rowL HI.res
  have hRL : R < L := by have := HI.hL; omega
  replace HI := hid HI
  obtain ⟨m1, ⟨m2, m3, m4⟩, m5, m6⟩ := m
  unfold act14 lcOf
  simp only [metaC] at cL
  simp only [Tryz.f15, loopIn, Option.bind_some, Option.none_or, Option.getD_some]
  unfold Post14
  rcases hE with rfl | rfl
  all_goals
    iterate 11 go_step
    refine wp_none (c := c) (z := .agg #[.int .u64 0, .int .i64 0, .int .i64 0, .int .i64 0, .int .i64 0, .int .i64 0]) ?_ HI.out.chan ?_
    · simp [go_sem, execOp, rcase, Act.eval]
    simp only [goInt]
    go_simp
    go_wp2
    refine bodyPost_ret (v := .tuple #[.agg #[.int .u64 m1, .int .i64 m2, .int .i64 m3, .int .i64 m4, .int .i64 m5, .int .i64 m6], _]) (by simp [results, Tryz.results15, go_sem, cR]) rfl ⟨rfl, ?_⟩
    have hR := HI.out.hR
    have HG := HI.out.grown
    repeat (refine grown_set ?_ R _ (Nat.le_of_eq hR) _)
    exact HG

/-- Behind a receive. -/
theorem InL.got {w W : World} {c R L s r : Nat} {v : Value} {l : List Value} {cs : Array Value} (HI : InL w W c R L (v :: l) cs s r) : InL w (W.setChan c 2 l.toArray false s (r + 1) false) c R L l cs s (r + 1) := by
  obtain ⟨h1, h2, h3, h4, h5, h6, h7, h8⟩ := HI
  exact ⟨heap_setChan _ _ _ _ _ _ _ _ (lt_of_chan h1), by rw [setChan_other _ _ _ _ _ _ _ _ _ (by omega), h2], by rw [setChan_other _ _ _ _ _ _ _ _ _ (by omega), h3],
    grown_trans h4 (grown_setChan W c 2 l.toArray false s (r + 1) false), h5, h6, h7, by simpa [World.setChan] using h8⟩
theorem InL.new {w W : World} {c R L s r : Nat} {l : List Value} {cs : Array Value} (HI : InL w W c R L l cs s r) (o : Obj) : InL w (W.alloc o) c R L l cs s r := by
  obtain ⟨h1, h2, h3, h4, h5, h6, h7, h8⟩ := HI
  have := lt_of_chan h1
  exact ⟨by rw [Below.heap_alloc _ _ _ this, h1], by rw [Below.heap_alloc _ _ _ (by omega), h2], by rw [Below.heap_alloc _ _ _ h8, h3], grown_new h4 _, h5, h6, h7, by simp; omega⟩
/-- The one so far is another one now. -/
theorem InL.put {w W : World} {c R L s r : Nat} {l : List Value} {c0 c1 c2 c3 c4 c5 : Value} (HI : InL w W c R L l #[c0, c1, c2, c3, c4, c5] s r) (d0 d1 d2 d3 d4 d5 : Value) :
    InL w ((((((W.setCell ⟨L, 0, none⟩ d0).setCell ⟨L, 1, none⟩ d1).setCell ⟨L, 2, none⟩ d2).setCell ⟨L, 3, none⟩ d3).setCell ⟨L, 4, none⟩ d4).setCell ⟨L, 5, none⟩ d5) c R L l #[d0, d1, d2, d3, d4, d5] s r := by
  obtain ⟨h1, h2, h3, h4, h5, h6, h7, h8⟩ := HI
  have hLw : w.heap.size ≤ L := by omega
  refine ⟨?_, ?_, set6 h3 _ _ _ _ _ _, ?_, h5, h6, h7, by simpa using h8⟩
  · iterate 6 rw [Below.heap_setCell _ _ _ _ (by simp; omega)]
    exact h1
  · iterate 6 rw [Below.heap_setCell _ _ _ _ (by simp; omega)]
    exact h2
  · repeat (refine grown_set ?_ L _ hLw _)
    exact h4

set_option maxHeartbeats 4000000 in
/-- One lies ready, and there was none so far: it is the one. -/
theorem round_first (K : Act → World → Prop) (Q : Exit → Act → World → Prop) (w W : World) (c R L s r : Nat) (n : MetaD) (l : List Value) (HI : InL w W c R L (metaA n :: l) zeros s r)
    (HK : ∀ W' u6 u7 u8 u9 u10 u11 u12 u13 u14 u15 u16 u17 u18 u19 u20 u21 u22 u23 u24, InL w W' c R L l (metaC n) s (r + 1) → K (act14 c R L .nilIface u6 u7 u8 u9 u10 u11 u12 u13 u14 u15 u16 u17 u18 u19 u20 u21 u22 u23 u24) W') (t6 t7 t8 t9 t10 t11 t12 t13 t14 t15 t16 t17 t18 t19 t20 t21 t22 t23 t24 : Value) :
    (lcOf Tryz.f15).wp Tryz.prog (Exit.then K Q) (act14 c R L (.iface 38 (.int .i64 12)) t6 t7 t8 t9 t10 t11 t12 t13 t14 t15 t16 t17 t18 t19 t20 t21 t22 t23 t24) W := by
  have HG := HI.got
  replace HK := hid HK
  have hch := hid HI.chan
  have hs1 : 0 < (metaA n :: l).toArray.size := by simp
  have e1 : (metaA n :: l).toArray.getD 0 undef = metaA n := by simp
  have e2 : (metaA n :: l).toArray.extract 1 (metaA n :: l).toArray.size = l.toArray := by simp
  clear HI
  unfold act14 lcOf
  simp only [Tryz.f15, loopIn, Option.bind_some, Option.none_or, Option.getD_some]
  iterate 10 go_step
  refine wp_recv (c := c) (z := .agg #[.int .u64 0, .int .i64 0, .int .i64 0, .int .i64 0, .int .i64 0, .int .i64 0]) ?_ hch.out hs1 ?_
  · simp [go_sem, execOp, rcase, Act.eval]
  rw [e1, e2]
  clear e1 e2 hs1 hch
  obtain ⟨n1, ⟨n2, n3, n4⟩, n5, n6⟩ := n
  simp only [goInt, metaA]
  go_simp
  generalize W.setChan c 2 l.toArray false s (r + 1) false = X at *
  have cL := cell_rowL HG.last
  have fL := frozen_rowL HG.last
  have hLX := HG.hLs
  unfold zeros at cL
  unfold zeros at HG
  have HN := hid ((HG.put (.int .u64 n1) (.int .i64 n2) (.int .i64 n3) (.int .i64 n4) (.int .i64 n5) (.int .i64 n6)).new (.cells #[.int .u64 n1, .int .i64 n2, .int .i64 n3, .int .i64 n4, .int .i64 n5, .int .i64 n6] 26))
  clear HG
  go_wp2
  exact HK.out _ _ _ _ _ _ _ _ _ _ _ _ _ _ _ _ _ _ _ _ HN.out

set_option maxHeartbeats 4000000 in
/-- One lies ready that is later than the one so far. -/
theorem round_later (K : Act → World → Prop) (Q : Exit → Act → World → Prop) (w W : World) (c R L s r : Nat) (m n : MetaD) (l : List Value) (HI : InL w W c R L (metaA n :: l) (metaC m) s r) (hlt : m.txn < n.txn)
    (HK : ∀ W' u6 u7 u8 u9 u10 u11 u12 u13 u14 u15 u16 u17 u18 u19 u20 u21 u22 u23 u24, InL w W' c R L l (metaC n) s (r + 1) → K (act14 c R L .nilIface u6 u7 u8 u9 u10 u11 u12 u13 u14 u15 u16 u17 u18 u19 u20 u21 u22 u23 u24) W') (t6 t7 t8 t9 t10 t11 t12 t13 t14 t15 t16 t17 t18 t19 t20 t21 t22 t23 t24 : Value) :
    (lcOf Tryz.f15).wp Tryz.prog (Exit.then K Q) (act14 c R L .nilIface t6 t7 t8 t9 t10 t11 t12 t13 t14 t15 t16 t17 t18 t19 t20 t21 t22 t23 t24) W := by
  have HG := HI.got
  replace HK := hid HK
  have hch := hid HI.chan
  have hs1 : 0 < (metaA n :: l).toArray.size := by simp
  have e1 : (metaA n :: l).toArray.getD 0 undef = metaA n := by simp
  have e2 : (metaA n :: l).toArray.extract 1 (metaA n :: l).toArray.size = l.toArray := by simp
  clear HI
  unfold act14 lcOf
  simp only [Tryz.f15, loopIn, Option.bind_some, Option.none_or, Option.getD_some]
  iterate 10 go_step
  refine wp_recv (c := c) (z := .agg #[.int .u64 0, .int .i64 0, .int .i64 0, .int .i64 0, .int .i64 0, .int .i64 0]) ?_ hch.out hs1 ?_
  · simp [go_sem, execOp, rcase, Act.eval]
  rw [e1, e2]
  clear e1 e2 hs1 hch
  obtain ⟨n1, ⟨n2, n3, n4⟩, n5, n6⟩ := n
  obtain ⟨m1, ⟨m2, m3, m4⟩, m5, m6⟩ := m
  simp only [goInt, metaA]
  go_simp
  generalize W.setChan c 2 l.toArray false s (r + 1) false = X at *
  have cL := cell_rowL HG.last
  have fL := frozen_rowL HG.last
  have hLX := HG.hLs
  simp only [metaC] at cL HG
  have HN := hid ((HG.put (.int .u64 n1) (.int .i64 n2) (.int .i64 n3) (.int .i64 n4) (.int .i64 n5) (.int .i64 n6)).new (.cells #[.int .u64 n1, .int .i64 n2, .int .i64 n3, .int .i64 n4, .int .i64 n5, .int .i64 n6] 26))
  clear HG
  replace hlt : m1 < n1 := hlt
  go_wp2
  exact HK.out _ _ _ _ _ _ _ _ _ _ _ _ _ _ _ _ _ _ _ _ HN.out

set_option maxHeartbeats 4000000 in
/-- One lies ready that isn't. -/
theorem round_not (K : Act → World → Prop) (Q : Exit → Act → World → Prop) (w W : World) (c R L s r : Nat) (m n : MetaD) (l : List Value) (HI : InL w W c R L (metaA n :: l) (metaC m) s r) (hlt : ¬ m.txn < n.txn)
    (HK : ∀ W' u6 u7 u8 u9 u10 u11 u12 u13 u14 u15 u16 u17 u18 u19 u20 u21 u22 u23 u24, InL w W' c R L l (metaC m) s (r + 1) → K (act14 c R L .nilIface u6 u7 u8 u9 u10 u11 u12 u13 u14 u15 u16 u17 u18 u19 u20 u21 u22 u23 u24) W') (t6 t7 t8 t9 t10 t11 t12 t13 t14 t15 t16 t17 t18 t19 t20 t21 t22 t23 t24 : Value) :
    (lcOf Tryz.f15).wp Tryz.prog (Exit.then K Q) (act14 c R L .nilIface t6 t7 t8 t9 t10 t11 t12 t13 t14 t15 t16 t17 t18 t19 t20 t21 t22 t23 t24) W := by
  have HG := HI.got
  replace HK := hid HK
  have hch := hid HI.chan
  have hs1 : 0 < (metaA n :: l).toArray.size := by simp
  have e1 : (metaA n :: l).toArray.getD 0 undef = metaA n := by simp
  have e2 : (metaA n :: l).toArray.extract 1 (metaA n :: l).toArray.size = l.toArray := by simp
  clear HI
  unfold act14 lcOf
  simp only [Tryz.f15, loopIn, Option.bind_some, Option.none_or, Option.getD_some]
  iterate 10 go_step
  refine wp_recv (c := c) (z := .agg #[.int .u64 0, .int .i64 0, .int .i64 0, .int .i64 0, .int .i64 0, .int .i64 0]) ?_ hch.out hs1 ?_
  · simp [go_sem, execOp, rcase, Act.eval]
  rw [e1, e2]
  clear e1 e2 hs1 hch
  obtain ⟨n1, ⟨n2, n3, n4⟩, n5, n6⟩ := n
  obtain ⟨m1, ⟨m2, m3, m4⟩, m5, m6⟩ := m
  simp only [goInt, metaA]
  go_simp
  generalize W.setChan c 2 l.toArray false s (r + 1) false = X at *
  have cL := cell_rowL HG.last
  have hLX := HG.hLs
  have HN := hid (HG.new (.cells #[.int .u64 n1, .int .i64 n2, .int .i64 n3, .int .i64 n4, .int .i64 n5, .int .i64 n6] 26))
  simp only [metaC] at cL
  clear HG
  replace hlt : ¬ m1 < n1 := hlt
  go_wp2
  exact HK.out _ _ _ _ _ _ _ _ _ _ _ _ _ _ _ _ _ _ _ _ HN.out

/-- What lies in the channel, of two at most: the latest of them. -/
theorem latest_any (c s r : Nat) (l : List MetaD) (hl : l.length ≤ 2) (w : World) (hc : w.heap[c]? = some (.chan 2 (l.map metaA).toArray false s r false)) :
    Calls Tryz.prog 15 #[.chan (some c)] w fun e w' => e = .returned (.tuple #[metaA (pickM l).1, errM (pickM l).2]) ∧ w.grownBy w' (some c) := by
  have HI := inL_start hc
  clear hc
  unfold zeros at HI
  have hend : ∀ (t : Bool), errM t = .nilIface ∨ errM t = .iface 38 (.int .i64 12) := by intro t; cases t <;> simp [errM]
  go_enter Tryz.func15, Tryz.ntmps15
  go_wp2
  change Code.wp Tryz.prog (Code.loop (lcOf Tryz.f15)) (Exit.inBlock 0 (Post14 w c (pickM l).1 (errM (pickM l).2))) (act14 c w.heap.size (w.heap.size + 1) (.iface 38 (.int .i64 12)) undef (.iface 38 (.int .i64 12)) undef undef undef undef undef undef undef undef undef undef undef undef undef undef undef undef undef) _
  refine wp_first ?_
  match l, hl with
  | [], _ => exact round_none _ _ _ _ _ _ _ _ noMeta _ (hend false) HI _ _ _ _ _ _ _ _ _ _ _ _ _ _ _ _ _ _ _
  | [m], _ =>
    refine round_first _ _ _ _ _ _ _ _ _ m _ HI ?_ _ _ _ _ _ _ _ _ _ _ _ _ _ _ _ _ _ _ _
    intro W' u6 u7 u8 u9 u10 u11 u12 u13 u14 u15 u16 u17 u18 u19 u20 u21 u22 u23 u24 HW
    refine wp_again ?_
    exact round_none _ _ _ _ _ _ _ _ m _ (hend true) HW u6 u7 u8 u9 u10 u11 u12 u13 u14 u15 u16 u17 u18 u19 u20 u21 u22 u23 u24
  | [m, n], _ =>
    refine round_first _ _ _ _ _ _ _ _ _ m _ HI ?_ _ _ _ _ _ _ _ _ _ _ _ _ _ _ _ _ _ _ _
    intro W' u6 u7 u8 u9 u10 u11 u12 u13 u14 u15 u16 u17 u18 u19 u20 u21 u22 u23 u24 HW
    refine wp_again ?_
    by_cases hlt : m.txn < n.txn
    · refine round_later _ _ _ _ _ _ _ _ _ m n _ HW hlt ?_ u6 u7 u8 u9 u10 u11 u12 u13 u14 u15 u16 u17 u18 u19 u20 u21 u22 u23 u24
      intro W'' v6 v7 v8 v9 v10 v11 v12 v13 v14 v15 v16 v17 v18 v19 v20 v21 v22 v23 v24 HW'
      refine wp_again ?_
      have e : pickM [m, n] = (n, true) := by simp [pickM, hlt]
      rw [e]
      exact round_none _ _ _ _ _ _ _ _ n _ (hend true) HW' v6 v7 v8 v9 v10 v11 v12 v13 v14 v15 v16 v17 v18 v19 v20 v21 v22 v23 v24
    · refine round_not _ _ _ _ _ _ _ _ _ m n _ HW hlt ?_ u6 u7 u8 u9 u10 u11 u12 u13 u14 u15 u16 u17 u18 u19 u20 u21 u22 u23 u24
      intro W'' v6 v7 v8 v9 v10 v11 v12 v13 v14 v15 v16 v17 v18 v19 v20 v21 v22 v23 v24 HW'
      refine wp_again ?_
      have e : pickM [m, n] = (m, true) := by simp [pickM, hlt]
      rw [e]
      exact round_none _ _ _ _ _ _ _ _ m _ (hend true) HW' v6 v7 v8 v9 v10 v11 v12 v13 v14 v15 v16 v17 v18 v19 v20 v21 v22 v23 v24
end Go.Proofs.YtgnmjdcmaahlnaaGreat

namespace Go.Proofs.YtgnmjdcmaahlnaaGreat
open Go.RowKit Go.Sort Go.Conc

/-- The result's place in R, the channel in c, with what was sent. -/
structure InC (w W : World) (R c : Nat) (l : List Value) : Prop where
  chan : ∃ s, W.heap[c]? = some (.chan 2 l.toArray false s 0 false)
  res : W.heap[R]? = some (.cells zeros 26 (0, 0))
  below : Below w.heap.size w W
  hR : w.heap.size = R
  hc : R + 1 = c
theorem InC.lt {w W : World} {R c : Nat} {l : List Value} (h : InC w W R c l) : c < W.heap.size := by
  obtain ⟨s, hs⟩ := h.chan
  exact lt_of_chan hs
theorem InC.go {w W W' : World} {R c : Nat} {l : List Value} (h : InC w W R c l) (hb : Below W.heap.size W W') : InC w W' R c l := by
  have hlt := h.lt
  obtain ⟨⟨s, h1⟩, h2, h3, h4, h5⟩ := h
  exact ⟨⟨s, (hb.block c hlt).trans h1⟩, (hb.block R (by omega)).trans h2, h3.trans (hb.mono h3.size), h4, h5⟩
theorem InC.new {w W : World} {R c : Nat} {l : List Value} (h : InC w W R c l) (o : Obj) : InC w (W.alloc o) R c l := h.go ((Below.refl _ _).alloc (Nat.le_refl _) _)
theorem InC.sent {w W : World} {R c s : Nat} {l : List Value} (h : InC w W R c l) (v : Value) : InC w (W.setChan c 2 (l.toArray.push v) false s 0 false) R c (l ++ [v]) := by
  have hlt := h.lt
  obtain ⟨_, h2, h3, h4, h5⟩ := h
  refine ⟨⟨s, ?_⟩, ?_, below_setChan h3 (by omega) _ _ _ _ _ _, h4, h5⟩
  · have := heap_setChan W c 2 (l.toArray.push v) false s 0 false hlt
    simpa using this
  · rw [setChan_other _ _ _ _ _ _ _ _ _ (by omega), h2]
theorem below_grown {B c : Nat} {w W W' : World} (h : Below B w W) (hg : W.grownBy W' (some c)) (hc : B ≤ c) (hB : B ≤ W.heap.size) : Below B w W' :=
  ⟨hg.os.trans h.os, hg.tape.trans h.tape, hg.output.trans h.output, Nat.le_trans h.size hg.size, fun k hk => (hg.block k (by omega) (by simp; omega)).trans (h.block k hk)⟩
theorem inC_start (w : World) : InC w ((w.alloc (.cells zeros 26)).alloc (.chan 2 #[] false 0 0 false)) w.heap.size (w.heap.size + 1) [] := by
  refine ⟨⟨0, ?_⟩, ?_, ((Below.refl _ _).alloc (Nat.le_refl _) _).alloc (by simp) _, rfl, rfl⟩
  · have := heap_newL (w.alloc (.cells zeros 26)) (.chan 2 #[] false 0 0 false)
    simpa only [World.size_alloc] using this
  · rw [Below.heap_alloc _ _ _ (by simp), heap_newL]

/-- What a text sends that lies on page k. -/
def sentL (x : List UInt8) (k : Int) : List MetaD := if okMt x && decide ((readD x).mt.txn % 2 = k) then [(readD x).mt] else []
def act8 (a b : ByteArray) (R c : Nat) (k : Int) (t7 t8 t9 t10 t11 t12 t13 t16 t17 t18 t19 t20 t21 t22 t23 t24 t25 t26 t27 t28 t29 t30 t31 t32 t33 t34 t35 t36 t37 t38 : Value) : Act :=
  ⟨#[.string a, .string b, undef, undef, .pointer (some ⟨R, 0, none⟩), .nilIface, .chan (some c), t7, t8, t9, t10, t11, t12, t13, .agg #[.string a, .string b], .int .i64 k, t16, t17, t18, t19, t20, t21, t22, t23, t24, t25, t26, t27, t28, t29, t30, t31, t32, t33, t34, t35, t36, t37, t38], []⟩
theorem ix0 (a b : ByteArray) (w : World) : (Instr.index 41 (.agg #[.string a, .string b]) (.int .i64 0)).run Tryz.prog w = .ok (.string a) w := by
  simp [Instr.index, go_sem]
theorem ix1 (a b : ByteArray) (w : World) : (Instr.index 41 (.agg #[.string a, .string b]) (.int .i64 1)).run Tryz.prog w = .ok (.string b) w := by
  simp [Instr.index, go_sem]
theorem read_txn (x : List UInt8) : 0 ≤ (readD x).mt.txn ∧ (readD x).mt.txn < 18446744073709551616 := by
  unfold readD
  split
  · exact (txnOk_pageV _).1
  · simp [noPage]

set_option maxRecDepth 100000 in
set_option maxHeartbeats 4000000 in
theorem round_c0 (K : Act → World → Prop) (Q : Exit → Act → World → Prop) (a b : ByteArray) (w W : World) (R c : Nat) (l : List Value) (HI : InC w W R c l) (hl : l.length < 2) (hx : a.size ≤ maxLen)
    (HK : ∀ W' u7 u8 u9 u10 u11 u12 u13 u16 u17 u18 u19 u20 u21 u22 u23 u24 u25 u26 u27 u28 u29 u30 u31 u32 u33 u34 u35 u36 u37 u38, InC w W' R c (l ++ (sentL a.data.toList 0).map metaA) → K (act8 a b R c 1 u7 u8 u9 u10 u11 u12 u13 u16 u17 u18 u19 u20 u21 u22 u23 u24 u25 u26 u27 u28 u29 u30 u31 u32 u33 u34 u35 u36 u37 u38) W') (t7 t8 t9 t10 t11 t12 t13 t16 t17 t18 t19 t20 t21 t22 t23 t24 t25 t26 t27 t28 t29 t30 t31 t32 t33 t34 t35 t36 t37 t38 : Value) :
    (lcOf Tryz.f5).wp Tryz.prog (Exit.then K Q) (act8 a b R c 0 t7 t8 t9 t10 t11 t12 t13 t16 t17 t18 t19 t20 t21 t22 t23 t24 t25 t26 t27 t28 t29 t30 t31 t32 t33 t34 t35 t36 t37 t38) W := by
  have HR := hid (fun W => mread_any a W hx)
  have ht := read_txn a.data.toList
  unfold sentL at HK
  generalize (readD a.data.toList).mt = n at *
  generalize okMt a.data.toList = t at *
  replace HI := hid HI
  replace HK := hid HK
  obtain ⟨n1, ⟨n2, n3, n4⟩, n5, n6⟩ := n
  obtain ⟨ht0, ht1⟩ := ht
  replace ht0 : 0 ≤ n1 := ht0
  replace ht1 : n1 < 18446744073709551616 := ht1
  clear hx
  have hix := ix0 a b
  unfold act8 lcOf
  simp only [Tryz.f5, loopIn, Option.bind_some, Option.none_or, Option.some_or, Option.getD_some]
  cases t
  · go_wp2_with fail
    refine (HR.out _).mono ?_
    rintro e w1 ⟨rfl, hb⟩
    have H1 := hid (HI.out.go hb)
    simp only [metaA]
    have H2 := hid (H1.out.new (.cells #[.int .u64 n1, .int .i64 n2, .int .i64 n3, .int .i64 n4, .int .i64 n5, .int .i64 n6] 26))
    clear hb HI H1 HR
    go_wp2
    exact HK.out _ _ _ _ _ _ _ _ _ _ _ _ _ _ _ _ _ _ _ _ _ _ _ _ _ _ _ _ _ _ _ (by simpa using H2.out)
  · by_cases hp : n1 % 2 = 0
    · go_wp2_with fail
      refine (HR.out _).mono ?_
      rintro e w1 ⟨rfl, hb⟩
      have H1 := hid (HI.out.go hb)
      simp only [metaA]
      have H2 := H1.out.new (.cells #[.int .u64 n1, .int .i64 n2, .int .i64 n3, .int .i64 n4, .int .i64 n5, .int .i64 n6] 26)
      obtain ⟨sn, hch⟩ := H2.chan
      have HS := hid (H2.sent (s := sn + 1) (.agg #[.int .u64 n1, .int .i64 n2, .int .i64 n3, .int .i64 n4, .int .i64 n5, .int .i64 n6]))
      have hcl : c < w1.heap.size := H1.out.lt
      replace hch := hid hch
      have hroom : l.toArray.size < 2 := by simpa using hl
      clear hb HI H1 HR H2
      go_wp2_with fail
      refine (place_any n1 _ ht0 ht1).mono ?_
      rintro e w2 ⟨rfl, rfl⟩
      simp only []
      iterate 12 (try go_step)
      refine wp_send (c := c) (v0 := .chan (some c)) (v1 := .agg #[.int .u64 n1, .int .i64 n2, .int .i64 n3, .int .i64 n4, .int .i64 n5, .int .i64 n6]) (z := .tuple #[]) rfl rfl ?_ ?_ ?_ hch.out hroom ?_
      · simp [go_sem, execOp, Act.eval]
      · simp [go_sem, execOp, Act.eval, Act.put]
      · simp [go_sem, execOp, Act.eval, Act.put, scase]
      generalize (w1.alloc (.cells #[.int .u64 n1, .int .i64 n2, .int .i64 n3, .int .i64 n4, .int .i64 n5, .int .i64 n6] 26)).setChan c 2 (l.toArray.push (.agg #[.int .u64 n1, .int .i64 n2, .int .i64 n3, .int .i64 n4, .int .i64 n5, .int .i64 n6])) false (sn + 1) 0 false = X at *
      simp only [Act.put]
      go_simp
      go_wp2
      exact HK.out _ _ _ _ _ _ _ _ _ _ _ _ _ _ _ _ _ _ _ _ _ _ _ _ _ _ _ _ _ _ _ (by simpa [hp, metaA] using HS.out)
    · go_wp2_with fail
      refine (HR.out _).mono ?_
      rintro e w1 ⟨rfl, hb⟩
      have H1 := hid (HI.out.go hb)
      simp only [metaA]
      have H2 := hid (H1.out.new (.cells #[.int .u64 n1, .int .i64 n2, .int .i64 n3, .int .i64 n4, .int .i64 n5, .int .i64 n6] 26))
      clear hb HI H1 HR
      go_wp2_with fail
      refine (place_any n1 _ ht0 ht1).mono ?_
      rintro e w2 ⟨rfl, rfl⟩
      go_wp2
      exact HK.out _ _ _ _ _ _ _ _ _ _ _ _ _ _ _ _ _ _ _ _ _ _ _ _ _ _ _ _ _ _ _ (by simpa [hp] using H2.out)

set_option maxRecDepth 100000 in
set_option maxHeartbeats 4000000 in
theorem round_c1 (K : Act → World → Prop) (Q : Exit → Act → World → Prop) (a b : ByteArray) (w W : World) (R c : Nat) (l : List Value) (HI : InC w W R c l) (hl : l.length < 2) (hx : b.size ≤ maxLen)
    (HK : ∀ W' u7 u8 u9 u10 u11 u12 u13 u16 u17 u18 u19 u20 u21 u22 u23 u24 u25 u26 u27 u28 u29 u30 u31 u32 u33 u34 u35 u36 u37 u38, InC w W' R c (l ++ (sentL b.data.toList 1).map metaA) → K (act8 a b R c 2 u7 u8 u9 u10 u11 u12 u13 u16 u17 u18 u19 u20 u21 u22 u23 u24 u25 u26 u27 u28 u29 u30 u31 u32 u33 u34 u35 u36 u37 u38) W') (t7 t8 t9 t10 t11 t12 t13 t16 t17 t18 t19 t20 t21 t22 t23 t24 t25 t26 t27 t28 t29 t30 t31 t32 t33 t34 t35 t36 t37 t38 : Value) :
    (lcOf Tryz.f5).wp Tryz.prog (Exit.then K Q) (act8 a b R c 1 t7 t8 t9 t10 t11 t12 t13 t16 t17 t18 t19 t20 t21 t22 t23 t24 t25 t26 t27 t28 t29 t30 t31 t32 t33 t34 t35 t36 t37 t38) W := by
  have HR := hid (fun W => mread_any b W hx)
  have ht := read_txn b.data.toList
  unfold sentL at HK
  generalize (readD b.data.toList).mt = n at *
  generalize okMt b.data.toList = t at *
  replace HI := hid HI
  replace HK := hid HK
  obtain ⟨n1, ⟨n2, n3, n4⟩, n5, n6⟩ := n
  obtain ⟨ht0, ht1⟩ := ht
  replace ht0 : 0 ≤ n1 := ht0
  replace ht1 : n1 < 18446744073709551616 := ht1
  clear hx
  have hix := ix1 a b
  unfold act8 lcOf
  simp only [Tryz.f5, loopIn, Option.bind_some, Option.none_or, Option.some_or, Option.getD_some]
  cases t
  · go_wp2_with fail
    refine (HR.out _).mono ?_
    rintro e w1 ⟨rfl, hb⟩
    have H1 := hid (HI.out.go hb)
    simp only [metaA]
    have H2 := hid (H1.out.new (.cells #[.int .u64 n1, .int .i64 n2, .int .i64 n3, .int .i64 n4, .int .i64 n5, .int .i64 n6] 26))
    clear hb HI H1 HR
    go_wp2
    exact HK.out _ _ _ _ _ _ _ _ _ _ _ _ _ _ _ _ _ _ _ _ _ _ _ _ _ _ _ _ _ _ _ (by simpa using H2.out)
  · by_cases hp : n1 % 2 = 1
    · go_wp2_with fail
      refine (HR.out _).mono ?_
      rintro e w1 ⟨rfl, hb⟩
      have H1 := hid (HI.out.go hb)
      simp only [metaA]
      have H2 := H1.out.new (.cells #[.int .u64 n1, .int .i64 n2, .int .i64 n3, .int .i64 n4, .int .i64 n5, .int .i64 n6] 26)
      obtain ⟨sn, hch⟩ := H2.chan
      have HS := hid (H2.sent (s := sn + 1) (.agg #[.int .u64 n1, .int .i64 n2, .int .i64 n3, .int .i64 n4, .int .i64 n5, .int .i64 n6]))
      have hcl : c < w1.heap.size := H1.out.lt
      replace hch := hid hch
      have hroom : l.toArray.size < 2 := by simpa using hl
      clear hb HI H1 HR H2
      go_wp2_with fail
      refine (place_any n1 _ ht0 ht1).mono ?_
      rintro e w2 ⟨rfl, rfl⟩
      simp only []
      iterate 12 (try go_step)
      refine wp_send (c := c) (v0 := .chan (some c)) (v1 := .agg #[.int .u64 n1, .int .i64 n2, .int .i64 n3, .int .i64 n4, .int .i64 n5, .int .i64 n6]) (z := .tuple #[]) rfl rfl ?_ ?_ ?_ hch.out hroom ?_
      · simp [go_sem, execOp, Act.eval]
      · simp [go_sem, execOp, Act.eval, Act.put]
      · simp [go_sem, execOp, Act.eval, Act.put, scase]
      generalize (w1.alloc (.cells #[.int .u64 n1, .int .i64 n2, .int .i64 n3, .int .i64 n4, .int .i64 n5, .int .i64 n6] 26)).setChan c 2 (l.toArray.push (.agg #[.int .u64 n1, .int .i64 n2, .int .i64 n3, .int .i64 n4, .int .i64 n5, .int .i64 n6])) false (sn + 1) 0 false = X at *
      simp only [Act.put]
      go_simp
      go_wp2
      exact HK.out _ _ _ _ _ _ _ _ _ _ _ _ _ _ _ _ _ _ _ _ _ _ _ _ _ _ _ _ _ _ _ (by simpa [hp, metaA] using HS.out)
    · go_wp2_with fail
      refine (HR.out _).mono ?_
      rintro e w1 ⟨rfl, hb⟩
      have H1 := hid (HI.out.go hb)
      simp only [metaA]
      have H2 := hid (H1.out.new (.cells #[.int .u64 n1, .int .i64 n2, .int .i64 n3, .int .i64 n4, .int .i64 n5, .int .i64 n6] 26))
      clear hb HI H1 HR
      go_wp2_with fail
      refine (place_any n1 _ ht0 ht1).mono ?_
      rintro e w2 ⟨rfl, rfl⟩
      go_wp2
      exact HK.out _ _ _ _ _ _ _ _ _ _ _ _ _ _ _ _ _ _ _ _ _ _ _ _ _ _ _ _ _ _ _ (by simpa [hp] using H2.out)

set_option maxRecDepth 100000 in
set_option maxHeartbeats 4000000 in
theorem round_c2 (K : Act → World → Prop) (Q : Exit → Act → World → Prop) (a b : ByteArray) (W : World) (R c : Nat) (t7 t8 t9 t10 t11 t12 t13 t16 t17 t18 t19 t20 t21 t22 t23 t24 t25 t26 t27 t28 t29 t30 t31 t32 t33 t34 t35 t36 t37 t38 : Value) (HQ : Q (.exit 0) (act8 a b R c 2 t7 t8 t9 t10 t11 t12 t13 (.bool false) t17 t18 t19 t20 t21 t22 t23 t24 t25 t26 t27 t28 t29 t30 t31 t32 t33 t34 t35 t36 t37 t38) W) :
    (lcOf Tryz.f5).wp Tryz.prog (Exit.then K Q) (act8 a b R c 2 t7 t8 t9 t10 t11 t12 t13 t16 t17 t18 t19 t20 t21 t22 t23 t24 t25 t26 t27 t28 t29 t30 t31 t32 t33 t34 t35 t36 t37 t38) W := by
  replace HQ := hid HQ
  unfold act8 lcOf
  simp only [Tryz.f5, loopIn, Option.bind_some, Option.none_or, Option.some_or, Option.getD_some]
  go_wp2
  exact HQ.out

theorem Tryz.bytesMeta : ∃ i, Tryz.prog.info? 26 = some i ∧ i.bytes = 48 := by
  have h : (Tryz.prog.info? 26).map (·.bytes) = some 48 := by kernel_rfl
  obtain ⟨i, hi, hb⟩ := Option.map_eq_some_iff.1 h
  exact ⟨i, hi, hb⟩
theorem mkChan (w : World) : (Instr.makeChan 40 (.int .i64 2)).run Tryz.prog w = .ok (.chan (some w.heap.size)) (w.alloc (.chan 2 #[] false 0 0 false)) := by
  obtain ⟨i, hi, hb⟩ := Tryz.bytesMeta
  simpa using run_makeChan (P := Tryz.prog) (w := w) Tryz.underlying40 hi .i64 2 (by omega) (by rw [hb]; omega)

/-- Of two texts that are metas in their places the later one. -/
def chooseL (a b : List UInt8) : List MetaD := sentL a 0 ++ sentL b 1
theorem sent_len (x : List UInt8) (k : Int) : (sentL x k).length ≤ 1 := by unfold sentL; split <;> simp
set_option maxRecDepth 100000 in
set_option maxHeartbeats 4000000 in
theorem choose_any (a b : ByteArray) (w : World) (ha : a.size ≤ maxLen) (hb : b.size ≤ maxLen) :
    Calls Tryz.prog 5 #[.string a, .string b] w fun e w' => e = .returned (.tuple #[metaA (pickM (chooseL a.data.toList b.data.toList)).1, errM (pickM (chooseL a.data.toList b.data.toList)).2]) ∧ Below w.heap.size w w' := by
  have hmc := mkChan
  have HI := inC_start w
  unfold zeros at HI
  replace HI := hid HI
  go_enter Tryz.func5, Tryz.ntmps5
  go_wp2
  rename_i QQ KK HKK
  replace HKK := hid HKK
  clear hmc
  change Code.wp Tryz.prog (Code.loop (lcOf Tryz.f5)) _ (act8 a b w.heap.size (w.heap.size + 1) 0 undef undef undef undef (.chan (some (w.heap.size + 1))) (.string a) (.string b) undef undef undef undef undef undef undef undef undef undef undef undef undef undef undef undef undef undef undef undef undef undef undef) _
  generalize (w.alloc (.cells #[.int .u64 0, .int .i64 0, .int .i64 0, .int .i64 0, .int .i64 0, .int .i64 0] 26)).alloc (.chan 2 #[] false 0 0 false) = W at *
  refine wp_first ?_
  refine round_c0 _ _ a b w W _ _ [] HI.out (by simp) ha ?_ _ _ _ _ _ _ _ _ _ _ _ _ _ _ _ _ _ _ _ _ _ _ _ _ _ _ _ _ _ _
  intro W1 u7 u8 u9 u10 u11 u12 u13 u16 u17 u18 u19 u20 u21 u22 u23 u24 u25 u26 u27 u28 u29 u30 u31 u32 u33 u34 u35 u36 u37 u38 H1
  refine wp_again ?_
  have hl1 := sent_len a.data.toList 0
  have hl2 := sent_len b.data.toList 1
  refine round_c1 _ _ a b w W1 _ _ _ H1 (by simp; omega) hb ?_ _ _ _ _ _ _ _ _ _ _ _ _ _ _ _ _ _ _ _ _ _ _ _ _ _ _ _ _ _ _
  intro W2 v7 v8 v9 v10 v11 v12 v13 v16 v17 v18 v19 v20 v21 v22 v23 v24 v25 v26 v27 v28 v29 v30 v31 v32 v33 v34 v35 v36 v37 v38 H2
  refine wp_again ?_
  refine round_c2 _ _ a b W2 _ _ v7 v8 v9 v10 v11 v12 v13 v16 v17 v18 v19 v20 v21 v22 v23 v24 v25 v26 v27 v28 v29 v30 v31 v32 v33 v34 v35 v36 v37 v38 ?_
  simp only [Exit.inBlock, Exit.then, ↓reduceIte]
  refine HKK.out _ _ ?_
  clear HKK HI H1
  have hl3 : (chooseL a.data.toList b.data.toList).length ≤ 2 := by unfold chooseL; rw [List.length_append]; omega
  have hres := H2.res
  have hbel := hid H2.below
  have hlt := H2.lt
  obtain ⟨sn, hch⟩ := H2.chan
  have hch2 : W2.heap[w.heap.size + 1]? = some (.chan 2 ((chooseL a.data.toList b.data.toList).map metaA).toArray false sn 0 false) := by
    rw [hch]
    unfold chooseL
    rw [List.map_append, List.nil_append]
  have HL := hid (latest_any (w.heap.size + 1) sn 0 _ hl3 W2 hch2)
  clear hch hch2 H2 hl1 hl2 hl3 ha hb
  generalize hm : (pickM (chooseL a.data.toList b.data.toList)).1 = m at *
  generalize ht : (pickM (chooseL a.data.toList b.data.toList)).2 = t at *
  replace hm := hid hm
  replace ht := hid ht
  unfold act8
  go_wp2_with fail
  refine HL.out.mono ?_
  rintro e W3 ⟨rfl, hg⟩
  have hR3 := (hg.block w.heap.size (by omega) (by simp)).trans hres
  have hbel3 := hid (below_grown hbel.out hg (by omega) (by omega))
  obtain ⟨m1, ⟨m2, m3, m4⟩, m5, m6⟩ := m
  simp only [metaA]
  unfold zeros at hR3
  have cR := cell_rowL hR3
  have fR := frozen_rowL hR3
  clear hres hR3 hg HL hbel
  go_wp2
  refine bodyPost_ret (v := .tuple #[.agg #[.int .u64 m1, .int .i64 m2, .int .i64 m3, .int .i64 m4, .int .i64 m5, .int .i64 m6], errM t]) (by simp [results, Tryz.results5, go_sem, cR]) rfl ⟨?_, ?_⟩
  · rw [hm.out, ht.out, metaA]
  repeat (refine Below.setCell ?_ (by simp) _)
  exact hbel3.out
end Go.Proofs.YtgnmjdcmaahlnaaGreat

namespace Go.Proofs.YtgnmjdcmaahlnaaGreat
open Go.RowKit Go.Sort

def isM (m : MetaD) : Bool := rootB m.main && noneB m.free && withinB m.last 2 400
theorem isM_eq (m : MetaD) : isPB (ofM m) = isM m := by
  have h : samePB (ofM m) (ownD (ofM m)) = true := (sameP_iff _ _).2 (by simp [ofM, ownD])
  unfold isPB
  rw [h]
  simp [rightB, ofM, isM]
theorem metaB_none {m : MetaD} (h : isM m = false) : metaB m = [] := by
  unfold metaB bytesD
  rw [isM_eq, h]
  rfl
theorem metaB_len {m : MetaD} (h : isM m = true) : (metaB m).length = 64 := by
  unfold metaB bytesD
  rw [isM_eq, h]
  simp [bodyD, partD, metaD, rootBytesD, ofM, lowB_length, numB_length]
theorem okMt_len {l : List UInt8} (h : okMt l = true) : l.length = 64 := by
  unfold okMt at h
  rw [Bool.and_eq_true, decide_eq_true_eq] at h
  obtain ⟨h1, h2⟩ := h
  obtain ⟨h3, _, h5⟩ := okR_page h1
  have h6 : readD l = readV l := by simp [readD, h1]
  rw [h6] at h2
  have h7 : readV l = ofM (readV l).mt := by
    have := h3
    unfold isPB at this
    rw [Bool.and_eq_true, sameP_iff] at this
    refine this.2.trans ?_
    simp [ownD, h2, ofM]
  rw [h7, isM_eq] at h3
  rw [← h5, h7]
  exact metaB_len h3
/-- What isn't as long as a meta isn't one. -/
theorem sent_not {l : List UInt8} (h : l.length ≠ 64) (k : Int) : sentL l k = [] := by
  unfold sentL
  cases h1 : okMt l
  · simp
  · exact absurd (okMt_len h1) h
theorem read_meta {m : MetaD} (h : isM m = true) (ht : MOk m) : okMt (metaB m) = true ∧ (readD (metaB m)).mt = m := by
  have h1 := okR_bytes (ofM m) (by rw [isM_eq]; exact h) (ofM_txn ht)
  have e : bytesD (ofM m) = metaB m := by unfold metaB; exact Eq.refl _
  rw [e] at h1
  generalize metaB m = l at *
  obtain ⟨h2, h4⟩ := h1
  have h3 : readD l = ofM m := by
    unfold readD
    rw [if_pos h2]
    exact h4
  have h5 : (ofM m).mt = m := by simp [ofM]
  have h6 : (ofM m).kind = 6 := by simp [ofM]
  refine ⟨?_, by rw [h3, h5]⟩
  unfold okMt
  rw [h2, h3, h6]
  simp
theorem sent_meta {m : MetaD} (h : isM m = true) (ht : MOk m) (k : Int) : sentL (metaB m) k = if m.txn % 2 = k then [m] else [] := by
  obtain ⟨h1, h2⟩ := read_meta h ht
  unfold sentL
  rw [h1, h2]
  simp
/-- A meta of this version with this end and nothing else. -/
def plainM (txn last : Int) : MetaD := ⟨txn, ⟨0, 0, 0⟩, 0, last⟩
theorem plainM_is {txn last : Int} (h1 : 2 ≤ last) (h2 : last ≤ 400) : isM (plainM txn last) = true := by
  simp [isM, plainM, rootB, noneB, withinB, h1, h2]
theorem noMeta_none : metaB noMeta = [] := metaB_none (by decide)
theorem pick_two {m n : MetaD} (h : m.txn < n.txn) : pickM [m, n] = (n, true) := by simp [pickM, h]
theorem pick_two' {m n : MetaD} (h : ¬ m.txn < n.txn) : pickM [m, n] = (m, true) := by simp [pickM, h]
end Go.Proofs.YtgnmjdcmaahlnaaGreat

namespace Go.Proofs.YtgnmjdcmaahlnaaGreat
open Go.RowKit Go.Sort

theorem fresh0 : freshM 0 = plainM 0 2 := by simp [freshM, plainM]; decide
theorem fresh1 : freshM 1 = plainM 1 2 := by simp [freshM, plainM]; decide
theorem plain_ok {t l : Int} (h0 : 0 ≤ t) (h1 : t < 18446744073709551616) : MOk (plainM t l) := ⟨h0, h1⟩
theorem size64 {m : MetaD} (h : isM m = true) : (bs (metaB m)).size ≤ maxLen := by rw [bs_size, metaB_len h]; unfold maxLen; omega
/-- The bytes of a meta whose parts are written out. -/
theorem bytes_plain (t l : Int) (w : World) (h0 : 0 ≤ t) (h1 : t < 18446744073709551616) :
    Calls Tryz.prog 7 #[.agg #[.int .u64 t, .int .i64 0, .int .i64 0, .int .i64 0, .int .i64 0, .int .i64 l]] w fun e w' => e = .returned (.string (bs (metaB (plainM t l)))) ∧ Below w.heap.size w w' :=
  metaBytes_any (plainM t l) w (plain_ok h0 h1)
theorem chose {a b : ByteArray} {l : List MetaD} {m : MetaD} {t : Bool} (w : World) (ha : a.size ≤ maxLen) (hb : b.size ≤ maxLen) (hl : chooseL a.data.toList b.data.toList = l) (hp : pickM l = (m, t)) :
    Calls Tryz.prog 5 #[.string a, .string b] w fun e w' => e = .returned (.tuple #[metaA m, errM t]) ∧ Below w.heap.size w w' := by
  have h := choose_any a b w ha hb
  rw [hl, hp] at h
  exact h
theorem is01 (t : Int) : isM (plainM t 2) = true := plainM_is (by omega) (by omega)
theorem known1 (w : World) : Calls Tryz.prog 5 #[.string (bs (metaB (plainM 0 2))), .string (bs (metaB (plainM 1 2)))] w fun e w' => e = .returned (.tuple #[.agg #[.int .u64 1, .int .i64 0, .int .i64 0, .int .i64 0, .int .i64 0, .int .i64 2], .nilIface]) ∧ Below w.heap.size w w' :=
  chose (l := [plainM 0 2, plainM 1 2]) (m := plainM 1 2) (t := true) w (size64 (is01 0)) (size64 (is01 1)) (by
    rw [bs_list, bs_list, chooseL, sent_meta (is01 0) (plain_ok (by omega) (by omega)), sent_meta (is01 1) (plain_ok (by omega) (by omega))]
    simp [plainM]) (pick_two (by simp [plainM]))
theorem known2 (w : World) : Calls Tryz.prog 5 #[.string (bs (metaB (plainM 0 2))), .string ⟨#[120]⟩] w fun e w' => e = .returned (.tuple #[.agg #[.int .u64 0, .int .i64 0, .int .i64 0, .int .i64 0, .int .i64 0, .int .i64 2], .nilIface]) ∧ Below w.heap.size w w' :=
  chose (l := [plainM 0 2]) (m := plainM 0 2) (t := true) w (size64 (is01 0)) (by decide) (by
    rw [bs_list, chooseL, sent_meta (is01 0) (plain_ok (by omega) (by omega)), sent_not (by simp)]
    simp [plainM]) rfl
theorem known3 (w : World) : Calls Tryz.prog 5 #[.string (bs (metaB (plainM 1 2))), .string (bs (metaB (plainM 0 2)))] w fun e w' => e = .returned (.tuple #[.agg #[.int .u64 0, .int .i64 0, .int .i64 0, .int .i64 0, .int .i64 0, .int .i64 0], .iface 38 (.int .i64 12)]) ∧ Below w.heap.size w w' :=
  chose (l := []) (m := noMeta) (t := false) w (size64 (is01 1)) (size64 (is01 0)) (by
    rw [bs_list, bs_list, chooseL, sent_meta (is01 0) (plain_ok (by omega) (by omega)), sent_meta (is01 1) (plain_ok (by omega) (by omega))]
    simp [plainM]) rfl
theorem known4 (w : World) : Calls Tryz.prog 7 #[.agg #[.int .u64 0, .int .i64 0, .int .i64 0, .int .i64 0, .int .i64 0, .int .i64 0]] w fun e w' => e = .returned (.string ⟨#[]⟩) ∧ Below w.heap.size w w' := by
  have h := metaBytes_any noMeta w ⟨by decide, by decide⟩
  rw [noMeta_none] at h
  exact h
theorem knownF0 (w : World) : Calls Tryz.prog 11 #[.int .i64 0] w fun e w' => e = .returned (.agg #[.int .u64 0, .int .i64 0, .int .i64 0, .int .i64 0, .int .i64 0, .int .i64 2]) ∧ Below w.heap.size w w' := by
  have h := fresh_any 0 w
  rw [fresh0] at h
  exact h
theorem knownF1 (w : World) : Calls Tryz.prog 11 #[.int .i64 1] w fun e w' => e = .returned (.agg #[.int .u64 1, .int .i64 0, .int .i64 0, .int .i64 0, .int .i64 0, .int .i64 2]) ∧ Below w.heap.size w w' := by
  have h := fresh_any 1 w
  rw [fresh1] at h
  exact h
theorem knownP (w : World) : Calls Tryz.prog 9 #[.int .u64 7] w fun e w' => e = .returned (.int .i64 1) ∧ w' = w := place_any 7 w (by omega) (by omega)
theorem bel {w W W' : World} (h : Below w.heap.size w W) (h' : Below W.heap.size W W') : Below w.heap.size w W' := h.trans (h'.mono h.size)
theorem belNew {w W : World} (h : Below w.heap.size w W) (o : Obj) : Below w.heap.size w (W.alloc o) := h.alloc h.size o

set_option maxRecDepth 100000 in
set_option maxHeartbeats 4000000 in
theorem known_any (w : World) : Calls Tryz.prog 4 #[] w fun e w' => e = .returned (.bool true) ∧ Below w.heap.size w w' := by
  have H1 := hid known1
  have H2 := hid known2
  have H3 := hid known3
  have HB0 := hid (fun W => bytes_plain 0 2 W (by omega) (by omega))
  have HB1 := hid (fun W => bytes_plain 1 2 W (by omega) (by omega))
  have z0 : (bs (metaB (plainM 0 2))).size = 64 := by rw [bs_size, metaB_len (is01 0)]
  generalize bs (metaB (plainM 0 2)) = A at *
  generalize bs (metaB (plainM 1 2)) = B at *
  have hnil := Tryz.eqNilNil
  go_enter Tryz.func4, Tryz.ntmps4
  go_wp2_with fail
  refine (knownF0 _).mono ?_
  rintro e w1 ⟨rfl, hb⟩
  have L1 := hid hb
  clear hb
  go_wp2_with fail
  refine (HB0.out _).mono ?_
  rintro e w2 ⟨rfl, hb⟩
  have L2 := hid (bel L1.out hb)
  clear hb L1 HB0
  go_wp2_with fail
  refine (knownF1 _).mono ?_
  rintro e w3 ⟨rfl, hb⟩
  have L3 := hid (bel L2.out hb)
  clear hb L2
  go_wp2_with fail
  refine (HB1.out _).mono ?_
  rintro e w4 ⟨rfl, hb⟩
  have L4 := hid (bel L3.out hb)
  clear hb L3 HB1
  go_wp2_with fail
  refine (H1.out _).mono ?_
  rintro e w5 ⟨rfl, hb⟩
  have L5 := hid (belNew (bel L4.out hb) (.cells #[.int .u64 1, .int .i64 0, .int .i64 0, .int .i64 0, .int .i64 0, .int .i64 2] 26))
  have M5 := heap_newL w5 (.cells #[.int .u64 1, .int .i64 0, .int .i64 0, .int .i64 0, .int .i64 0, .int .i64 2] 26)
  clear hb L4 H1
  go_wp2_with fail
  generalize w5.alloc (.cells #[.int .u64 1, .int .i64 0, .int .i64 0, .int .i64 0, .int .i64 0, .int .i64 2] 26) = X5 at *
  generalize w5.heap.size = P5 at *
  refine (H2.out _).mono ?_
  rintro e w6 ⟨rfl, hb⟩
  have L6 := hid (belNew (bel L5.out hb) (.cells #[.int .u64 0, .int .i64 0, .int .i64 0, .int .i64 0, .int .i64 0, .int .i64 2] 26))
  have M6 := heap_newL w6 (.cells #[.int .u64 0, .int .i64 0, .int .i64 0, .int .i64 0, .int .i64 0, .int .i64 2] 26)
  have k5 : P5 < X5.heap.size := (Array.getElem?_eq_some_iff.1 M5).1
  have N5 := (hb.block P5 k5).trans M5
  have k6 : P5 < w6.heap.size := Nat.lt_of_lt_of_le k5 hb.size
  have N6 := (Below.heap_alloc w6 (.cells #[.int .u64 0, .int .i64 0, .int .i64 0, .int .i64 0, .int .i64 0, .int .i64 2] 26) P5 k6).trans N5
  clear hb L5 H2 M5 N5 k5
  go_wp2_with fail
  generalize w6.alloc (.cells #[.int .u64 0, .int .i64 0, .int .i64 0, .int .i64 0, .int .i64 0, .int .i64 2] 26) = X6 at *
  generalize w6.heap.size = P6 at *
  refine (H3.out _).mono ?_
  rintro e w7 ⟨rfl, hb⟩
  have L7 := hid (belNew (bel L6.out hb) (.cells #[.int .u64 0, .int .i64 0, .int .i64 0, .int .i64 0, .int .i64 0, .int .i64 0] 26))
  have j5 : P5 < X6.heap.size := (Array.getElem?_eq_some_iff.1 N6).1
  have j6 : P6 < X6.heap.size := (Array.getElem?_eq_some_iff.1 M6).1
  have n5 := (Below.heap_alloc w7 (.cells #[.int .u64 0, .int .i64 0, .int .i64 0, .int .i64 0, .int .i64 0, .int .i64 0] 26) P5 (Nat.lt_of_lt_of_le j5 hb.size)).trans ((hb.block P5 j5).trans N6)
  have n6 := (Below.heap_alloc w7 (.cells #[.int .u64 0, .int .i64 0, .int .i64 0, .int .i64 0, .int .i64 0, .int .i64 0] 26) P6 (Nat.lt_of_lt_of_le j6 hb.size)).trans ((hb.block P6 j6).trans M6)
  have c5 := cell_rowL n5
  have c6 := cell_rowL n6
  clear hb L6 H3 M6 N6 j5 j6 n5 n6 k6
  go_wp2_with fail
  refine (is_same _).mono ?_
  rintro e w8 ⟨rfl, rfl⟩
  go_wp2_with fail
  refine (knownP _).mono ?_
  rintro e w8 ⟨rfl, rfl⟩
  go_wp2_with fail
  refine (known4 _).mono ?_
  rintro e w8 ⟨rfl, hb⟩
  have L8 := hid (bel L7.out hb)
  clear hb L7 c5 c6
  go_wp2
  go_ret
  exact ⟨rfl, L8.out⟩
end Go.Proofs.YtgnmjdcmaahlnaaGreat
