/- A send into a channel that has room, a receive that waits for nobody, in the walk of a function; a loop, round by round. -/
import Derived.Test.YtpionokcabjokaaGreatRows
import Derived.Conc.LoneSelect
import Derived.Tactics2
namespace Go.Proofs.YtpionokcabjokaaGreat
open Go.RowKit Go.Conc

section
variable {P : Program} {ops : Array Oper} {Q : Exit → Act → World → Prop} {a : Act} {w w1 : World} {o : Oper} {i : Nat} {rest : List Nat}
/-- What is left of a region's operations, walked. -/
def RegTo (P : Program) (ops : Array Oper) (Q : Exit → Act → World → Prop) (l : List Nat) (a : Act) (w : World) : Prop :=
  ∀ (b : Frame) (k : List Item) (cs : List Frame), ∃ e a' w', Q e a' w' ∧ Arrives P (lone (b.at a (.inRegion ops l :: k)) cs w) b k cs e a' w'
theorem regTo_of {l : List Nat} (h : wpOps P ops Q l a w) : RegTo P ops Q l a w := fun b k cs => wp_ops l a w h b k cs
theorem wp_regTo {id : Nat} (h : RegTo P ops Q (List.range ops.size) a w) : (Code.region id ops false).wp P Q a w :=
  fun b k cs => let ⟨e, a', w', q, r⟩ := h b k cs; ⟨e, a', w', q, .of_steps (.one step_region) r⟩
theorem regTo_value {v : Value} (ho : ops[i]? = some o) (hw : Region.wanted o (yielded ops a.tmps) = true) (hr : (execOp a.eval o).run P w = .ok (.value v) w1)
    (h : RegTo P ops Q rest (a.put o.dst v) w1) : RegTo P ops Q (i :: rest) a w := by
  intro b k cs
  obtain ⟨e, a', w', q, r⟩ := h b k cs
  refine ⟨e, a', w', q, .of_steps (.one (step_lone_go ?_)) r⟩
  have hfin : (b.at a (.inRegion ops (i :: rest) :: k)).finish v = b.at (a.put o.dst v) (.inRegion ops rest :: k) := by rw [Frame.finish_at, ho]; rfl
  rw [Go.stepG_op ho hw, ← hfin]
  simp [stepG.apply, hr]
theorem comm_any {cases : Array CommCase} {blocking : Bool} {shape : CommShape} (b : Frame) (k : List Item) (cs : List Frame) (ho : ops[i]? = some o) (hw : Region.wanted o (yielded ops a.tmps) = true)
    (hr : (execOp a.eval o).run P w = .ok (.comm cases blocking shape) w1) :
    ∃ es, stepG P true (G (b.at a (.inRegion ops (i :: rest) :: k)) cs) w = .comm (G (b.at a (.inRegion ops (i :: rest) :: k)) cs) cases blocking shape w1 es := by
  rw [stepG_oper ho hw]
  simp [stepG.apply, hr, G, Frame.at, GStep.after]
theorem regTo_send {c cap s r : Nat} {buf : Array Value} {v z : Value} {tm : Bool} (ho : ops[i]? = some o) (hw : Region.wanted o (yielded ops a.tmps) = true)
    (hr : (execOp a.eval o).run P w = .ok (.comm #[scase c v z] true .send) w1) (hc : w1.heap[c]? = some (.chan cap buf false s r tm)) (hroom : buf.size < cap)
    (h : RegTo P ops Q rest (a.put o.dst undef) (w1.setChan c cap (buf.push v) false (s + 1) r tm)) : RegTo P ops Q (i :: rest) a w := by
  intro b k cs
  obtain ⟨es, hs⟩ := comm_any (rest := rest) b k cs ho hw hr
  have hst := step_lone_send_room hs hc hroom
  obtain ⟨e, a', w', q, r⟩ := h b k cs
  refine ⟨e, a', w', q, .of_steps (.one ?_) r⟩
  rw [lone_eq_solo, hst, Frame.finish_at, ho]
  rfl
theorem regTo_recv {c cap s r : Nat} {buf : Array Value} {z : Value} {tm closed : Bool} (ho : ops[i]? = some o) (hw : Region.wanted o (yielded ops a.tmps) = true)
    (hr : (execOp a.eval o).run P w = .ok (.comm #[rcase c z] false .select) w1) (hc : w1.heap[c]? = some (.chan cap buf closed s r tm)) (hsome : 0 < buf.size)
    (h : RegTo P ops Q rest (a.put o.dst (.tuple #[goInt 0, .bool true, buf.getD 0 undef])) (w1.setChan c cap (buf.extract 1 buf.size) closed s (r + 1) tm)) : RegTo P ops Q (i :: rest) a w := by
  intro b k cs
  obtain ⟨es, hs⟩ := comm_any (rest := rest) b k cs ho hw hr
  have hst := step_lone_select_recv_buf hs hc hsome
  obtain ⟨e, a', w', q, r⟩ := h b k cs
  refine ⟨e, a', w', q, .of_steps (.one ?_) r⟩
  rw [lone_eq_solo, hst, Frame.finish_at, ho]
  rfl
theorem regTo_default {c cap s r : Nat} {z : Value} {tm : Bool} (ho : ops[i]? = some o) (hw : Region.wanted o (yielded ops a.tmps) = true)
    (hr : (execOp a.eval o).run P w = .ok (.comm #[rcase c z] false .select) w1) (hc : w1.heap[c]? = some (.chan cap #[] false s r tm))
    (h : RegTo P ops Q rest (a.put o.dst (.tuple #[goInt (-1), .bool false, z])) w1) : RegTo P ops Q (i :: rest) a w := by
  intro b k cs
  obtain ⟨es, hs⟩ := comm_any (rest := rest) b k cs ho hw hr
  have hst := step_lone_select_default hs hc
  obtain ⟨e, a', w', q, r⟩ := h b k cs
  refine ⟨e, a', w', q, .of_steps (.one ?_) r⟩
  rw [lone_eq_solo, hst, Frame.finish_at, ho]
  rfl
end

section
variable {P : Program} {Q : Exit → Act → World → Prop} {a : Act} {w w1 : World} {id d ty : Nat} {pos : String} {af : Array Edge}
theorem range_head (n : Nat) : List.range (n + 1) = 0 :: List.range' 1 n := by
  rw [List.range_eq_range', List.range'_succ]
theorem rest_list {o : Oper} {l : List Oper} (h : wpList P (o :: l).toArray Q l a w) : RegTo P (o :: l).toArray Q (List.range' 1 l.length) a w := by
  refine regTo_of ?_
  rw [wpOps_eq_wpList l 1 (fun j => by simp [Nat.add_comm 1 j])]
  exact h
/-- The receive that a select with a default begins with: something lies ready. -/
theorem wp_recv {x : Operand} {T : TypeId} {l : List Oper} {c cap s r : Nat} {buf : Array Value} {z : Value} {tm closed : Bool}
    (hr : (execOp a.eval ⟨some d, .select #[⟨x, none, T⟩] false, ty, pos, af, none⟩).run P w = .ok (.comm #[rcase c z] false .select) w) (hc : w.heap[c]? = some (.chan cap buf closed s r tm)) (hsome : 0 < buf.size)
    (h : wpList P (⟨some d, .select #[⟨x, none, T⟩] false, ty, pos, af, none⟩ :: l).toArray Q l (a.put (some d) (.tuple #[goInt 0, .bool true, buf.getD 0 undef])) (w.setChan c cap (buf.extract 1 buf.size) closed s (r + 1) tm)) :
    (Code.region id (⟨some d, .select #[⟨x, none, T⟩] false, ty, pos, af, none⟩ :: l).toArray false).wp P Q a w := by
  refine wp_regTo ?_
  rw [List.size_toArray, List.length_cons, range_head]
  exact regTo_recv rfl rfl hr hc hsome (rest_list h)
/-- .. nothing does. -/
theorem wp_none {x : Operand} {T : TypeId} {l : List Oper} {c cap s r : Nat} {z : Value} {tm : Bool}
    (hr : (execOp a.eval ⟨some d, .select #[⟨x, none, T⟩] false, ty, pos, af, none⟩).run P w = .ok (.comm #[rcase c z] false .select) w) (hc : w.heap[c]? = some (.chan cap #[] false s r tm))
    (h : wpList P (⟨some d, .select #[⟨x, none, T⟩] false, ty, pos, af, none⟩ :: l).toArray Q l (a.put (some d) (.tuple #[goInt (-1), .bool false, z])) w) :
    (Code.region id (⟨some d, .select #[⟨x, none, T⟩] false, ty, pos, af, none⟩ :: l).toArray false).wp P Q a w := by
  refine wp_regTo ?_
  rw [List.size_toArray, List.length_cons, range_head]
  exact regTo_default rfl rfl hr hc (rest_list h)
/-- The channel, what is sent, the send. -/
theorem wp_send {o0 o1 : Oper} {x y : Operand} {v0 v1 z : Value} {c cap s r : Nat} {buf : Array Value} {tm : Bool}
    (g0 : o0.guard = none) (g1 : o1.guard = none) (h0 : (execOp a.eval o0).run P w = .ok (.value v0) w) (h1 : (execOp (a.put o0.dst v0).eval o1).run P w = .ok (.value v1) w)
    (h2 : (execOp ((a.put o0.dst v0).put o1.dst v1).eval ⟨none, .send x y, ty, pos, af, none⟩).run P w = .ok (.comm #[scase c v1 z] true .send) w)
    (hc : w.heap[c]? = some (.chan cap buf false s r tm)) (hroom : buf.size < cap)
    (h : Q .normal ((a.put o0.dst v0).put o1.dst v1) (w.setChan c cap (buf.push v1) false (s + 1) r tm)) :
    (Code.region id #[o0, o1, ⟨none, .send x y, ty, pos, af, none⟩] false).wp P Q a w := by
  refine wp_regTo ?_
  show RegTo P _ Q [0, 1, 2] a w
  refine regTo_value rfl (by simp [Region.wanted, g0]) h0 (regTo_value rfl (by simp [Region.wanted, g1]) h1 (regTo_send rfl rfl h2 hc hroom ?_))
  exact fun b k cs => ⟨.normal, _, _, h, .one step_region_end⟩
end

/-- Where a loop's next round begins. -/
def AtLoop (P : Program) (c : Code) (Q : Exit → Act → World → Prop) (a : Act) (w : World) : Prop :=
  ∀ (b : Frame) (k : List Item) (cs : List Frame), ∃ e a' w', Q e a' w' ∧ Arrives P (lone (b.at a (.inLoop c :: k)) cs w) b k cs e a' w'
section
variable {P : Program} {Q : Exit → Act → World → Prop} {a : Act} {w : World} {c : Code}
theorem round_next (h : c.wp P (Exit.then (AtLoop P c Q) Q) a w) (b : Frame) (k : List Item) (cs : List Frame) :
    ∃ e a' w', Q e a' w' ∧ Arrives P (lone (b.at a (.code c :: .inLoop c :: k)) cs w) b k cs e a' w' := by
  obtain ⟨e, a₁, w₁, hq, harr⟩ := h b (.inLoop c :: k) cs
  cases e with
  | normal =>
    obtain ⟨e₂, a₂, w₂, hq₂, harr₂⟩ := hq b k cs
    exact ⟨e₂, a₂, w₂, hq₂, .of_steps harr harr₂⟩
  | exit id => exact ⟨_, a₁, w₁, hq, .pass (x := .inLoop c) rfl (fun _ _ => .inl (by simp)) harr⟩
  | goto l => exact ⟨_, a₁, w₁, hq, .pass (x := .inLoop c) rfl (fun _ _ => .inl (by simp)) harr⟩
  | ret => exact ⟨_, a₁, w₁, hq, .pass (x := .inLoop c) rfl (fun _ _ => .inl (by simp)) harr⟩
  | panic ch => exact ⟨_, a₁, w₁, hq, .pass (x := .inLoop c) rfl (fun _ _ => .inl (by simp)) harr⟩
  | outgrown => exact ⟨_, a₁, w₁, hq, .pass (x := .inLoop c) rfl (fun _ _ => .inl (by simp)) harr⟩
theorem wp_first (h : c.wp P (Exit.then (AtLoop P c Q) Q) a w) : (Code.loop c).wp P Q a w := by
  intro b k cs
  obtain ⟨e, a', w', hq, harr⟩ := round_next h b k cs
  exact ⟨e, a', w', hq, .of_steps (.one step_loop) harr⟩
theorem wp_again (h : c.wp P (Exit.then (AtLoop P c Q) Q) a w) : AtLoop P c Q a w := by
  intro b k cs
  obtain ⟨e, a', w', hq, harr⟩ := round_next h b k cs
  exact ⟨e, a', w', hq, .of_steps (.one step_inLoop) harr⟩
end
/-- The same, what follows the round behind a letter. -/
theorem wp_first_k {P : Program} {Q : Exit → Act → World → Prop} {a : Act} {w : World} {c : Code} (h : ∀ K : Act → World → Prop, Hid (∀ a w, AtLoop P c Q a w → K a w) → c.wp P (Exit.then K Q) a w) : (Code.loop c).wp P Q a w := wp_first (h _ fun _ _ h => h)
theorem wp_again_k {P : Program} {Q : Exit → Act → World → Prop} {a : Act} {w : World} {c : Code} (h : ∀ K : Act → World → Prop, Hid (∀ a w, AtLoop P c Q a w → K a w) → c.wp P (Exit.then K Q) a w) : AtLoop P c Q a w := wp_again (h _ fun _ _ h => h)
theorem setChan_other (w : World) (c c' cap : Nat) (buf : Array Value) (closed : Bool) (s r : Nat) (tm : Bool) (h : c ≠ c') : (w.setChan c cap buf closed s r tm).heap[c']? = w.heap[c']? := by
  simp [World.setChan, Array.getElem?_setIfInBounds_ne h]
theorem grown_setChan (w : World) (c cap : Nat) (buf : Array Value) (closed : Bool) (s r : Nat) (tm : Bool) : w.grownBy (w.setChan c cap buf closed s r tm) (some c) :=
  ⟨rfl, rfl, rfl, by simp [World.setChan], fun k _ hne => setChan_other w c k cap buf closed s r tm (fun e => hne (by rw [e]))⟩
end Go.Proofs.YtpionokcabjokaaGreat
