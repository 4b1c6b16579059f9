/- A send in a select with a default, in the walk of a function. -/
import Derived.Test.YtdjhlgcbjdohiaaDoorCh
namespace Go.Proofs.YtdjhlgcbjdohiaaDoor
open Go.RowKit Go.Conc

section
variable {P : Program} {ops : Array Oper} {Q : Exit → Act → World → Prop} {a : Act} {w w1 : World} {o : Oper} {i : Nat} {rest : List Nat}
theorem regTo_put {c cap s r : Nat} {buf : Array Value} {v z : Value} {tm : Bool} (ho : ops[i]? = some o) (hw : Region.wanted o (yielded ops a.tmps) = true)
    (hr : (execOp a.eval o).run P w = .ok (.comm #[scase c v z] false .select) w1) (hc : w1.heap[c]? = some (.chan cap buf false s r tm)) (hroom : buf.size < cap)
    (h : RegTo P ops Q rest (a.put o.dst (.tuple #[goInt 0, .bool false])) (w1.setChan c cap (buf.push v) false (s + 1) r tm)) : RegTo P ops Q (i :: rest) a w := by
  intro b k cs
  obtain ⟨es, hs⟩ := comm_any (rest := rest) b k cs ho hw hr
  have hst := step_lone_select_send_room hs hc hroom
  obtain ⟨e, a', w', q, r⟩ := h b k cs
  refine ⟨e, a', w', q, .of_steps (.one ?_) r⟩
  rw [lone_eq_solo, hst, Frame.finish_at, ho]
  rfl
theorem regTo_full {c cap s r : Nat} {buf : Array Value} {v z : Value} {tm : Bool} (ho : ops[i]? = some o) (hw : Region.wanted o (yielded ops a.tmps) = true)
    (hr : (execOp a.eval o).run P w = .ok (.comm #[scase c v z] false .select) w1) (hc : w1.heap[c]? = some (.chan cap buf false s r tm)) (hfull : cap ≤ buf.size)
    (h : RegTo P ops Q rest (a.put o.dst (.tuple #[goInt (-1), .bool false])) w1) : RegTo P ops Q (i :: rest) a w := by
  intro b k cs
  obtain ⟨es, hs⟩ := comm_any (rest := rest) b k cs ho hw hr
  have hst := step_lone_select_send_full hs hc hfull
  obtain ⟨e, a', w', q, r⟩ := h b k cs
  refine ⟨e, a', w', q, .of_steps (.one ?_) r⟩
  rw [lone_eq_solo, hst, Frame.finish_at, ho]
  rfl
end

section
variable {P : Program} {Q : Exit → Act → World → Prop} {a : Act} {w w1 : World} {id d ty : Nat} {pos : String} {af : Array Edge}
/-- The send that a select with a default begins with: there is room. -/
theorem wp_put {x y : Operand} {T : TypeId} {l : List Oper} {c cap s r : Nat} {buf : Array Value} {v z : Value} {tm : Bool}
    (hr : (execOp a.eval ⟨some d, .select #[⟨x, some y, T⟩] false, ty, pos, af, none⟩).run P w = .ok (.comm #[scase c v z] false .select) w) (hc : w.heap[c]? = some (.chan cap buf false s r tm)) (hroom : buf.size < cap)
    (h : wpList P (⟨some d, .select #[⟨x, some y, T⟩] false, ty, pos, af, none⟩ :: l).toArray Q l (a.put (some d) (.tuple #[goInt 0, .bool false])) (w.setChan c cap (buf.push v) false (s + 1) r tm)) :
    (Code.region id (⟨some d, .select #[⟨x, some y, T⟩] false, ty, pos, af, none⟩ :: l).toArray false).wp P Q a w := by
  refine wp_regTo ?_
  rw [List.size_toArray, List.length_cons, range_head]
  exact regTo_put rfl rfl hr hc hroom (rest_list h)
/-- .. there is none. -/
theorem wp_full {x y : Operand} {T : TypeId} {l : List Oper} {c cap s r : Nat} {buf : Array Value} {v z : Value} {tm : Bool}
    (hr : (execOp a.eval ⟨some d, .select #[⟨x, some y, T⟩] false, ty, pos, af, none⟩).run P w = .ok (.comm #[scase c v z] false .select) w) (hc : w.heap[c]? = some (.chan cap buf false s r tm)) (hfull : cap ≤ buf.size)
    (h : wpList P (⟨some d, .select #[⟨x, some y, T⟩] false, ty, pos, af, none⟩ :: l).toArray Q l (a.put (some d) (.tuple #[goInt (-1), .bool false])) w) :
    (Code.region id (⟨some d, .select #[⟨x, some y, T⟩] false, ty, pos, af, none⟩ :: l).toArray false).wp P Q a w := by
  refine wp_regTo ?_
  rw [List.size_toArray, List.length_cons, range_head]
  exact regTo_full rfl rfl hr hc hfull (rest_list h)
end
end Go.Proofs.YtdjhlgcbjdohiaaDoor
