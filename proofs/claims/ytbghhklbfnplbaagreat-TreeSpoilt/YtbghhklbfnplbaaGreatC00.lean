import Derived.Below
namespace Go.Proofs.YtbghhklbfnplbaaGreat
open Go.RowKit
theorem qS : type_of% @List.setIfInBounds_toArray := @List.setIfInBounds_toArray
theorem qZ : type_of% @List.set_cons_zero := @List.set_cons_zero
theorem qC : type_of% @List.set_cons_succ := @List.set_cons_succ
theorem qG : type_of% @List.getElem_toArray := @List.getElem_toArray
theorem qH : type_of% @List.getElem_cons_zero := @List.getElem_cons_zero
theorem qI : type_of% @List.getElem_cons_succ := @List.getElem_cons_succ
theorem qB : type_of% @Below.refl := @Below.refl
theorem qD : type_of% @Below.heap_setCell := @Below.heap_setCell
theorem qE : type_of% @Below.heap_alloc := @Below.heap_alloc
theorem qF : type_of% @World.block_lt_of_cell? := @World.block_lt_of_cell?
theorem qT : type_of% @List.take_succ_eq_append_getElem := @List.take_succ_eq_append_getElem
theorem qM : type_of% @Nat.lt_of_lt_of_le := @Nat.lt_of_lt_of_le
theorem qN : type_of% @Nat.le_trans := @Nat.le_trans
theorem qO : type_of% @List.length_append := @List.length_append
theorem qP : type_of% @List.getElem?_eq_some_iff := @List.getElem?_eq_some_iff
theorem qQ : type_of% @Option.some.injEq := @Option.some.injEq
theorem qR : type_of% @Value.slice.injEq := @Value.slice.injEq
theorem qU : type_of% @List.mem_append := @List.mem_append
theorem qV : type_of% @List.length_cons := @List.length_cons
theorem qW : type_of% @Bool.and_eq_true := @Bool.and_eq_true
theorem qX : type_of% @Obj.cells.injEq := @Obj.cells.injEq
theorem qL {n : Nat} : n ≤ n := Nat.le_refl n
theorem qA {α : Type} {xs : Array α} {i : Nat} {a : α} (h : xs[i]? = some a) : i < xs.size := (Array.getElem?_eq_some_iff.1 h).1
end Go.Proofs.YtbghhklbfnplbaaGreat
