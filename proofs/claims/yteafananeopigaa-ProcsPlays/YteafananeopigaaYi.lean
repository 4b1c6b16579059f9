/- Contract of errors.Is at the errors that package procs gives. -/
import Derived.Test.YteafananeopigaaYa
namespace Go.Proofs.Yteafananeopigaa
open Go.RowKit

theorem Try.eqNilNil (w : World) : (binOp .eql 30 .nilIface .nilIface).run Try.prog w = .ok (.bool true) w := by kernel_rfl
theorem Try.callComparable (w : World) : (callFunc 50 #[.agg #[.pointer (some ⟨0, 42, none⟩)]]).run Try.prog w = .ok (.value (.bool true)) w := by kernel_rfl
theorem Try.methodComparable (v : Value) (w : World) : (Go.method 207 63 v "Comparable").run Try.prog w = .ok (50, v) w := by kernel_rfl
theorem Try.eqErr25 (w : World) : (binOp .eql 30 (.iface 42 (.int .i64 25)) (.iface 42 (.int .i64 25))).run Try.prog w = .ok (.bool true) w := by kernel_rfl
theorem Try.eqNil25 (w : World) : (binOp .eql 30 (.iface 42 (.int .i64 25)) .nilIface).run Try.prog w = .ok (.bool false) w := by kernel_rfl
theorem Try.callTypeOf25 (w : World) : (callFunc 26 #[.iface 42 (.int .i64 25)]).run Try.prog w = .ok (.value (.iface 63 (.agg #[.pointer (some ⟨0, 42, none⟩)]))) w := by kernel_rfl

set_option maxHeartbeats 400000 in
theorem is_same25 (w : World) :
    Calls Try.prog 17 #[.iface 42 (.int .i64 25), .iface 42 (.int .i64 25)] w fun e w' => e = .returned (.bool true) ∧ w' = w := by
  have tT := Try.callTypeOf25
  have cT := Try.callComparable
  have e1 := Try.eqErr25
  have e2 := Try.eqNil25
  have mR := Try.methodComparable
  go_enter Try.func17, Try.ntmps17
  go_wp2
  refine wp_loop_rounds 1 ?_
  rw [rounds_succ]
  go_wp2
  go_ret
  exact ⟨rfl, rfl⟩

theorem Try.eqErr26 (w : World) : (binOp .eql 30 (.iface 42 (.int .i64 26)) (.iface 42 (.int .i64 26))).run Try.prog w = .ok (.bool true) w := by kernel_rfl
theorem Try.eqNil26 (w : World) : (binOp .eql 30 (.iface 42 (.int .i64 26)) .nilIface).run Try.prog w = .ok (.bool false) w := by kernel_rfl
theorem Try.callTypeOf26 (w : World) : (callFunc 26 #[.iface 42 (.int .i64 26)]).run Try.prog w = .ok (.value (.iface 63 (.agg #[.pointer (some ⟨0, 42, none⟩)]))) w := by kernel_rfl

set_option maxHeartbeats 400000 in
theorem is_same26 (w : World) :
    Calls Try.prog 17 #[.iface 42 (.int .i64 26), .iface 42 (.int .i64 26)] w fun e w' => e = .returned (.bool true) ∧ w' = w := by
  have tT := Try.callTypeOf26
  have cT := Try.callComparable
  have e1 := Try.eqErr26
  have e2 := Try.eqNil26
  have mR := Try.methodComparable
  go_enter Try.func17, Try.ntmps17
  go_wp2
  refine wp_loop_rounds 1 ?_
  rw [rounds_succ]
  go_wp2
  go_ret
  exact ⟨rfl, rfl⟩

end Go.Proofs.Yteafananeopigaa
