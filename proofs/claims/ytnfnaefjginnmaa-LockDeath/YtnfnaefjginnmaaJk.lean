/- Contract of errors.Is at the errors 12, 15 and 18. -/
import Derived.Test.YtnfnaefjginnmaaWi
namespace Go.Proofs.Ytnfnaefjginnmaa
open Go.RowKit
theorem Try.eqErr15 (w : World) : (binOp .eql 28 (.iface 46 (.int .i64 15)) (.iface 46 (.int .i64 15))).run Try.prog w = .ok (.bool true) w := by kernel_rfl
theorem Try.eqNil15 (w : World) : (binOp .eql 28 (.iface 46 (.int .i64 15)) .nilIface).run Try.prog w = .ok (.bool false) w := by kernel_rfl
theorem Try.callTypeOf15 (w : World) : (callFunc 34 #[.iface 46 (.int .i64 15)]).run Try.prog w = .ok (.value (.iface 88 (.agg #[.pointer (some ⟨0, 46, none⟩)]))) w := by kernel_rfl
set_option maxHeartbeats 400000 in
theorem is_same15 (w : World) :
    Calls Try.prog 19 #[.iface 46 (.int .i64 15), .iface 46 (.int .i64 15)] w fun e w' => e = .returned (.bool true) ∧ w' = w := by
  have tT := Try.callTypeOf15
  have cT := Try.callComparable
  have e1 := Try.eqErr15
  have e2 := Try.eqNil15
  have mR := Try.methodComparable
  go_enter Try.func19, Try.ntmps19
  go_wp2
  refine wp_loop_rounds 1 ?_
  rw [rounds_succ]
  go_wp2
  go_ret
  exact ⟨rfl, rfl⟩
theorem Try.eqErr18 (w : World) : (binOp .eql 28 (.iface 46 (.int .i64 18)) (.iface 46 (.int .i64 18))).run Try.prog w = .ok (.bool true) w := by kernel_rfl
theorem Try.eqNil18 (w : World) : (binOp .eql 28 (.iface 46 (.int .i64 18)) .nilIface).run Try.prog w = .ok (.bool false) w := by kernel_rfl
theorem Try.callTypeOf18 (w : World) : (callFunc 34 #[.iface 46 (.int .i64 18)]).run Try.prog w = .ok (.value (.iface 88 (.agg #[.pointer (some ⟨0, 46, none⟩)]))) w := by kernel_rfl
set_option maxHeartbeats 400000 in
theorem is_same18 (w : World) :
    Calls Try.prog 19 #[.iface 46 (.int .i64 18), .iface 46 (.int .i64 18)] w fun e w' => e = .returned (.bool true) ∧ w' = w := by
  have tT := Try.callTypeOf18
  have cT := Try.callComparable
  have e1 := Try.eqErr18
  have e2 := Try.eqNil18
  have mR := Try.methodComparable
  go_enter Try.func19, Try.ntmps19
  go_wp2
  refine wp_loop_rounds 1 ?_
  rw [rounds_succ]
  go_wp2
  go_ret
  exact ⟨rfl, rfl⟩
end Go.Proofs.Ytnfnaefjginnmaa
