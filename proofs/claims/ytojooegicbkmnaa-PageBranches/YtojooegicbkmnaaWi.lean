/- Contract of errors.Is at the one error of package page. -/
import Derived.Test.YtojooegicbkmnaaWd
namespace Go.Proofs.Ytojooegicbkmnaa
open Go.RowKit
theorem Try.eqErr (w : World) : (binOp .eql 41 (.iface 46 (.int .i64 12)) (.iface 46 (.int .i64 12))).run Try.prog w = .ok (.bool true) w := by kernel_rfl
theorem Try.eqNil (w : World) : (binOp .eql 41 (.iface 46 (.int .i64 12)) .nilIface).run Try.prog w = .ok (.bool false) w := by kernel_rfl
theorem Try.eqNilNil (w : World) : (binOp .eql 41 .nilIface .nilIface).run Try.prog w = .ok (.bool true) w := by kernel_rfl
theorem Try.callTypeOf (w : World) : (callFunc 25 #[.iface 46 (.int .i64 12)]).run Try.prog w = .ok (.value (.iface 95 (.agg #[.pointer (some ⟨0, 46, none⟩)]))) w := by kernel_rfl
theorem Try.callComparable (w : World) : (callFunc 85 #[.agg #[.pointer (some ⟨0, 46, none⟩)]]).run Try.prog w = .ok (.value (.bool true)) w := by kernel_rfl
theorem Try.methodComparable (v : Value) (w : World) : (Go.method 251 95 v "Comparable").run Try.prog w = .ok (85, v) w := by kernel_rfl

set_option maxHeartbeats 400000 in
theorem is_same (w : World) :
    Calls Try.prog 9 #[.iface 46 (.int .i64 12), .iface 46 (.int .i64 12)] w fun e w' => e = .returned (.bool true) ∧ w' = w := by
  have tT := Try.callTypeOf
  have cT := Try.callComparable
  have e1 := Try.eqErr
  have e2 := Try.eqNil
  have mR := Try.methodComparable
  go_enter Try.func9, Try.ntmps9
  go_wp2
  refine wp_loop_rounds 1 ?_
  rw [rounds_succ]
  go_wp2
  go_ret
  exact ⟨rfl, rfl⟩

end Go.Proofs.Ytojooegicbkmnaa
