/- Contract of errors.Is at the one error of package page. -/
import Derived.Test.YtgnmjdcmaahlnaaWd
namespace Go.Proofs.Ytgnmjdcmaahlnaa
open Go.RowKit
theorem Try.eqErr (w : World) : (binOp .eql 30 (.iface 34 (.int .i64 12)) (.iface 34 (.int .i64 12))).run Try.prog w = .ok (.bool true) w := by kernel_rfl
theorem Try.eqNil (w : World) : (binOp .eql 30 (.iface 34 (.int .i64 12)) .nilIface).run Try.prog w = .ok (.bool false) w := by kernel_rfl
theorem Try.eqNilNil (w : World) : (binOp .eql 30 .nilIface .nilIface).run Try.prog w = .ok (.bool true) w := by kernel_rfl
theorem Try.callTypeOf (w : World) : (callFunc 15 #[.iface 34 (.int .i64 12)]).run Try.prog w = .ok (.value (.iface 66 (.agg #[.pointer (some ⟨0, 34, none⟩)]))) w := by kernel_rfl
theorem Try.callComparable (w : World) : (callFunc 92 #[.agg #[.pointer (some ⟨0, 34, none⟩)]]).run Try.prog w = .ok (.value (.bool true)) w := by kernel_rfl
theorem Try.methodComparable (v : Value) (w : World) : (Go.method 266 66 v "Comparable").run Try.prog w = .ok (92, v) w := by kernel_rfl

set_option maxHeartbeats 400000 in
theorem is_same (w : World) :
    Calls Try.prog 9 #[.iface 34 (.int .i64 12), .iface 34 (.int .i64 12)] w fun e w' => e = .returned (.bool true) ∧ w' = w := by
  have tT := Try.callTypeOf
  have cT := Try.callComparable
  have e1 := Try.eqErr
  have e2 := Try.eqNil
  have mR := Try.methodComparable
  go_enter Try.func9, Try.ntmps9
  go_wp2
  refine wp_loop_rounds 1 ?_
  rw [rounds_succ]
  go_wp2
  go_ret
  exact ⟨rfl, rfl⟩

end Go.Proofs.Ytgnmjdcmaahlnaa
