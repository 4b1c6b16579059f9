/- Contract of errors.Is at the one error of package pack. -/
import Derived.Test.YtnnmnadlcejjhaaWd
namespace Go.Proofs.Ytnnmnadlcejjhaa
open Go.RowKit
theorem Try.eqErr (w : World) : (binOp .eql 37 (.iface 46 (.int .i64 11)) (.iface 46 (.int .i64 11))).run Try.prog w = .ok (.bool true) w := by kernel_rfl
theorem Try.eqNil (w : World) : (binOp .eql 37 (.iface 46 (.int .i64 11)) .nilIface).run Try.prog w = .ok (.bool false) w := by kernel_rfl
theorem Try.eqNilNil (w : World) : (binOp .eql 37 .nilIface .nilIface).run Try.prog w = .ok (.bool true) w := by kernel_rfl
theorem Try.callTypeOf (w : World) : (callFunc 26 #[.iface 46 (.int .i64 11)]).run Try.prog w = .ok (.value (.iface 62 (.agg #[.pointer (some ⟨0, 46, none⟩)]))) w := by kernel_rfl
theorem Try.callComparable (w : World) : (callFunc 47 #[.agg #[.pointer (some ⟨0, 46, none⟩)]]).run Try.prog w = .ok (.value (.bool true)) w := by kernel_rfl
theorem Try.methodComparable (v : Value) (w : World) : (Go.method 202 62 v "Comparable").run Try.prog w = .ok (47, v) w := by kernel_rfl

set_option maxHeartbeats 400000 in
theorem is_same (w : World) :
    Calls Try.prog 21 #[.iface 46 (.int .i64 11), .iface 46 (.int .i64 11)] w fun e w' => e = .returned (.bool true) ∧ w' = w := by
  have tT := Try.callTypeOf
  have cT := Try.callComparable
  have e1 := Try.eqErr
  have e2 := Try.eqNil
  have mR := Try.methodComparable
  go_enter Try.func21, Try.ntmps21
  go_wp2
  refine wp_loop_rounds 1 ?_
  rw [rounds_succ]
  go_wp2
  go_ret
  exact ⟨rfl, rfl⟩

end Go.Proofs.Ytnnmnadlcejjhaa
