/- Contract of errors.Is at the one error of package page. -/
import Derived.Test.YtdjhlgcbjdohiaaDoorWd
namespace Go.Proofs.YtdjhlgcbjdohiaaDoor
open Go.RowKit
theorem Tryd.eqErr (w : World) : (binOp .eql 45 (.iface 69 (.int .i64 12)) (.iface 69 (.int .i64 12))).run Tryd.prog w = .ok (.bool true) w := by kernel_rfl
theorem Tryd.eqNil (w : World) : (binOp .eql 45 (.iface 69 (.int .i64 12)) .nilIface).run Tryd.prog w = .ok (.bool false) w := by kernel_rfl
theorem Tryd.eqNilNil (w : World) : (binOp .eql 45 .nilIface .nilIface).run Tryd.prog w = .ok (.bool true) w := by kernel_rfl
theorem Tryd.callTypeOf (w : World) : (callFunc 56 #[.iface 69 (.int .i64 12)]).run Tryd.prog w = .ok (.value (.iface 125 (.agg #[.pointer (some ⟨1, 69, none⟩)]))) w := by kernel_rfl
theorem Tryd.callComparable (w : World) : (callFunc 99 #[.agg #[.pointer (some ⟨1, 69, none⟩)]]).run Tryd.prog w = .ok (.value (.bool true)) w := by kernel_rfl
theorem Tryd.methodComparable (v : Value) (w : World) : (Go.method 267 125 v "Comparable").run Tryd.prog w = .ok (99, v) w := by kernel_rfl

set_option maxHeartbeats 400000 in
theorem is_same (w : World) :
    Calls Tryd.prog 31 #[.iface 69 (.int .i64 12), .iface 69 (.int .i64 12)] w fun e w' => e = .returned (.bool true) ∧ w' = w := by
  have tT := Tryd.callTypeOf
  have cT := Tryd.callComparable
  have e1 := Tryd.eqErr
  have e2 := Tryd.eqNil
  have mR := Tryd.methodComparable
  go_enter Tryd.func31, Tryd.ntmps31
  go_wp2
  refine wp_loop_rounds 1 ?_
  rw [rounds_succ]
  go_wp2
  go_ret
  exact ⟨rfl, rfl⟩

end Go.Proofs.YtdjhlgcbjdohiaaDoor
