/- Contract of errors.Is at the errors 12, 15 and 18. -/
import Derived.Test.YtdjhlgcbjdohiaaDoorWi
namespace Go.Proofs.YtdjhlgcbjdohiaaDoor
open Go.RowKit
theorem Tryd.eqErr15 (w : World) : (binOp .eql 45 (.iface 69 (.int .i64 15)) (.iface 69 (.int .i64 15))).run Tryd.prog w = .ok (.bool true) w := by kernel_rfl
theorem Tryd.eqNil15 (w : World) : (binOp .eql 45 (.iface 69 (.int .i64 15)) .nilIface).run Tryd.prog w = .ok (.bool false) w := by kernel_rfl
theorem Tryd.callTypeOf15 (w : World) : (callFunc 56 #[.iface 69 (.int .i64 15)]).run Tryd.prog w = .ok (.value (.iface 125 (.agg #[.pointer (some ⟨1, 69, none⟩)]))) w := by kernel_rfl
set_option maxHeartbeats 400000 in
theorem is_same15 (w : World) :
    Calls Tryd.prog 31 #[.iface 69 (.int .i64 15), .iface 69 (.int .i64 15)] w fun e w' => e = .returned (.bool true) ∧ w' = w := by
  have tT := Tryd.callTypeOf15
  have cT := Tryd.callComparable
  have e1 := Tryd.eqErr15
  have e2 := Tryd.eqNil15
  have mR := Tryd.methodComparable
  go_enter Tryd.func31, Tryd.ntmps31
  go_wp2
  refine wp_loop_rounds 1 ?_
  rw [rounds_succ]
  go_wp2
  go_ret
  exact ⟨rfl, rfl⟩
theorem Tryd.eqErr18 (w : World) : (binOp .eql 45 (.iface 69 (.int .i64 18)) (.iface 69 (.int .i64 18))).run Tryd.prog w = .ok (.bool true) w := by kernel_rfl
theorem Tryd.eqNil18 (w : World) : (binOp .eql 45 (.iface 69 (.int .i64 18)) .nilIface).run Tryd.prog w = .ok (.bool false) w := by kernel_rfl
theorem Tryd.callTypeOf18 (w : World) : (callFunc 56 #[.iface 69 (.int .i64 18)]).run Tryd.prog w = .ok (.value (.iface 125 (.agg #[.pointer (some ⟨1, 69, none⟩)]))) w := by kernel_rfl
set_option maxHeartbeats 400000 in
theorem is_same18 (w : World) :
    Calls Tryd.prog 31 #[.iface 69 (.int .i64 18), .iface 69 (.int .i64 18)] w fun e w' => e = .returned (.bool true) ∧ w' = w := by
  have tT := Tryd.callTypeOf18
  have cT := Tryd.callComparable
  have e1 := Tryd.eqErr18
  have e2 := Tryd.eqNil18
  have mR := Tryd.methodComparable
  go_enter Tryd.func31, Tryd.ntmps31
  go_wp2
  refine wp_loop_rounds 1 ?_
  rw [rounds_succ]
  go_wp2
  go_ret
  exact ⟨rfl, rfl⟩
end Go.Proofs.YtdjhlgcbjdohiaaDoor
