/- Contracts of the reference's SameInts and of errors.Is at the one error that package file gives. -/
import Derived.Test.YtehfhacghfagoaaFd
import Derived.Deep.QuietTactic
import Derived.BigQuiet
namespace Go.Proofs.Ytehfhacghfagoaa
open Go.RowKit

/-- A slice of numbers. -/
def IntsAt (w : World) (v : Value) (l : List Int) : Prop :=
  ∃ ao cap, v = .slice ao l.length cap ∧ l.length ≤ maxLen ∧ ∀ i (h : i < l.length), ∃ a, ao = some a ∧ w.cell? (a.add i) = some (.int .i64 l[i])
theorem IntsAt.below {w w' : World} {v : Value} {l : List Int} (h : IntsAt w v l) (hb : Below w.heap.size w w') : IntsAt w' v l := by
  obtain ⟨ao, cap, h1, h2, h3⟩ := h
  refine ⟨ao, cap, h1, h2, fun i hi => ?_⟩
  obtain ⟨a, ha, hc⟩ := h3 i hi
  exact ⟨a, ha, (hb.cell (p := a.add i) (World.block_lt_of_cell? w _ hc)).trans hc⟩
theorem ints_nil (w : World) : IntsAt w (.slice none 0 0) [] := ⟨none, 0, rfl, by simp, fun i hi => absurd hi (by simp)⟩
theorem OwnInts.at {w : World} {base : Nat} {v : Value} {l : List Int} (h : OwnInts w base v l) (hl : l.length ≤ maxLen) : IntsAt w v l := by
  obtain ⟨ao, cap, rfl⟩ := h.slice
  refine ⟨ao, cap, rfl, hl, fun i hi => ?_⟩
  rcases h.2 with ⟨hv, h0⟩ | ⟨g, cap', cur, hv, _⟩
  · omega
  · simp only [Value.slice.injEq, true_and] at hv
    obtain ⟨rfl, rfl⟩ := hv
    refine ⟨_, rfl, ?_⟩
    have := World.ownsRow.cellAt h i (by omega)
    rw [Addr.add_mid, Nat.zero_add, this]
    simp [intCells, hi]
theorem Try.elemInts : Try.prog.underlying 38 = some (.slice (Try.prog.elem 38)) := by kernel_rfl
theorem Try.sizeInts (w : World) : (Go.sizeOf (Try.prog.elem 38)).run Try.prog w = .ok 1 w := by kernel_rfl
theorem atInts {ao : Option Addr} {a : Addr} (len cap k : Nat) (ha : ao = some a) (h : k < len) (w : World) : (Instr.indexAt 38 (.slice ao len cap) (.int .i64 (k : Int))).run Try.prog w = .ok (.pointer (some (a.add k))) w :=
  index_at Try.elemInts Try.sizeInts len cap k ha h w
theorem below_draws (w : World) (n : Nat) : Below w.heap.size w (w.drewN n) := ⟨rfl, rfl, rfl, Nat.le_refl _, fun _ _ => rfl⟩
theorem ret_bool {a b : Bool} (h : a = b) : Ending.returned (.bool a) = .returned (.bool b) := by rw [h]

set_option maxHeartbeats 1000000 in
theorem refSameInts_any (l m : List Int) (v u : Value) (w : World) (hv : IntsAt w v l) (hu : IntsAt w u m) :
    Calls Try.prog 18 #[v, u] w fun e w' => e = .returned (.bool (decide (l = m))) ∧ Below w.heap.size w w' := by
  obtain ⟨ao, cap, rfl, hlm, hc⟩ := hv
  obtain ⟨ao2, cap2, rfl, hlm2, hc2⟩ := hu
  unfold maxLen at hlm hlm2
  have HC := hid hc
  have HC2 := hid hc2
  clear hc hc2
  by_cases hne : l.length = m.length
  · have hneB : ((l.length : Int) != (m.length : Int)) = false := by simp; omega
    have HNE := hid hne
    clear hne
    go_enter Try.func18, Try.ntmps18
    go_wp2
    go_loopw [5] (fun i wr => ∃ k : Nat, k ≤ l.length ∧ i = .int .i64 k ∧ Hid (l.take k = m.take k) ∧ Below w.heap.size w wr) (fun i _ => l.length - (intOf i).toNat)
    case atStart => exact ⟨0, Nat.zero_le _, rfl, rfl, Below.refl _ _⟩
    case round =>
      obtain ⟨k, hk, rfl, hall, hbel⟩ := hrel
      by_cases hlt : k < l.length
      · have hlt2 : k < m.length := by rw [← HNE.out]; exact hlt
        obtain ⟨a, ha, hce⟩ := HC.out k hlt
        obtain ⟨a2, ha2, hce2⟩ := HC2.out k hlt2
        have hcell : wr.cell? (a.add k) = some (Value.int .i64 l[k]) := (hbel.cell (p := a.add k) (World.block_lt_of_cell? w _ hce)).trans hce
        have hcell2 : wr.cell? (a2.add k) = some (Value.int .i64 m[k]) := (hbel.cell (p := a2.add k) (World.block_lt_of_cell? w _ hce2)).trans hce2
        have hia := atInts (ao := ao) l.length cap k ha hlt
        have hia2 := atInts (ao := ao2) m.length cap2 k ha2 hlt2
        clear hce hce2 ha ha2
        have HT1 := hid (List.take_succ_eq_append_getElem hlt)
        have HT2 := hid (List.take_succ_eq_append_getElem hlt2)
        by_cases heq : l[k] = m[k]
        · have hb : (l[k] != m[k]) = false := by simp [heq]
          have HE := hid heq
          clear heq
          go_wp2_with fail
          go_quiet (fail)
          go_wp2
          go_roundw
          case rel => exact ⟨k + 1, by omega, by go_num, by show _ = _; rw [HT1.out, HT2.out, HE.out, hall.out], hbel.trans ((below_draws wr nq).mono hbel.size)⟩
          case measure => simp [intOf]; omega
        · have hb : (l[k] != m[k]) = true := by simpa using heq
          have HE := hid heq
          clear heq
          go_wp2_with fail
          go_quiet (fail)
          go_wp2
          go_ret
          refine ⟨ret_bool ?_, hbel.trans ((below_draws wr nq).mono hbel.size)⟩
          have : ¬ l = m := by
            intro e
            subst e
            exact HE.out rfl
          simp [this]
      · have hke : k = l.length := by omega
        go_wp2
        go_ret
        refine ⟨ret_bool ?_, hbel⟩
        have h1 := hall.out
        rw [List.take_of_length_le (by omega), List.take_of_length_le (by have := HNE.out; omega)] at h1
        simp [h1]
  · have hneB : ((l.length : Int) != (m.length : Int)) = true := by simp; omega
    have HNE := hid hne
    clear hne
    go_enter Try.func18, Try.ntmps18
    go_wp2
    go_ret
    refine ⟨ret_bool ?_, Below.refl _ _⟩
    have : ¬ l = m := fun e => HNE.out (by rw [e])
    simp [this]

theorem Try.eqErr (w : World) : (binOp .eql 33 (.iface 53 (.int .i64 14)) (.iface 53 (.int .i64 14))).run Try.prog w = .ok (.bool true) w := by kernel_rfl
theorem Try.eqNil (w : World) : (binOp .eql 33 (.iface 53 (.int .i64 14)) .nilIface).run Try.prog w = .ok (.bool false) w := by kernel_rfl
theorem Try.eqNilNil (w : World) : (binOp .eql 33 .nilIface .nilIface).run Try.prog w = .ok (.bool true) w := by kernel_rfl
theorem Try.callTypeOf (w : World) : (callFunc 30 #[.iface 53 (.int .i64 14)]).run Try.prog w = .ok (.value (.iface 70 (.agg #[.pointer (some ⟨0, 53, none⟩)]))) w := by kernel_rfl
theorem Try.callComparable (w : World) : (callFunc 51 #[.agg #[.pointer (some ⟨0, 53, none⟩)]]).run Try.prog w = .ok (.value (.bool true)) w := by kernel_rfl
theorem Try.methodComparable (v : Value) (w : World) : (Go.method 212 70 v "Comparable").run Try.prog w = .ok (51, v) w := by kernel_rfl

set_option maxHeartbeats 400000 in
theorem is_same (w : World) :
    Calls Try.prog 24 #[.iface 53 (.int .i64 14), .iface 53 (.int .i64 14)] w fun e w' => e = .returned (.bool true) ∧ w' = w := by
  have tT := Try.callTypeOf
  have cT := Try.callComparable
  have e1 := Try.eqErr
  have e2 := Try.eqNil
  have mR := Try.methodComparable
  go_enter Try.func24, Try.ntmps24
  go_wp2
  refine wp_loop_rounds 1 ?_
  rw [rounds_succ]
  go_wp2
  go_ret
  exact ⟨rfl, rfl⟩

end Go.Proofs.Ytehfhacghfagoaa
