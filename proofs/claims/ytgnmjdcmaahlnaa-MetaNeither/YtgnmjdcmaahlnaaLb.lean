/- Contracts of package page's tests on roots, values, kids and free numbers. -/
import Derived.Test.YtgnmjdcmaahlnaaLa
namespace Go.Proofs.Ytgnmjdcmaahlnaa
open Go.RowKit Go.Sort

set_option maxHeartbeats 1000000 in
theorem rightRoot_any (r : RootD) (w : World) :
    Calls Try.prog 43 #[.agg #[.int .i64 r.page, .int .i64 r.count, .int .i64 r.flags]] w fun e w' => e = .returned (.bool (rootB r)) ∧ Below w.heap.size w w' := by
  obtain ⟨a, b, c⟩ := r
  show Calls Try.prog _ #[.agg #[.int .i64 a, .int .i64 b, .int .i64 c]] w _
  go_enter Try.func43, Try.ntmps43
  go_wp2_with (first
    | (go_at_call 42; refine Calls.mono (orNone_any _ _) ?_; rintro e w2 ⟨rfl, rfl⟩)
    | (go_at_call 44; refine Calls.mono (within_any _ _ _ _) ?_; rintro e w2 ⟨rfl, rfl⟩))
  all_goals
    go_ret
    refine ⟨ret_bool ?_, (Below.refl _ _).alloc (Nat.le_refl _) _⟩
    simp_all [rootB, noneB, withinB]
  all_goals omega

def rightValsB (l : List ByteArray) (least most : Int) : Bool := withinB l.length least most && l.all (fun v => sizedB v 1 12) && upS l

set_option maxHeartbeats 1000000 in
theorem rightVals_any (l : List ByteArray) (v : Value) (least most : Int) (w : World) (hv : StrsAt w v l) :
    Calls Try.prog 40 #[v, .int .i64 least, .int .i64 most] w fun e w' => e = .returned (.bool (rightValsB l least most)) ∧ Below w.heap.size w w' := by
  have HR := hid (risingS_any l v w hv)
  obtain ⟨ao, cap, rfl, hlm, hc⟩ := hv
  unfold maxLen at hlm
  have HC := hid hc
  clear hc
  cases hw : withinB l.length least most
  · go_enter Try.func40, Try.ntmps40
    go_wp2_with (go_at_call 44; refine Calls.mono (within_any _ _ _ _) ?_; rintro e w2 ⟨rfl, rfl⟩)
    go_ret
    refine ⟨ret_bool ?_, Below.refl _ _⟩
    simp [rightValsB, hw]
  · go_enter Try.func40, Try.ntmps40
    go_wp2_with (go_at_call 44; refine Calls.mono (within_any _ _ _ _) ?_; rintro e w2 ⟨rfl, rfl⟩)
    go_loop [17] (fun i => ∃ k : Nat, k ≤ l.length ∧ i = .int .i64 k ∧ Hid ((l.take k).all (fun v => sizedB v 1 12) = true)) (fun i => l.length - (intOf i).toNat)
    case atStart => exact ⟨0, Nat.zero_le _, rfl, rfl⟩
    case round =>
      obtain ⟨k, hk, rfl, hall⟩ := hrel
      by_cases hlt : k < l.length
      · obtain ⟨a, ha, hce, hsz⟩ := HC.out k hlt
        have hia := atStrs (ao := ao) l.length cap k ha hlt
        have HT := hid (List.take_succ_eq_append_getElem hlt)
        have HM : Hid (l[k] ∈ l) := List.getElem_mem hlt
        have HZ := hid hsz
        clear ha hsz
        cases hp : sizedB l[k] 1 12
        all_goals
          go_wp2_with (go_at_call 39; refine (sized_any _ _ _ _ HZ.out).mono ?_; rintro e w' ⟨rfl, rfl⟩)
        · go_ret
          refine ⟨ret_bool ?_, Below.refl _ _⟩
          have : l.all (fun v => sizedB v 1 12) = false := by
            rw [List.all_eq_false]
            exact ⟨_, HM.out, by simp [hp]⟩
          simp [rightValsB, this]
        · go_roundw
          case rel => exact ⟨k + 1, by omega, by go_num, by show _ = _; rw [HT.out, List.all_append, hall.out]; simp [hp]⟩
          case measure => simp [intOf]; omega
      · go_wp2_with (go_at_call 65; refine Calls.mono HR.out ?_; rintro e w2 ⟨rfl, hb2⟩)
        go_ret
        refine ⟨ret_bool ?_, hb2⟩
        have h := hall.out
        rw [List.take_of_length_le (by omega)] at h
        simp [rightValsB, hw, h]

end Go.Proofs.Ytgnmjdcmaahlnaa
