/- Contract of the reference's SameInts. -/
import Derived.Test.YtdjhlgcbjdohiaaYa
import Derived.Deep.QuietTactic
import Derived.BigQuiet
namespace Go.Proofs.Ytdjhlgcbjdohiaa
open Go.RowKit

set_option maxHeartbeats 1000000 in
theorem refSameInts_any (l m : List Int) (v u : Value) (w : World) (hv : IntsAt w v l) (hu : IntsAt w u m) :
    Calls Try.prog 14 #[v, u] w fun e w' => e = .returned (.bool (decide (l = m))) ∧ Below w.heap.size w w' := by
  obtain ⟨ao, cap, rfl, hlm, hc⟩ := hv
  obtain ⟨ao2, cap2, rfl, hlm2, hc2⟩ := hu
  unfold maxLen at hlm hlm2
  have HC := hid hc
  have HC2 := hid hc2
  clear hc hc2
  by_cases hne : l.length = m.length
  · have hneB : ((l.length : Int) != (m.length : Int)) = false := by simp; omega
    have HNE := hid hne
    clear hne
    go_enter Try.func14, Try.ntmps14
    go_wp2
    go_loopw [5] (fun i wr => ∃ k : Nat, k ≤ l.length ∧ i = .int .i64 k ∧ Hid (l.take k = m.take k) ∧ Below w.heap.size w wr) (fun i _ => l.length - (intOf i).toNat)
    case atStart => exact ⟨0, Nat.zero_le _, rfl, rfl, Below.refl _ _⟩
    case round =>
      obtain ⟨k, hk, rfl, hall, hbel⟩ := hrel
      by_cases hlt : k < l.length
      · have hlt2 : k < m.length := by rw [← HNE.out]; exact hlt
        obtain ⟨a, ha, hce⟩ := HC.out k hlt
        obtain ⟨a2, ha2, hce2⟩ := HC2.out k hlt2
        have hcell : wr.cell? (a.add k) = some (Value.int .i64 l[k]) := (hbel.cell (p := a.add k) (World.block_lt_of_cell? w _ hce)).trans hce
        have hcell2 : wr.cell? (a2.add k) = some (Value.int .i64 m[k]) := (hbel.cell (p := a2.add k) (World.block_lt_of_cell? w _ hce2)).trans hce2
        have hia := atInts (ao := ao) l.length cap k ha hlt
        have hia2 := atInts (ao := ao2) m.length cap2 k ha2 hlt2
        clear hce hce2 ha ha2
        have HT1 := hid (List.take_succ_eq_append_getElem hlt)
        have HT2 := hid (List.take_succ_eq_append_getElem hlt2)
        by_cases heq : l[k] = m[k]
        · have hb : (l[k] != m[k]) = false := by simp [heq]
          have HE := hid heq
          clear heq
          go_wp2_with fail
          go_quiet (fail)
          go_wp2
          go_roundw
          case rel => exact ⟨k + 1, by omega, by go_num, by show _ = _; rw [HT1.out, HT2.out, HE.out, hall.out], hbel.trans ((below_draws wr nq).mono hbel.size)⟩
          case measure => simp [intOf]; omega
        · have hb : (l[k] != m[k]) = true := by simpa using heq
          have HE := hid heq
          clear heq
          go_wp2_with fail
          go_quiet (fail)
          go_wp2
          go_ret
          refine ⟨ret_bool ?_, hbel.trans ((below_draws wr nq).mono hbel.size)⟩
          have : ¬ l = m := by
            intro e
            subst e
            exact HE.out rfl
          simp [this]
      · have hke : k = l.length := by omega
        go_wp2
        go_ret
        refine ⟨ret_bool ?_, hbel⟩
        have h1 := hall.out
        rw [List.take_of_length_le (by omega), List.take_of_length_le (by have := HNE.out; omega)] at h1
        simp [h1]
  · have hneB : ((l.length : Int) != (m.length : Int)) = true := by simp; omega
    have HNE := hid hne
    clear hne
    go_enter Try.func14, Try.ntmps14
    go_wp2
    go_ret
    refine ⟨ret_bool ?_, Below.refl _ _⟩
    have : ¬ l = m := fun e => HNE.out (by rw [e])
    simp [this]

end Go.Proofs.Ytdjhlgcbjdohiaa
