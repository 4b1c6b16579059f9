/- Contract of package page's rightKids. -/
import Derived.Test.YtgnmjdcmaahlnaaLb
import Derived.DataElems
namespace Go.Proofs.Ytgnmjdcmaahlnaa
open Go.RowKit Go.Sort

def rightKidsB (keys : List ByteArray) (kids : List Int) : Bool :=
  withinB kids.length 2 4 && decide (keys.length = kids.length) && (keys.getD 0 ⟨#[]⟩).toList.isEmpty && (keys.drop 1).all shortB && upS keys && kids.all pageB

/-- 'keys[1:]'. -/
theorem strs_tail {w : World} {v : Value} {l : List ByteArray} (h : StrsAt w v l) (hl : 2 ≤ l.length) :
    ∃ v', (∀ w1, (Instr.slice 45 v (some (.int .i64 1)) none none).run Try.prog w1 = .ok v' w1) ∧ StrsAt w v' (l.drop 1) := by
  obtain ⟨ao, cap, rfl, hlm, hc⟩ := h
  refine ⟨.slice (ao.map (fun a => a.add 1)) (l.length - 1) (cap - 1), fun w1 => ?_, ao.map (fun a => a.add 1), cap - 1, by simp, ⟨by simp; omega, by simp; omega⟩, fun i hi => ?_⟩
  · rw [run_slice_l (P := Try.prog) w1 45 ao l.length cap Try.elemStrs .i64 1 (by omega) (by omega), Try.sizeStrs]
    have : ¬ cap = 1 := by omega
    simp [sliced, Result.andThen, this]
  · have hi' : i + 1 < l.length := by simp at hi; omega
    obtain ⟨a, ha, hcl, hs⟩ := hc (i + 1) hi'
    refine ⟨a.add 1, by rw [ha]; rfl, ?_, ?_⟩
    · rw [Addr.add_add, Nat.add_comm 1 i]
      simpa using hcl
    · simpa using hs

set_option maxHeartbeats 1000000 in
theorem rightKids_any (l : List ByteArray) (m : List Int) (v u : Value) (w : World) (hv : StrsAt w v l) (hu : IntsAt w u m) :
    Calls Try.prog 38 #[v, u] w fun e w' => e = .returned (.bool (rightKidsB l m)) ∧ Below w.heap.size w w' := by
  have HR := hid (risingS_any l v w hv)
  have HN : Hid (∀ W, Below w.heap.size w W → Calls Try.prog 66 #[u] W fun e w' => e = .returned (.bool (m.all pageB)) ∧ w' = W) := fun W hW => numbers_any m u W (hu.below hW)
  cases hw : withinB m.length 2 4
  · obtain ⟨ao, cap, rfl, hlm, -⟩ := hv
    obtain ⟨ao2, cap2, rfl, hlm2, -⟩ := hu
    unfold maxLen at hlm hlm2
    go_enter Try.func38, Try.ntmps38
    go_wp2_with (go_at_call 44; refine Calls.mono (within_any _ _ _ _) ?_; rintro e w2 ⟨rfl, rfl⟩)
    go_ret
    refine ⟨ret_bool ?_, Below.refl _ _⟩
    simp [rightKidsB, hw]
  have hwi : 2 ≤ m.length ∧ m.length ≤ 4 := by simp [withinB] at hw; omega
  by_cases hlen : l.length = m.length
  · obtain ⟨v1, hsl, htail⟩ := strs_tail hv (by omega)
    obtain ⟨ao, cap, rfl, hlm, hc⟩ := hv
    obtain ⟨ao2, cap2, rfl, hlm2, -⟩ := hu
    unfold maxLen at hlm hlm2
    have hneB : ((l.length : Int) != (m.length : Int)) = false := by simp; omega
    obtain ⟨a, ha, hce, hsz⟩ := hc 0 (by omega)
    have hia := atStrs (ao := ao) l.length cap 0 ha (by omega)
    rw [Addr.add_zero'] at hce hia
    simp only [Int.natCast_zero] at hia
    have h0 : 0 < l.length := by omega
    have HG : Hid (l.getD 0 ⟨#[]⟩ = l[0]) := by show _ = _; simp [h0]
    generalize l[0] = x0 at *
    have HLEN := hid hlen
    clear hc ha hlen
    cases hemp : x0.toList.isEmpty
    · have hne : (x0.toList == []) = false := by
        cases h : x0.toList <;> simp_all
      go_enter Try.func38, Try.ntmps38
      go_wp2_with (go_at_call 44; refine Calls.mono (within_any _ _ _ _) ?_; rintro e w2 ⟨rfl, rfl⟩)
      go_ret
      refine ⟨ret_bool ?_, Below.refl _ _⟩
      rw [rightKidsB, HG.out, hemp]
      simp
    · have hne : x0.toList = [] := by simpa using hemp
      have HT : Hid (StrsAt w v1 (l.drop 1)) := htail
      obtain ⟨ao3, cap3, rfl, hl3, hc3⟩ := htail
      unfold maxLen at hl3
      have HC3 := hid hc3
      clear hc3 hsz
      generalize hK : l.drop 1 = K at *
      go_enter Try.func38, Try.ntmps38
      go_wp2_with (go_at_call 44; refine Calls.mono (within_any _ _ _ _) ?_; rintro e w2 ⟨rfl, rfl⟩)
      go_loop [27] (fun i => ∃ k : Nat, k ≤ K.length ∧ i = .int .i64 k ∧ Hid ((K.take k).all shortB = true)) (fun i => K.length - (intOf i).toNat)
      case atStart => exact ⟨0, Nat.zero_le _, rfl, rfl⟩
      case round =>
        obtain ⟨k, hk, rfl, hall⟩ := hrel
        by_cases hlt : k < K.length
        · obtain ⟨a3, ha3, hce3, hsz3⟩ := HC3.out k hlt
          have hia3 := atStrs (ao := ao3) K.length cap3 k ha3 hlt
          have HTK := hid (List.take_succ_eq_append_getElem hlt)
          have HM : Hid (K[k] ∈ K) := List.getElem_mem hlt
          have HZ := hid hsz3
          clear ha3 hsz3
          cases hp : shortB K[k]
          all_goals
            go_wp2_with (go_at_call 62; refine (short_any _ _ HZ.out).mono ?_; rintro e w' ⟨rfl, rfl⟩)
          · go_ret
            refine ⟨ret_bool ?_, Below.refl _ _⟩
            have : K.all shortB = false := by
              rw [List.all_eq_false]
              exact ⟨_, HM.out, by simp [hp]⟩
            rw [rightKidsB, hK, this]
            simp
          · go_roundw
            case rel => exact ⟨k + 1, by omega, by go_num, by show _ = _; rw [HTK.out, List.all_append, hall.out]; simp [hp]⟩
            case measure => simp [intOf]; omega
        · have h := hall.out
          rw [List.take_of_length_le (by omega)] at h
          have HS : Hid (rightKidsB l m = (upS l && m.all pageB)) := by
            show _ = _
            rw [rightKidsB, hK, h, HG.out, hemp, hw, decide_eq_true HLEN.out]
            simp
          clear h
          cases hup : upS l
          all_goals
            go_wp2_with (first
              | (go_at_call 65; refine Calls.mono HR.out ?_; rintro e w2 ⟨rfl, hb2⟩)
              | (go_at_call 66; refine Calls.mono (HN.out _ hb2) ?_; rintro e w2 ⟨rfl, rfl⟩))
            go_ret
            refine ⟨ret_bool ?_, hb2⟩
            rw [HS.out, hup]
            simp
  · obtain ⟨ao, cap, rfl, hlm, -⟩ := hv
    obtain ⟨ao2, cap2, rfl, hlm2, -⟩ := hu
    unfold maxLen at hlm hlm2
    have hneB : ((l.length : Int) != (m.length : Int)) = true := by simp; omega
    go_enter Try.func38, Try.ntmps38
    go_wp2_with (go_at_call 44; refine Calls.mono (within_any _ _ _ _) ?_; rintro e w2 ⟨rfl, rfl⟩)
    go_ret
    refine ⟨ret_bool ?_, Below.refl _ _⟩
    rw [rightKidsB, decide_eq_false hlen]
    simp
end Go.Proofs.Ytgnmjdcmaahlnaa
