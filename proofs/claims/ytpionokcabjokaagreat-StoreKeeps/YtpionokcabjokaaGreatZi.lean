/- Contracts of the reference's small tests on pages: Short, page, root, vals, SameTexts, SameInts. Contracts of the reference's tests whether two items, two rows of free numbers are the same. Contract of the reference's test whether two pages are the same. Contract of the reference's test whether two pages are the same: pages that part in their items alone. -/
import Derived.Test.YtpionokcabjokaaGreatXc
namespace Go.Proofs.YtpionokcabjokaaGreat
open Go.RowKit Go.Sort

set_option maxHeartbeats 400000 in
theorem refShort_any (s : ByteArray) (w : World) (hs : s.size ≤ maxLen) :
    Calls Tryz.prog 52 #[.string s] w fun e w' => e = .returned (.bool (shortB s)) ∧ w' = w := by
  unfold maxLen at hs
  go_enter Tryz.func52, Tryz.ntmps52
  go_wp2
  all_goals
    go_ret
    refine ⟨ret_bool ?_, rfl⟩
    rw [Bool.eq_iff_iff]
    simp [shortB]
    omega

set_option maxHeartbeats 400000 in
theorem refPage_any (n : Int) (w : World) :
    Calls Tryz.prog 51 #[.int .i64 n] w fun e w' => e = .returned (.bool (pageB n)) ∧ w' = w := by
  go_enter Tryz.func51, Tryz.ntmps51
  go_wp2
  all_goals
    go_ret
    refine ⟨ret_bool ?_, rfl⟩
    rw [Bool.eq_iff_iff]
    simp [pageB]
    omega

set_option maxHeartbeats 1000000 in
theorem refRoot_any (r : RootD) (w : World) :
    Calls Tryz.prog 55 #[.agg #[.int .i64 r.page, .int .i64 r.count, .int .i64 r.flags]] w fun e w' => e = .returned (.bool (rootB r)) ∧ Below w.heap.size w w' := by
  obtain ⟨a, b, c⟩ := r
  show Calls Tryz.prog _ #[.agg #[.int .i64 a, .int .i64 b, .int .i64 c]] w _
  have hp := fun w => refPage_any a w
  have HP : Hid _ := hp
  clear hp
  go_enter Tryz.func55, Tryz.ntmps55
  go_wp2_with (go_at_call 51; refine Calls.mono (HP.out _) ?_; rintro e w2 ⟨rfl, rfl⟩)
  all_goals
    go_ret
    refine ⟨ret_bool ?_, (Below.refl _ _).alloc (Nat.le_refl _) _⟩
    clear HP
    simp_all [rootB]
  all_goals omega

set_option maxHeartbeats 1000000 in
theorem refVals_any (l : List ByteArray) (v : Value) (least most : Int) (w : World) (hv : StrsAt w v l) :
    Calls Tryz.prog 53 #[v, .int .i64 least, .int .i64 most] w fun e w' => e = .returned (.bool (valsB l least most)) ∧ Below w.heap.size w w' := by
  obtain ⟨ao, cap, rfl, hlm, hc⟩ := hv
  unfold maxLen at hlm
  have HC := hid hc
  clear hc
  go_enter Tryz.func53, Tryz.ntmps53
  go_wp2
  go_loopw [7] (fun i wr => ∃ k : Nat, k ≤ l.length ∧ i = .int .i64 k ∧ (List.range k).all (goodV l) = true ∧ Below w.heap.size w wr) (fun i _ => l.length - (intOf i).toNat)
  case atStart => exact ⟨0, Nat.zero_le _, rfl, rfl, Below.refl _ _⟩
  case round =>
    obtain ⟨k, hk, rfl, hall, hbel⟩ := hrel
    have HA := hid hall
    clear hall
    by_cases hlt : k < l.length
    · obtain ⟨a, ha, hce, hsz⟩ := HC.out k hlt
      unfold maxLen at hsz
      have hcell : wr.cell? (a.add k) = some (.string l[k]) := (hbel.cell (p := a.add k) (World.block_lt_of_cell? w _ hce)).trans hce
      have hia := atStrs (ao := ao) l.length cap k ha hlt
      have hgk : l.getD k ⟨#[]⟩ = l[k] := by simp [hlt]
      have HG := hid hgk
      have HSU := hid (all_range_succ (goodV l) k)
      have HBD := hid (all_range_bad (goodV l) k l.length hlt)
      clear hgk hce ha
      by_cases hs1 : 1 ≤ l[k].size
      · have hd1 : decide ((l[k].size : Int) < 1) = false := by simp; omega
        by_cases hs2 : l[k].size ≤ 12
        · have hd2 : decide ((12 : Int) < (l[k].size : Int)) = false := by simp; omega
          by_cases hk0 : k ≤ 0
          · have hg : goodV l k = true := by
              unfold goodV
              rw [HG.out]
              have h3 : (k == 0) = true := by simp; omega
              rw [h3]
              simp
              omega
            have HGO := hid hg
            have hd : decide (0 < k) = false := by simp; omega
            clear hg hk0
            go_wp2_with fail
            go_quiet (fail)
            go_wp2
            go_roundw
            case rel => exact ⟨k + 1, by omega, by go_num, by rw [HSU.out, HA.out, HGO.out]; rfl, hbel.trans ((below_draws wr nq).mono hbel.size)⟩
            case measure => simp [intOf]; omega
          · obtain ⟨j, hj⟩ : ∃ j : Nat, (j : Int) + 1 ≤ (k : Int) ∧ (k : Int) ≤ (j : Int) + 1 := ⟨k - 1, by omega, by omega⟩
            obtain ⟨a', ha', hce', hsz'⟩ := HC.out j (by omega)
            have hcell' : wr.cell? (a'.add j) = some (.string l[j]) := (hbel.cell (p := a'.add j) (World.block_lt_of_cell? w _ hce')).trans hce'
            have hia' := atStrs (ao := ao) l.length cap j ha' (by omega)
            have hkj : (k : Int) - 1 = (j : Int) := by omega
            have hjl : j < l.length := by omega
            have hgj : l.getD (k - 1) ⟨#[]⟩ = l[j] := by
              have : k - 1 = j := by omega
              rw [this]
              simp [hjl]
            have hd : decide (0 < k) = true := by simp; omega
            have HGJ := hid hgj
            clear hce' ha' hgj hsz' hk0
            cases hlb : ltB l[j] l[k]
            · have hg : goodV l k = false := by
                unfold goodV
                rw [HG.out, HGJ.out, hlb]
                have h3 : (k == 0) = false := by simp; omega
                rw [h3]
                simp
              have HGO := hid hg
              have hop : Op.bytesLess l[j].toList l[k].toList = false := hlb
              clear hg hlb
              go_wp2_with fail
              go_quiet (fail)
              go_wp2
              go_ret
              refine ⟨ret_bool ?_, hbel.trans ((below_draws wr nq).mono hbel.size)⟩
              simp [valsB, HBD.out HGO.out]
            · have hg : goodV l k = true := by
                unfold goodV
                rw [HG.out, HGJ.out, hlb]
                simp
                omega
              have HGO := hid hg
              have hop : Op.bytesLess l[j].toList l[k].toList = true := hlb
              clear hg hlb
              go_wp2_with fail
              go_quiet (fail)
              go_wp2
              go_roundw
              case rel => exact ⟨k + 1, by omega, by go_num, by rw [HSU.out, HA.out, HGO.out]; rfl, hbel.trans ((below_draws wr nq).mono hbel.size)⟩
              case measure => simp [intOf]; omega
        · have hd2 : decide ((12 : Int) < (l[k].size : Int)) = true := by simp; omega
          have hg : goodV l k = false := by
            unfold goodV
            rw [HG.out]
            simp
            omega
          have HGO := hid hg
          clear hg
          go_wp2_with fail
          go_quiet (fail)
          go_wp2
          go_ret
          refine ⟨ret_bool ?_, hbel.trans ((below_draws wr nq).mono hbel.size)⟩
          simp [valsB, HBD.out HGO.out]
      · have hd1 : decide ((l[k].size : Int) < 1) = true := by simp; omega
        have hg : goodV l k = false := by
          unfold goodV
          rw [HG.out]
          simp
          omega
        have HGO := hid hg
        clear hg
        go_wp2_with fail
        go_quiet (fail)
        go_wp2
        go_ret
        refine ⟨ret_bool ?_, hbel.trans ((below_draws wr nq).mono hbel.size)⟩
        simp [valsB, HBD.out HGO.out]
    · have hke : k = l.length := by omega
      subst hke
      go_wp2
      all_goals
        go_ret
        refine ⟨ret_bool ?_, hbel⟩
        have h0 := HA.out
        rw [Bool.eq_iff_iff]
        simp only [valsB, h0]
        simp
        omega

theorem toList_inj {a b : ByteArray} (h : a.toList = b.toList) : a = b := by
  rw [ByteArray.toList_eq, ByteArray.toList_eq] at h
  exact ByteArray.ext (Array.toList_inj.1 h)

set_option maxHeartbeats 1000000 in
theorem refSameInts_any (l m : List Int) (v u : Value) (w : World) (hv : IntsAt w v l) (hu : IntsAt w u m) :
    Calls Tryz.prog 26 #[v, u] w fun e w' => e = .returned (.bool (decide (l = m))) ∧ Below w.heap.size w w' := by
  obtain ⟨ao, cap, rfl, hlm, hc⟩ := hv
  obtain ⟨ao2, cap2, rfl, hlm2, hc2⟩ := hu
  unfold maxLen at hlm hlm2
  have HC := hid hc
  have HC2 := hid hc2
  clear hc hc2
  by_cases hne : l.length = m.length
  · have hneB : ((l.length : Int) != (m.length : Int)) = false := by simp; omega
    have HNE := hid hne
    clear hne
    go_enter Tryz.func26, Tryz.ntmps26
    go_wp2
    go_loopw [5] (fun i wr => ∃ k : Nat, k ≤ l.length ∧ i = .int .i64 k ∧ Hid (l.take k = m.take k) ∧ Below w.heap.size w wr) (fun i _ => l.length - (intOf i).toNat)
    case atStart => exact ⟨0, Nat.zero_le _, rfl, rfl, Below.refl _ _⟩
    case round =>
      obtain ⟨k, hk, rfl, hall, hbel⟩ := hrel
      by_cases hlt : k < l.length
      · have hlt2 : k < m.length := by rw [← HNE.out]; exact hlt
        obtain ⟨a, ha, hce⟩ := HC.out k hlt
        obtain ⟨a2, ha2, hce2⟩ := HC2.out k hlt2
        have hcell : wr.cell? (a.add k) = some (Value.int .i64 l[k]) := (hbel.cell (p := a.add k) (World.block_lt_of_cell? w _ hce)).trans hce
        have hcell2 : wr.cell? (a2.add k) = some (Value.int .i64 m[k]) := (hbel.cell (p := a2.add k) (World.block_lt_of_cell? w _ hce2)).trans hce2
        have hia := atInts (ao := ao) l.length cap k ha hlt
        have hia2 := atInts (ao := ao2) m.length cap2 k ha2 hlt2
        clear hce hce2 ha ha2
        have HT1 := hid (List.take_succ_eq_append_getElem hlt)
        have HT2 := hid (List.take_succ_eq_append_getElem hlt2)
        by_cases heq : l[k] = m[k]
        · have hb : (l[k] != m[k]) = false := by simp [heq]
          have HE := hid heq
          clear heq
          go_wp2_with fail
          go_quiet (fail)
          go_wp2
          go_roundw
          case rel => exact ⟨k + 1, by omega, by go_num, by show _ = _; rw [HT1.out, HT2.out, HE.out, hall.out], hbel.trans ((below_draws wr nq).mono hbel.size)⟩
          case measure => simp [intOf]; omega
        · have hb : (l[k] != m[k]) = true := by simpa using heq
          have HE := hid heq
          clear heq
          go_wp2_with fail
          go_quiet (fail)
          go_wp2
          go_ret
          refine ⟨ret_bool ?_, hbel.trans ((below_draws wr nq).mono hbel.size)⟩
          have : ¬ l = m := by
            intro e
            subst e
            exact HE.out rfl
          simp [this]
      · have hke : k = l.length := by omega
        go_wp2
        go_ret
        refine ⟨ret_bool ?_, hbel⟩
        have h1 := hall.out
        rw [List.take_of_length_le (by omega), List.take_of_length_le (by have := HNE.out; omega)] at h1
        simp [h1]
  · have hneB : ((l.length : Int) != (m.length : Int)) = true := by simp; omega
    have HNE := hid hne
    clear hne
    go_enter Tryz.func26, Tryz.ntmps26
    go_wp2
    go_ret
    refine ⟨ret_bool ?_, Below.refl _ _⟩
    have : ¬ l = m := fun e => HNE.out (by rw [e])
    simp [this]
end Go.Proofs.YtpionokcabjokaaGreat

namespace Go.Proofs.YtpionokcabjokaaGreat
open Go.RowKit Go.Sort

end Go.Proofs.YtpionokcabjokaaGreat

namespace Go.Proofs.YtpionokcabjokaaGreat
open Go.RowKit Go.Sort

end Go.Proofs.YtpionokcabjokaaGreat

namespace Go.Proofs.YtpionokcabjokaaGreat
open Go.RowKit Go.Sort

end Go.Proofs.YtpionokcabjokaaGreat
