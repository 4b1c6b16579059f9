/- Contracts of the reference's small tests on pages: Short, page, root, vals, SameTexts, SameInts. Contracts of the reference's tests whether two items, two rows of free numbers are the same. -/
import Derived.Test.YtmdapookkggjkaaGreatXc
namespace Go.Proofs.YtmdapookkggjkaaGreat
open Go.RowKit Go.Sort

set_option maxHeartbeats 400000 in
theorem refShort_any (s : ByteArray) (w : World) (hs : s.size ≤ maxLen) :
    Calls Tryz.prog 16 #[.string s] w fun e w' => e = .returned (.bool (shortB s)) ∧ w' = w := by
  unfold maxLen at hs
  go_enter Tryz.func16, Tryz.ntmps16
  go_wp2
  all_goals
    go_ret
    refine ⟨ret_bool ?_, rfl⟩
    rw [Bool.eq_iff_iff]
    simp [shortB]
    omega

set_option maxHeartbeats 400000 in
theorem refPage_any (n : Int) (w : World) :
    Calls Tryz.prog 34 #[.int .i64 n] w fun e w' => e = .returned (.bool (pageB n)) ∧ w' = w := by
  go_enter Tryz.func34, Tryz.ntmps34
  go_wp2
  all_goals
    go_ret
    refine ⟨ret_bool ?_, rfl⟩
    rw [Bool.eq_iff_iff]
    simp [pageB]
    omega

set_option maxHeartbeats 1000000 in
theorem refRoot_any (r : RootD) (w : World) :
    Calls Tryz.prog 37 #[.agg #[.int .i64 r.page, .int .i64 r.count, .int .i64 r.flags]] w fun e w' => e = .returned (.bool (rootB r)) ∧ Below w.heap.size w w' := by
  obtain ⟨a, b, c⟩ := r
  show Calls Tryz.prog _ #[.agg #[.int .i64 a, .int .i64 b, .int .i64 c]] w _
  have hp := fun w => refPage_any a w
  have HP : Hid _ := hp
  clear hp
  go_enter Tryz.func37, Tryz.ntmps37
  go_wp2_with (go_at_call 34; refine Calls.mono (HP.out _) ?_; rintro e w2 ⟨rfl, rfl⟩)
  all_goals
    go_ret
    refine ⟨ret_bool ?_, (Below.refl _ _).alloc (Nat.le_refl _) _⟩
    clear HP
    simp_all [rootB]
  all_goals omega

set_option maxHeartbeats 1000000 in
theorem refVals_any (l : List ByteArray) (v : Value) (least most : Int) (w : World) (hv : StrsAt w v l) :
    Calls Tryz.prog 35 #[v, .int .i64 least, .int .i64 most] w fun e w' => e = .returned (.bool (valsB l least most)) ∧ Below w.heap.size w w' := by
  obtain ⟨ao, cap, rfl, hlm, hc⟩ := hv
  unfold maxLen at hlm
  have HC := hid hc
  clear hc
  go_enter Tryz.func35, Tryz.ntmps35
  go_wp2
  go_loopw [7] (fun i wr => ∃ k : Nat, k ≤ l.length ∧ i = .int .i64 k ∧ (List.range k).all (goodV l) = true ∧ Below w.heap.size w wr) (fun i _ => l.length - (intOf i).toNat)
  case atStart => exact ⟨0, Nat.zero_le _, rfl, rfl, Below.refl _ _⟩
  case round =>
    obtain ⟨k, hk, rfl, hall, hbel⟩ := hrel
    have HA := hid hall
    clear hall
    by_cases hlt : k < l.length
    · obtain ⟨a, ha, hce, hsz⟩ := HC.out k hlt
      unfold maxLen at hsz
      have hcell : wr.cell? (a.add k) = some (.string l[k]) := (hbel.cell (p := a.add k) (World.block_lt_of_cell? w _ hce)).trans hce
      have hia := atStrs (ao := ao) l.length cap k ha hlt
      have hgk : l.getD k ⟨#[]⟩ = l[k] := by simp [hlt]
      have HG := hid hgk
      have HSU := hid (all_range_succ (goodV l) k)
      have HBD := hid (all_range_bad (goodV l) k l.length hlt)
      clear hgk hce ha
      by_cases hs1 : 1 ≤ l[k].size
      · have hd1 : decide ((l[k].size : Int) < 1) = false := by simp; omega
        by_cases hs2 : l[k].size ≤ 12
        · have hd2 : decide ((12 : Int) < (l[k].size : Int)) = false := by simp; omega
          by_cases hk0 : k ≤ 0
          · have hg : goodV l k = true := by
              unfold goodV
              rw [HG.out]
              have h3 : (k == 0) = true := by simp; omega
              rw [h3]
              simp
              omega
            have HGO := hid hg
            have hd : decide (0 < k) = false := by simp; omega
            clear hg hk0
            go_wp2_with fail
            go_quiet (fail)
            go_wp2
            go_roundw
            case rel => exact ⟨k + 1, by omega, by go_num, by rw [HSU.out, HA.out, HGO.out]; rfl, hbel.trans ((below_draws wr nq).mono hbel.size)⟩
            case measure => simp [intOf]; omega
          · obtain ⟨j, hj⟩ : ∃ j : Nat, (j : Int) + 1 ≤ (k : Int) ∧ (k : Int) ≤ (j : Int) + 1 := ⟨k - 1, by omega, by omega⟩
            obtain ⟨a', ha', hce', hsz'⟩ := HC.out j (by omega)
            have hcell' : wr.cell? (a'.add j) = some (.string l[j]) := (hbel.cell (p := a'.add j) (World.block_lt_of_cell? w _ hce')).trans hce'
            have hia' := atStrs (ao := ao) l.length cap j ha' (by omega)
            have hkj : (k : Int) - 1 = (j : Int) := by omega
            have hjl : j < l.length := by omega
            have hgj : l.getD (k - 1) ⟨#[]⟩ = l[j] := by
              have : k - 1 = j := by omega
              rw [this]
              simp [hjl]
            have hd : decide (0 < k) = true := by simp; omega
            have HGJ := hid hgj
            clear hce' ha' hgj hsz' hk0
            cases hlb : ltB l[j] l[k]
            · have hg : goodV l k = false := by
                unfold goodV
                rw [HG.out, HGJ.out, hlb]
                have h3 : (k == 0) = false := by simp; omega
                rw [h3]
                simp
              have HGO := hid hg
              have hop : Op.bytesLess l[j].toList l[k].toList = false := hlb
              clear hg hlb
              go_wp2_with fail
              go_quiet (fail)
              go_wp2
              go_ret
              refine ⟨ret_bool ?_, hbel.trans ((below_draws wr nq).mono hbel.size)⟩
              simp [valsB, HBD.out HGO.out]
            · have hg : goodV l k = true := by
                unfold goodV
                rw [HG.out, HGJ.out, hlb]
                simp
                omega
              have HGO := hid hg
              have hop : Op.bytesLess l[j].toList l[k].toList = true := hlb
              clear hg hlb
              go_wp2_with fail
              go_quiet (fail)
              go_wp2
              go_roundw
              case rel => exact ⟨k + 1, by omega, by go_num, by rw [HSU.out, HA.out, HGO.out]; rfl, hbel.trans ((below_draws wr nq).mono hbel.size)⟩
              case measure => simp [intOf]; omega
        · have hd2 : decide ((12 : Int) < (l[k].size : Int)) = true := by simp; omega
          have hg : goodV l k = false := by
            unfold goodV
            rw [HG.out]
            simp
            omega
          have HGO := hid hg
          clear hg
          go_wp2_with fail
          go_quiet (fail)
          go_wp2
          go_ret
          refine ⟨ret_bool ?_, hbel.trans ((below_draws wr nq).mono hbel.size)⟩
          simp [valsB, HBD.out HGO.out]
      · have hd1 : decide ((l[k].size : Int) < 1) = true := by simp; omega
        have hg : goodV l k = false := by
          unfold goodV
          rw [HG.out]
          simp
          omega
        have HGO := hid hg
        clear hg
        go_wp2_with fail
        go_quiet (fail)
        go_wp2
        go_ret
        refine ⟨ret_bool ?_, hbel.trans ((below_draws wr nq).mono hbel.size)⟩
        simp [valsB, HBD.out HGO.out]
    · have hke : k = l.length := by omega
      subst hke
      go_wp2
      all_goals
        go_ret
        refine ⟨ret_bool ?_, hbel⟩
        have h0 := HA.out
        rw [Bool.eq_iff_iff]
        simp only [valsB, h0]
        simp
        omega

theorem toList_inj {a b : ByteArray} (h : a.toList = b.toList) : a = b := by
  rw [ByteArray.toList_eq, ByteArray.toList_eq] at h
  exact ByteArray.ext (Array.toList_inj.1 h)

set_option maxHeartbeats 1000000 in
theorem refSameTexts_any (l m : List ByteArray) (v u : Value) (w : World) (hv : StrsAt w v l) (hu : StrsAt w u m) :
    Calls Tryz.prog 44 #[v, u] w fun e w' => e = .returned (.bool (decide (l = m))) ∧ Below w.heap.size w w' := by
  obtain ⟨ao, cap, rfl, hlm, hc⟩ := hv
  obtain ⟨ao2, cap2, rfl, hlm2, hc2⟩ := hu
  unfold maxLen at hlm hlm2
  have HC := hid hc
  have HC2 := hid hc2
  clear hc hc2
  by_cases hne : l.length = m.length
  · have hneB : ((l.length : Int) != (m.length : Int)) = false := by simp; omega
    have HNE := hid hne
    clear hne
    go_enter Tryz.func44, Tryz.ntmps44
    go_wp2
    go_loopw [5] (fun i wr => ∃ k : Nat, k ≤ l.length ∧ i = .int .i64 k ∧ Hid (l.take k = m.take k) ∧ Below w.heap.size w wr) (fun i _ => l.length - (intOf i).toNat)
    case atStart => exact ⟨0, Nat.zero_le _, rfl, rfl, Below.refl _ _⟩
    case round =>
      obtain ⟨k, hk, rfl, hall, hbel⟩ := hrel
      by_cases hlt : k < l.length
      · have hlt2 : k < m.length := by rw [← HNE.out]; exact hlt
        obtain ⟨a, ha, hce, hsz⟩ := HC.out k hlt
        obtain ⟨a2, ha2, hce2, hsz2⟩ := HC2.out k hlt2
        have hcell : wr.cell? (a.add k) = some (Value.string l[k]) := (hbel.cell (p := a.add k) (World.block_lt_of_cell? w _ hce)).trans hce
        have hcell2 : wr.cell? (a2.add k) = some (Value.string m[k]) := (hbel.cell (p := a2.add k) (World.block_lt_of_cell? w _ hce2)).trans hce2
        have hia := atStrs (ao := ao) l.length cap k ha hlt
        have hia2 := atStrs (ao := ao2) m.length cap2 k ha2 hlt2
        clear hce hce2 ha ha2
        have HT1 := hid (List.take_succ_eq_append_getElem hlt)
        have HT2 := hid (List.take_succ_eq_append_getElem hlt2)
        by_cases heq : l[k] = m[k]
        · have hb : (!(l[k].toList == m[k].toList)) = false := by simp [heq]
          have HE := hid heq
          clear heq
          go_wp2_with fail
          go_quiet (fail)
          go_wp2
          go_roundw
          case rel => exact ⟨k + 1, by omega, by go_num, by show _ = _; rw [HT1.out, HT2.out, HE.out, hall.out], hbel.trans ((below_draws wr nq).mono hbel.size)⟩
          case measure => simp [intOf]; omega
        · have hb : (!(l[k].toList == m[k].toList)) = true := by simp; intro h; exact heq (toList_inj h)
          have HE := hid heq
          clear heq
          go_wp2_with fail
          go_quiet (fail)
          go_wp2
          go_ret
          refine ⟨ret_bool ?_, hbel.trans ((below_draws wr nq).mono hbel.size)⟩
          have : ¬ l = m := by
            intro e
            subst e
            exact HE.out rfl
          simp [this]
      · have hke : k = l.length := by omega
        go_wp2
        go_ret
        refine ⟨ret_bool ?_, hbel⟩
        have h1 := hall.out
        rw [List.take_of_length_le (by omega), List.take_of_length_le (by have := HNE.out; omega)] at h1
        simp [h1]
  · have hneB : ((l.length : Int) != (m.length : Int)) = true := by simp; omega
    have HNE := hid hne
    clear hne
    go_enter Tryz.func44, Tryz.ntmps44
    go_wp2
    go_ret
    refine ⟨ret_bool ?_, Below.refl _ _⟩
    have : ¬ l = m := fun e => HNE.out (by rw [e])
    simp [this]

set_option maxHeartbeats 1000000 in
theorem refSameInts_any (l m : List Int) (v u : Value) (w : World) (hv : IntsAt w v l) (hu : IntsAt w u m) :
    Calls Tryz.prog 45 #[v, u] w fun e w' => e = .returned (.bool (decide (l = m))) ∧ Below w.heap.size w w' := by
  obtain ⟨ao, cap, rfl, hlm, hc⟩ := hv
  obtain ⟨ao2, cap2, rfl, hlm2, hc2⟩ := hu
  unfold maxLen at hlm hlm2
  have HC := hid hc
  have HC2 := hid hc2
  clear hc hc2
  by_cases hne : l.length = m.length
  · have hneB : ((l.length : Int) != (m.length : Int)) = false := by simp; omega
    have HNE := hid hne
    clear hne
    go_enter Tryz.func45, Tryz.ntmps45
    go_wp2
    go_loopw [5] (fun i wr => ∃ k : Nat, k ≤ l.length ∧ i = .int .i64 k ∧ Hid (l.take k = m.take k) ∧ Below w.heap.size w wr) (fun i _ => l.length - (intOf i).toNat)
    case atStart => exact ⟨0, Nat.zero_le _, rfl, rfl, Below.refl _ _⟩
    case round =>
      obtain ⟨k, hk, rfl, hall, hbel⟩ := hrel
      by_cases hlt : k < l.length
      · have hlt2 : k < m.length := by rw [← HNE.out]; exact hlt
        obtain ⟨a, ha, hce⟩ := HC.out k hlt
        obtain ⟨a2, ha2, hce2⟩ := HC2.out k hlt2
        have hcell : wr.cell? (a.add k) = some (Value.int .i64 l[k]) := (hbel.cell (p := a.add k) (World.block_lt_of_cell? w _ hce)).trans hce
        have hcell2 : wr.cell? (a2.add k) = some (Value.int .i64 m[k]) := (hbel.cell (p := a2.add k) (World.block_lt_of_cell? w _ hce2)).trans hce2
        have hia := atInts (ao := ao) l.length cap k ha hlt
        have hia2 := atInts (ao := ao2) m.length cap2 k ha2 hlt2
        clear hce hce2 ha ha2
        have HT1 := hid (List.take_succ_eq_append_getElem hlt)
        have HT2 := hid (List.take_succ_eq_append_getElem hlt2)
        by_cases heq : l[k] = m[k]
        · have hb : (l[k] != m[k]) = false := by simp [heq]
          have HE := hid heq
          clear heq
          go_wp2_with fail
          go_quiet (fail)
          go_wp2
          go_roundw
          case rel => exact ⟨k + 1, by omega, by go_num, by show _ = _; rw [HT1.out, HT2.out, HE.out, hall.out], hbel.trans ((below_draws wr nq).mono hbel.size)⟩
          case measure => simp [intOf]; omega
        · have hb : (l[k] != m[k]) = true := by simpa using heq
          have HE := hid heq
          clear heq
          go_wp2_with fail
          go_quiet (fail)
          go_wp2
          go_ret
          refine ⟨ret_bool ?_, hbel.trans ((below_draws wr nq).mono hbel.size)⟩
          have : ¬ l = m := by
            intro e
            subst e
            exact HE.out rfl
          simp [this]
      · have hke : k = l.length := by omega
        go_wp2
        go_ret
        refine ⟨ret_bool ?_, hbel⟩
        have h1 := hall.out
        rw [List.take_of_length_le (by omega), List.take_of_length_le (by have := HNE.out; omega)] at h1
        simp [h1]
  · have hneB : ((l.length : Int) != (m.length : Int)) = true := by simp; omega
    have HNE := hid hne
    clear hne
    go_enter Tryz.func45, Tryz.ntmps45
    go_wp2
    go_ret
    refine ⟨ret_bool ?_, Below.refl _ _⟩
    have : ¬ l = m := fun e => HNE.out (by rw [e])
    simp [this]
end Go.Proofs.YtmdapookkggjkaaGreat

namespace Go.Proofs.YtmdapookkggjkaaGreat
open Go.RowKit Go.Sort

set_option maxHeartbeats 1000000 in
theorem refSameItem_any (x y : ItemD) (v u : Value) (w : World) (hv : StrsAt w v x.vals) (hu : StrsAt w u y.vals) :
    Calls Tryz.prog 47 #[.agg (itemCells x v).toArray, .agg (itemCells y u).toArray] w fun e w' => e = .returned (.bool (sameItemB x y)) ∧ Below w.heap.size w w' := by
  obtain ⟨k1, d1, l1, r1, n1, s1, p1, ⟨g1, c1, f1⟩⟩ := x
  obtain ⟨k2, d2, l2, r2, n2, s2, p2, ⟨g2, c2, f2⟩⟩ := y
  have HV : Hid (∀ W, Below w.heap.size w W → StrsAt W v s1) := fun W hW => hv.below hW
  have HU : Hid (∀ W, Below w.heap.size w W → StrsAt W u s2) := fun W hW => hu.below hW
  clear hv hu
  show Calls Tryz.prog _ #[.agg #[.string k1, .int .i64 d1, .string l1, .int .i64 r1, .int .i64 n1, v, .int .i64 p1, .int .i64 g1, .int .i64 c1, .int .i64 f1], .agg #[.string k2, .int .i64 d2, .string l2, .int .i64 r2, .int .i64 n2, u, .int .i64 p2, .int .i64 g2, .int .i64 c2, .int .i64 f2]] w _
  go_enter Tryz.func47, Tryz.ntmps47
  go_wp2_with (go_at_call 44; refine Calls.mono (refSameTexts_any s1 s2 v u _ (HV.out _ (Below.alloc (Below.alloc (Below.refl _ _) (Nat.le_refl _) _) (by simp) _)) (HU.out _ (Below.alloc (Below.alloc (Below.refl _ _) (Nat.le_refl _) _) (by simp) _))) ?_; rintro e w2 ⟨rfl, hb2⟩; have hcc := bcell hb2)
  all_goals
    go_ret
    refine ⟨ret_bool ?_, ?_⟩
    · clear HV HU
      try clear hcc hb2
      simp_all [sameItemB, sameRootB]
    · first
        | exact Below.alloc (Below.alloc (Below.refl _ _) (Nat.le_refl _) _) (by simp) _
        | exact (Below.alloc (Below.alloc (Below.refl _ _) (Nat.le_refl _) _) (by simp) _).trans (hb2.mono (by simp; omega))

set_option maxHeartbeats 1000000 in
theorem refSameFrees_any (l m : List FreeD) (v u : Value) (w : World) (hv : FreesAt w v l) (hu : FreesAt w u m) :
    Calls Tryz.prog 46 #[v, u] w fun e w' => e = .returned (.bool (sameFreesB l m)) ∧ Below w.heap.size w w' := by
  obtain ⟨ao, cap, rfl, hlm, hc⟩ := hv.old
  obtain ⟨ao2, cap2, rfl, hlm2, hc2⟩ := hu.old
  unfold maxLen at hlm hlm2
  have HC := hid hc
  have HC2 := hid hc2
  clear hc hc2
  by_cases hne : l.length = m.length
  · have hneB : ((l.length : Int) != (m.length : Int)) = false := by simp; omega
    have HNE := hid hne
    clear hne
    go_enter Tryz.func46, Tryz.ntmps46
    go_wp2
    go_loopw [5] (fun i wr => ∃ k : Nat, k ≤ l.length ∧ i = .int .i64 k ∧ Hid ((List.range k).all (fun i => sameFreeB (l.getD i ⟨0, []⟩) (m.getD i ⟨0, []⟩)) = true) ∧ Below w.heap.size w wr) (fun i _ => l.length - (intOf i).toNat)
    case atStart => exact ⟨0, Nat.zero_le _, rfl, rfl, Below.refl _ _⟩
    case round =>
      obtain ⟨k, hk, rfl, hall, hbel⟩ := hrel
      by_cases hlt : k < l.length
      · have hlt2 : k < m.length := by rw [← HNE.out]; exact hlt
        obtain ⟨a, x, ha, hce, hcf, hx⟩ := HC.out k hlt
        obtain ⟨a2, x2, ha2, hce2, hcf2, hx2⟩ := HC2.out k hlt2
        have hc1 := fun d os => cell_regrown ((hbel.cell (p := a.add (k * 2)) (World.block_lt_of_cell? w _ hce)).trans hce) d os
        have hc2 := fun d os => cell_regrown ((hbel.cell (p := ⟨(a.add (k * 2)).block, (a.add (k * 2)).off + 1, none⟩) (World.block_lt_of_cell? w _ hcf)).trans hcf) d os
        have hc3 := fun d os => cell_regrown ((hbel.cell (p := a2.add (k * 2)) (World.block_lt_of_cell? w _ hce2)).trans hce2) d os
        have hc4 := fun d os => cell_regrown ((hbel.cell (p := ⟨(a2.add (k * 2)).block, (a2.add (k * 2)).off + 1, none⟩) (World.block_lt_of_cell? w _ hcf2)).trans hcf2) d os
        have hia := atFrees (ao := ao) l.length cap k ha hlt
        have hia2 := atFrees (ao := ao2) m.length cap2 k ha2 hlt2
        have HS : Hid (∀ d os, Calls Tryz.prog 45 #[x, x2] (grow (redrawn wr d) os) fun e w'' => e = .returned (.bool (decide (l[k].ids = m[k].ids))) ∧ ∃ p : Regrown, w'' = grow (redrawn wr p.d) p.os) := fun d os =>
          Calls.regrown_of (refSameInts_any _ _ _ _ _ ((hx.below hbel).below (below_regrown wr d os)) ((hx2.below hbel).below (below_regrown wr d os)))
        have HG : Hid (l.getD k ⟨0, []⟩ = l[k] ∧ m.getD k ⟨0, []⟩ = m[k]) := ⟨by simp [hlt], by simp [hlt2]⟩
        have HSU := hid (all_range_succ (fun i => sameFreeB (l.getD i ⟨0, []⟩) (m.getD i ⟨0, []⟩)) k)
        have HBD := hid (all_range_bad (fun i => sameFreeB (l.getD i ⟨0, []⟩) (m.getD i ⟨0, []⟩)) k l.length hlt)
        clear hce hce2 ha ha2 hcf hcf2 hx hx2
        cases hb1 : (l[k].txn != m[k].txn)
        · cases hb2 : decide (l[k].ids = m[k].ids)
          · have HF : Hid (sameFreeB (l.getD k ⟨0, []⟩) (m.getD k ⟨0, []⟩) = false) := by
              show _ = _
              rw [HG.out.1, HG.out.2, sameFreeB, hb2]
              simp
            go_wp2_with fail
            refine wp_region_quiet_below (by kernel_rfl) (by kernel_rfl) ?_
            repeat (go_big_quiet_step (exact HS.out _ _))
            refine wpQuiet_nil ?_
            intro _ hw'
            obtain ⟨⟨dq, osq⟩, hw''⟩ := hw'
            subst hw''
            have HBE := hid (hbel.trans ((below_regrown wr dq osq).mono hbel.size))
            clear hc1 hc2 hc3 hc4 hia hia2 hbel
            go_wp2
            go_ret
            refine ⟨ret_bool ?_, HBE.out⟩
            rw [sameFreesB, HBD.out HF.out]
            simp
          · have HF : Hid (sameFreeB (l.getD k ⟨0, []⟩) (m.getD k ⟨0, []⟩) = true) := by
              show _ = _
              rw [HG.out.1, HG.out.2, sameFreeB, hb2]
              simp at hb1
              simp [hb1]
            go_wp2_with fail
            refine wp_region_quiet_below (by kernel_rfl) (by kernel_rfl) ?_
            repeat (go_big_quiet_step (exact HS.out _ _))
            refine wpQuiet_nil ?_
            intro _ hw'
            obtain ⟨⟨dq, osq⟩, hw''⟩ := hw'
            subst hw''
            have HBE := hid (hbel.trans ((below_regrown wr dq osq).mono hbel.size))
            clear hc1 hc2 hc3 hc4 hia hia2 hbel
            go_wp2
            go_roundw
            case rel => exact ⟨k + 1, by omega, by go_num, by show _ = _; rw [HSU.out, hall.out, HF.out]; rfl, HBE.out⟩
            case measure => simp [intOf]; omega
        · have HF : Hid (sameFreeB (l.getD k ⟨0, []⟩) (m.getD k ⟨0, []⟩) = false) := by
            show _ = _
            rw [HG.out.1, HG.out.2, sameFreeB]
            simp at hb1
            simp [hb1]
          go_wp2_with fail
          refine wp_region_quiet_below (by kernel_rfl) (by kernel_rfl) ?_
          repeat (go_big_quiet_step (exact HS.out _ _))
          refine wpQuiet_nil ?_
          intro _ hw'
          obtain ⟨⟨dq, osq⟩, hw''⟩ := hw'
          subst hw''
          have HBE := hid (hbel.trans ((below_regrown wr dq osq).mono hbel.size))
          clear hc1 hc2 hc3 hc4 hia hia2 hbel
          go_wp2
          go_ret
          refine ⟨ret_bool ?_, HBE.out⟩
          rw [sameFreesB, HBD.out HF.out]
          simp
      · have hke : k = l.length := by omega
        subst hke
        go_wp2
        go_ret
        refine ⟨ret_bool ?_, hbel⟩
        rw [sameFreesB, hall.out, HNE.out]
        simp
  · have hneB : ((l.length : Int) != (m.length : Int)) = true := by simp; omega
    have HNE := hid hne
    clear hne
    go_enter Tryz.func46, Tryz.ntmps46
    go_wp2
    go_ret
    refine ⟨ret_bool ?_, Below.refl _ _⟩
    rw [sameFreesB, decide_eq_false HNE.out]
    rfl
end Go.Proofs.YtmdapookkggjkaaGreat
