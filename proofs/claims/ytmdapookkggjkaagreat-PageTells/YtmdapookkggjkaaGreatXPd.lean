/- Contract of the reference's test whether two pages are the same: pages that part in their items alone. -/
import Derived.Test.YtmdapookkggjkaaGreatXPc
namespace Go.Proofs.YtmdapookkggjkaaGreat
open Go.RowKit Go.Sort

set_option maxHeartbeats 4000000 in
theorem refSame_yes (a : PageD) (i2 : List ItemD) (f2 : List FreeD) (vi vk vd vv vf ui uk ud uv uf : Value) (w : World) (ha : Hangs w a vi vk vd vv vf) (hb : Hangs w { a with items := i2, free := f2 } ui uk ud uv uf)
    (hlen : a.items.length = i2.length) (hF : sameFreesB a.free f2 = true) :
    Calls Tryz.prog 11 #[.agg (pageCells a vi vk vd vv vf).toArray, .agg (pageCells { a with items := i2, free := f2 } ui uk ud uv uf).toArray] w fun e w' =>
      e = .returned (.bool ((List.range a.items.length).all fun i => sameItemB (itemAt a.items i) (itemAt i2 i))) ∧ Below w.heap.size w w' := by
  obtain ⟨k1, i1, y1, d1, t1, v1, f1, n1, ⟨x1, ⟨g1, c1, q1⟩, r1, l1⟩⟩ := a
  have HA : Hid (∀ W, Below w.heap.size w W → Hangs W _ vi vk vd vv vf) := fun W hW => ha.below hW
  have HB : Hid (∀ W, Below w.heap.size w W → Hangs W _ ui uk ud uv uf) := fun W hW => hb.below hW
  obtain ⟨ao, cap, rfl, him, hit⟩ := ha.items
  obtain ⟨ao2, cap2, rfl, him2, hit2⟩ := hb.items
  unfold maxLen at him him2
  have HI := hid hit
  have HI2 := hid hit2
  clear ha hb hit hit2
  simp only at hlen hF HI HI2 him him2
  have HK : Hid (∀ W, Below w.heap.size w W → Calls Tryz.prog 44 #[vk, uk] W fun e w' => e = .returned (.bool (decide (y1 = y1))) ∧ Below W.heap.size W w') := fun W hW => refSameTexts_any _ _ _ _ _ (HA.out W hW).keys (HB.out W hW).keys
  have HD : Hid (∀ W, Below w.heap.size w W → Calls Tryz.prog 45 #[vd, ud] W fun e w' => e = .returned (.bool (decide (d1 = d1))) ∧ Below W.heap.size W w') := fun W hW => refSameInts_any _ _ _ _ _ (HA.out W hW).kids (HB.out W hW).kids
  have HV : Hid (∀ W, Below w.heap.size w W → Calls Tryz.prog 44 #[vv, uv] W fun e w' => e = .returned (.bool (decide (v1 = v1))) ∧ Below W.heap.size W w') := fun W hW => refSameTexts_any _ _ _ _ _ (HA.out W hW).vals (HB.out W hW).vals
  have HF : Hid (∀ W, Below w.heap.size w W → Calls Tryz.prog 46 #[vf, uf] W fun e w' => e = .returned (.bool (sameFreesB f1 f2)) ∧ Below W.heap.size W w') := fun W hW => refSameFrees_any _ _ _ _ _ (HA.out W hW).free (HB.out W hW).free
  clear HA HB
  have hneB : ((i1.length : Int) != (i2.length : Int)) = false := by simp; omega
  have HLEN := hid hlen
  clear hlen
  show Calls Tryz.prog _ #[.agg #[.int .i64 k1, .slice ao i1.length cap, vk, vd, .string t1, vv, vf, .int .i64 n1, .int .u64 x1, .int .i64 g1, .int .i64 c1, .int .i64 q1, .int .i64 r1, .int .i64 l1], .agg #[.int .i64 k1, .slice ao2 i2.length cap2, uk, ud, .string t1, uv, uf, .int .i64 n1, .int .u64 x1, .int .i64 g1, .int .i64 c1, .int .i64 q1, .int .i64 r1, .int .i64 l1]] w _
  go_enter Tryz.func11, Tryz.ntmps11
  go_wp2_with (first
    | (go_at_call_of 44 vk; refine Calls.mono (HK.out _ ?_) ?_; exact base2 (by first | assumption | exact Below.refl _ _); rintro e w2 ⟨rfl, hb2⟩; have hX1 := step2 (by first | assumption | exact Below.refl _ _) hb2; have hcc1 := cells2 hX1; clear hb2)
    | (go_at_call_of 45 vd; refine Calls.mono (HD.out _ ?_) ?_; exact base2 (by first | assumption | exact Below.refl _ _); rintro e w2 ⟨rfl, hb2⟩; have hX2 := step2 (by first | assumption | exact Below.refl _ _) hb2; have hcc2 := cells2 hX2; clear hb2)
    | (go_at_call_of 44 vv; refine Calls.mono (HV.out _ ?_) ?_; exact base2 (by first | assumption | exact Below.refl _ _); rintro e w2 ⟨rfl, hb2⟩; have hX3 := step2 (by first | assumption | exact Below.refl _ _) hb2; have hcc3 := cells2 hX3; clear hb2)
    | (go_at_call_of 46 vf; refine Calls.mono (HF.out _ ?_) ?_; exact base2 (by first | assumption | exact Below.refl _ _); rintro e w2 ⟨rfl, hb2⟩; have hX4 := step2 (by first | assumption | exact Below.refl _ _) hb2; have hcc4 := cells2 hX4; clear hb2))
  clear HK HD HV HF
  have HX0 : Hid (Below (w.heap.size + 2) ((w.alloc (.cells #[.int .i64 k1, .slice ao i1.length cap, vk, vd, .string t1, vv, vf, .int .i64 n1, .int .u64 x1, .int .i64 g1, .int .i64 c1, .int .i64 q1, .int .i64 r1, .int .i64 l1] 32)).alloc (.cells #[.int .i64 k1, .slice ao2 i2.length cap2, uk, ud, .string t1, uv, uf, .int .i64 n1, .int .u64 x1, .int .i64 g1, .int .i64 c1, .int .i64 q1, .int .i64 r1, .int .i64 l1] 32)) _) := hX4
  clear hX1 hX2 hX3 hX4 hcc1 hcc2 hcc3 hcc4
  go_loopw [5] (fun i wr => ∃ k : Nat, k ≤ i1.length ∧ i = .int .i64 k ∧ Hid ((List.range k).all (fun i => sameItemB (itemAt i1 i) (itemAt i2 i)) = true) ∧ Below (w.heap.size + 2) ((w.alloc (.cells #[.int .i64 k1, .slice ao i1.length cap, vk, vd, .string t1, vv, vf, .int .i64 n1, .int .u64 x1, .int .i64 g1, .int .i64 c1, .int .i64 q1, .int .i64 r1, .int .i64 l1] 32)).alloc (.cells #[.int .i64 k1, .slice ao2 i2.length cap2, uk, ud, .string t1, uv, uf, .int .i64 n1, .int .u64 x1, .int .i64 g1, .int .i64 c1, .int .i64 q1, .int .i64 r1, .int .i64 l1] 32)) wr) (fun i _ => i1.length - (intOf i).toNat)
  case atStart => exact ⟨0, Nat.zero_le _, rfl, rfl, HX0.out⟩
  case round =>
    obtain ⟨k, hk, rfl, hall, hbel⟩ := hrel
    clear HX0
    have hk1 : wr.cell? ⟨w.heap.size, 1, none⟩ = some (.slice ao i1.length cap) := by rw [cells2 hbel _ _ (by omega)]; simp
    have hk2 : wr.cell? ⟨w.heap.size + 1, 1, none⟩ = some (.slice ao2 i2.length cap2) := by rw [cells2 hbel _ _ (by omega)]; simp
    by_cases hlt : k < i1.length
    · have hlt2 : k < i2.length := by rw [← HLEN.out]; exact hlt
      obtain ⟨b, o, u, hao, hbl, hr, hu, _, _⟩ := HI.out k hlt
      obtain ⟨b2, o2, u2, hao2, hbl2, hr2, hu2, _, _⟩ := HI2.out k hlt2
      have hbw := base2 hbel
      have hia := atItems (ao := ao) i1.length cap k hao hlt
      have hia2 := atItems (ao := ao2) i2.length cap2 k hao2 hlt2
      have hR := range_below hr hbw hbl
      have hR2 := range_below hr2 hbw hbl2
      have hl1 := fun d os => range10 (range_below hR (below_regrown wr d os) (Nat.lt_of_lt_of_le hbl hbw.size))
      have hl2 := fun d os => range10 (range_below hR2 (below_regrown wr d os) (Nat.lt_of_lt_of_le hbl2 hbw.size))
      have HS : Hid (∀ d os, Calls Tryz.prog 47 #[.agg #[.string i1[k].key, .int .i64 i1[k].kind, .string i1[k].val, .int .i64 i1[k].run, .int .i64 i1[k].len, u, .int .i64 i1[k].dup, .int .i64 i1[k].root.page, .int .i64 i1[k].root.count, .int .i64 i1[k].root.flags], .agg #[.string i2[k].key, .int .i64 i2[k].kind, .string i2[k].val, .int .i64 i2[k].run, .int .i64 i2[k].len, u2, .int .i64 i2[k].dup, .int .i64 i2[k].root.page, .int .i64 i2[k].root.count, .int .i64 i2[k].root.flags]] (grow (redrawn wr d) os) fun e w'' => e = .returned (.bool (sameItemB i1[k] i2[k])) ∧ ∃ p : Regrown, w'' = grow (redrawn wr p.d) p.os) := fun d os =>
        Calls.regrown_of (refSameItem_any _ _ _ _ _ ((hu.below hbw).below (below_regrown wr d os)) ((hu2.below hbw).below (below_regrown wr d os)))
      have hj1 := cell_regrown hk1
      have hj2 := cell_regrown hk2
      have HG : Hid (itemAt i1 k = i1[k] ∧ itemAt i2 k = i2[k]) := ⟨by simp [itemAt, hlt], by simp [itemAt, hlt2]⟩
      have HSU := hid (all_range_succ (fun i => sameItemB (itemAt i1 i) (itemAt i2 i)) k)
      have HBD := hid (all_range_bad (fun i => sameItemB (itemAt i1 i) (itemAt i2 i)) k i1.length hlt)
      clear hr hr2 hR hR2 hu hu2 hao hao2 hbl hbl2 hbw
      generalize i1[k] = X at *
      generalize i2[k] = Y at *
      cases hsm : sameItemB X Y
      · have HF : Hid (sameItemB (itemAt i1 k) (itemAt i2 k) = false) := by
          show _ = _
          rw [HG.out.1, HG.out.2]
          exact hsm
        go_wp2_with fail
        refine wp_region_quiet_below (by kernel_rfl) (by kernel_rfl) ?_
        repeat (go_big_quiet_step (exact HS.out _ _))
        refine wpQuiet_nil ?_
        intro _ hw'
        obtain ⟨⟨dq, osq⟩, hw''⟩ := hw'
        subst hw''
        have HBE := hid (step2 hbel (below_regrown wr dq osq))
        clear hl1 hl2 hia hia2 hbel hk1 hk2 hj1 hj2
        go_wp2
        go_ret
        refine ⟨ret_bool ?_, base2 HBE.out⟩
        rw [HBD.out HF.out]
      · have HF : Hid (sameItemB (itemAt i1 k) (itemAt i2 k) = true) := by
          show _ = _
          rw [HG.out.1, HG.out.2]
          exact hsm
        go_wp2_with fail
        refine wp_region_quiet_below (by kernel_rfl) (by kernel_rfl) ?_
        repeat (go_big_quiet_step (exact HS.out _ _))
        refine wpQuiet_nil ?_
        intro _ hw'
        obtain ⟨⟨dq, osq⟩, hw''⟩ := hw'
        subst hw''
        have HBE := hid (step2 hbel (below_regrown wr dq osq))
        clear hl1 hl2 hia hia2 hbel hk1 hk2 hj1 hj2
        go_wp2
        go_roundw
        case rel => exact ⟨k + 1, by omega, by go_num, by show _ = _; rw [HSU.out, hall.out, HF.out]; rfl, HBE.out⟩
        case measure => simp [intOf]; omega
    · have hke : k = i1.length := by omega
      subst hke
      go_wp2
      go_ret
      refine ⟨ret_bool ?_, base2 hbel⟩
      rw [hall.out]

theorem refSame_any (a b : PageD) (vi vk vd vv vf ui uk ud uv uf : Value) (w : World) (ha : Hangs w a vi vk vd vv vf) (hb : Hangs w b ui uk ud uv uf) :
    Calls Tryz.prog 11 #[.agg (pageCells a vi vk vd vv vf).toArray, .agg (pageCells b ui uk ud uv uf).toArray] w fun e w' => e = .returned (.bool (sameB a b)) ∧ Below w.heap.size w w' := by
  cases h : sameHeadB a b
  · have e : sameB a b = false := by simp [sameB, h]
    rw [e]
    exact refSame_no a b vi vk vd vv vf ui uk ud uv uf w ha hb h
  · have e : sameB a b = (List.range a.items.length).all fun i => sameItemB (itemAt a.items i) (itemAt b.items i) := by simp [sameB, h]
    rw [e]
    obtain ⟨k1, i1, y1, d1, t1, v1, f1, n1, ⟨x1, ⟨g1, c1, q1⟩, r1, l1⟩⟩ := a
    obtain ⟨k2, i2, y2, d2, t2, v2, f2, n2, ⟨x2, ⟨g2, c2, q2⟩, r2, l2⟩⟩ := b
    simp only [sameHeadB, sameMetaB, Bool.and_eq_true, beq_iff_eq, decide_eq_true_eq] at h
    obtain ⟨⟨⟨⟨⟨⟨⟨⟨rfl, hl⟩, rfl⟩, rfl⟩, ht⟩, rfl⟩, hF⟩, rfl⟩, rfl, ⟨rfl, rfl, rfl⟩, rfl, rfl⟩ := h
    obtain rfl := toList_inj ht
    exact refSame_yes ⟨k1, i1, y1, d1, t1, v1, f1, n1, ⟨x1, ⟨g1, c1, q1⟩, r1, l1⟩⟩ i2 f2 vi vk vd vv vf ui uk ud uv uf w ha hb hl hF
end Go.Proofs.YtmdapookkggjkaaGreat
