/- Contract of package page's Bytes. -/
import Derived.Test.YtgnmjdcmaahlnaaMg
namespace Go.Proofs.Ytgnmjdcmaahlnaa
open Go.RowKit Go.Sort

theorem sumN_lt (l : List UInt8) : sumN l < 18446744073709551616 := by
  rcases List.eq_nil_or_concat l with rfl | ⟨r, b, rfl⟩
  · decide
  · rw [List.concat_eq_append, sumN_snoc]
    exact Nat.mod_lt _ (by omega)

set_option maxHeartbeats 2000000 in
theorem bytes_any (p : PageD) (vi vk vd vv vf : Value) (w : World) (ha : Hangs w p vi vk vd vv vf) (ht : TxnOk p) :
    Calls Try.prog 12 #[.agg (pageCells p vi vk vd vv vf).toArray] w fun e w' => e = .returned (.string (bs (bytesD p))) ∧ Below w.heap.size w w' := by
  have HA : Hid (∀ W, Below w.heap.size w W → Hangs W p vi vk vd vv vf) := fun W hW => ha.below hW
  clear ha
  have HIS : Hid (∀ W, Below w.heap.size w W → Calls Try.prog 17 #[.agg (pageCells p vi vk vd vv vf).toArray] W fun e w' => e = .returned (.bool (isPB p)) ∧ Below W.heap.size W w') := fun W hW => is_any p _ _ _ _ _ _ (HA.out W hW)
  have HB : Hid (bytesD p = if isPB p then lowB (sumN (bodyD p)) 8 ++ bodyD p else []) := rfl
  have HPB : Hid (isPB p = true → (∀ W, Below w.heap.size w W → Calls Try.prog 19 #[.agg (pageCells p vi vk vd vv vf).toArray] W fun e w' => e = .returned (.string (bs (partD p))) ∧ Below W.heap.size W w') ∧ (partD p).length ≤ 70000000000) := fun hi => ⟨fun W hW => partBytes_any p _ _ _ _ _ _ (HA.out W hW) (partOk_of_is hi ht), partD_le p (partOk_of_is hi ht)⟩
  have HBD : Hid (bodyD p = numB p.kind ++ partD p) := rfl
  have hXr := rangeNew w (pageCells p vi vk vd vv vf) 49
  have hX2 := fun (X : World) (h : Below (w.heap.size + 1) (w.alloc (.cells (pageCells p vi vk vd vv vf).toArray 49)) X) => range14 (range_below hXr (h.mono (by simp)) (by simp))
  simp only [Nat.zero_add] at hX2
  generalize bytesD p = RES at *
  generalize isPB p = R1 at *
  generalize bodyD p = BD at *
  generalize partD p = PD at *
  clear HA ht hXr
  obtain ⟨k1, i1, y1, d1, t1, v1, f1, n1, ⟨x1, ⟨g1, c1, q1⟩, r1, l1⟩⟩ := p
  have hb1 : Below w.heap.size w (w.alloc (.cells #[.int .i64 k1, vi, vk, vd, .string t1, vv, vf, .int .i64 n1, .int .u64 x1, .int .i64 g1, .int .i64 c1, .int .i64 q1, .int .i64 r1, .int .i64 l1] 49)) := (Below.refl _ _).alloc (Nat.le_refl _) _
  have HIS2 : Hid (∀ W, Below w.heap.size w W → Calls Try.prog 17 #[.agg #[.int .i64 k1, vi, vk, vd, .string t1, vv, vf, .int .i64 n1, .int .u64 x1, .int .i64 g1, .int .i64 c1, .int .i64 q1, .int .i64 r1, .int .i64 l1]] W fun e w' => e = .returned (.bool R1) ∧ Below W.heap.size W w') := HIS.out
  have HPB2 : Hid (R1 = true → (∀ W, Below w.heap.size w W → Calls Try.prog 19 #[.agg #[.int .i64 k1, vi, vk, vd, .string t1, vv, vf, .int .i64 n1, .int .u64 x1, .int .i64 g1, .int .i64 c1, .int .i64 q1, .int .i64 r1, .int .i64 l1]] W fun e w' => e = .returned (.string (bs PD)) ∧ Below W.heap.size W w') ∧ PD.length ≤ 70000000000) := HPB.out
  have hX3 := hid hX2
  simp only at HBD
  show Calls Try.prog _ #[.agg #[.int .i64 k1, vi, vk, vd, .string t1, vv, vf, .int .i64 n1, .int .u64 x1, .int .i64 g1, .int .i64 c1, .int .i64 q1, .int .i64 r1, .int .i64 l1]] w _
  clear HIS HPB hX2
  have HSX : Hid ((w.alloc (.cells #[.int .i64 k1, vi, vk, vd, .string t1, vv, vf, .int .i64 n1, .int .u64 x1, .int .i64 g1, .int .i64 c1, .int .i64 q1, .int .i64 r1, .int .i64 l1] 49)).heap.size = w.heap.size + 1) := by show _ = _; simp
  go_enter Try.func12, Try.ntmps12
  cases R1
  · go_wp2_with (go_at_call 17; refine (HIS2.out _ hb1).mono ?_; rintro e w2 ⟨rfl, hb2⟩)
    go_ret
    exact ⟨ret_str (by rw [HB.out]; rfl), below_box hb2⟩
  · obtain ⟨hpb, hple⟩ := HPB2.out rfl
    go_wp2_with (go_at_call 17; refine (HIS2.out _ hb1).mono ?_; rintro e w2 ⟨rfl, hb2⟩)
    have hl2 := fun d os => hX3.out _ ((hb2.mono (Nat.le_of_eq HSX.out.symm)).trans ((below_regrown w2 d os).mono (by have := hb2.size; have := HSX.out; omega)))
    have hbX := hb1.trans (hb2.mono hb1.size)
    have HPX : Hid (∀ d os, Calls Try.prog 19 #[.agg #[.int .i64 k1, vi, vk, vd, .string t1, vv, vf, .int .i64 n1, .int .u64 x1, .int .i64 g1, .int .i64 c1, .int .i64 q1, .int .i64 r1, .int .i64 l1]] (grow (redrawn w2 d) os) fun e w'' => e = .returned (.string (bs PD)) ∧ ∃ p : Regrown, w'' = grow (redrawn w2 p.d) p.os) := fun d os => Calls.regrown_of (hpb _ (hbX.trans ((below_regrown w2 d os).mono hbX.size)))
    have HN := hid (pnum_regrown w2)
    have z1 := bs_size PD
    have z2 := (bs_size (numB k1)).trans (numB_length k1)
    clear hb2 HIS2 HPB2 hpb hb1
    refine wp_region_quiet_below (by kernel_rfl) (by kernel_rfl) ?_
    repeat (go_big_quiet_step (first | exact HPX.out _ _ | exact HN.out _ _ _))
    refine wpQuiet_nil ?_
    intro _ hw'
    obtain ⟨⟨dq, osq⟩, hw''⟩ := hw'
    subst hw''
    have hbY := hbX.trans ((below_regrown w2 dq osq).mono hbX.size)
    clear hl2 hbX HPX HN
    rw [bs_append, ← HBD.out]
    have z3 : BD.length = 8 + PD.length := by rw [HBD.out, List.length_append, numB_length]
    have z4 := bs_size BD
    have z5 := sumN_lt BD
    clear z1 z2
    go_wp2_with fail
    refine (sum_any (bs BD) _ (by rw [bs_size]; unfold maxLen; omega)).mono ?_
    rintro e w3 ⟨rfl, rfl⟩
    rw [bs_list]
    go_wp2_with fail
    refine (num_any _ _ (by omega) (by omega)).mono ?_
    rintro e w4 ⟨rfl, hb4⟩
    have z6 := lowS_size (sumN BD) 8
    go_wp2
    go_ret
    refine ⟨ret_str ?_, hbY.trans (hb4.mono hbY.size)⟩
    rw [HB.out]
    simp only [↓reduceIte]
    exact bs_append _ _
end Go.Proofs.Ytgnmjdcmaahlnaa
