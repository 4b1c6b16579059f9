/- Contract of package page's partBytes. -/
import Derived.Test.YtgnmjdcmaahlnaaMe
namespace Go.Proofs.Ytgnmjdcmaahlnaa
open Go.RowKit Go.Sort

set_option maxHeartbeats 2000000 in
theorem partBytes_any (p : PageD) (vi vk vd vv vf : Value) (w : World) (ha : Hangs w p vi vk vd vv vf) (hp : PartOk p) :
    Calls Try.prog 19 #[.agg (pageCells p vi vk vd vv vf).toArray] w fun e w' => e = .returned (.string (bs (partD p))) ∧ Below w.heap.size w w' := by
  have HLE := hid (partD_le p hp)
  obtain ⟨k1, i1, y1, d1, t1, v1, f1, n1, ⟨x1, ⟨g1, c1, q1⟩, r1, l1⟩⟩ := p
  have HA : Hid (∀ W, Below w.heap.size w W → Hangs W ⟨k1, i1, y1, d1, t1, v1, f1, n1, ⟨x1, ⟨g1, c1, q1⟩, r1, l1⟩⟩ vi vk vd vv vf) := fun W hW => ha.below hW
  have HP := hid hp
  clear ha hp
  have hb1 : Below w.heap.size w (w.alloc (.cells #[.int .i64 k1, vi, vk, vd, .string t1, vv, vf, .int .i64 n1, .int .u64 x1, .int .i64 g1, .int .i64 c1, .int .i64 q1, .int .i64 r1, .int .i64 l1] 49)) := (Below.refl _ _).alloc (Nat.le_refl _) _
  show Calls Try.prog _ #[.agg #[.int .i64 k1, vi, vk, vd, .string t1, vv, vf, .int .i64 n1, .int .u64 x1, .int .i64 g1, .int .i64 c1, .int .i64 q1, .int .i64 r1, .int .i64 l1]] w _
  by_cases h1 : k1 = 1
  · subst h1
    obtain ⟨e1, e2⟩ := HP.out.items rfl
    go_enter Try.func19, Try.ntmps19
    go_wp2_with (go_at_call 26; refine (listItems_any i1 _ _ (HA.out _ hb1).items e2 e1).mono ?_; rintro e w2 ⟨rfl, hb2⟩)
    go_ret
    exact ⟨ret_str (by simp [partD]), below_box hb2⟩
  by_cases h2 : k1 = 2
  · subst h2
    obtain ⟨e1, e2, e3⟩ := HP.out.kids rfl
    go_enter Try.func19, Try.ntmps19
    go_wp2_with (go_at_call 28; refine (kidBytes_any y1 d1 _ _ _ (HA.out _ hb1).keys (HA.out _ hb1).kids e1 e3 e2).mono ?_; rintro e w2 ⟨rfl, hb2⟩)
    go_ret
    exact ⟨ret_str (by simp [partD]), below_box hb2⟩
  by_cases h3 : k1 = 3
  · subst h3
    have e1 := HP.out.text rfl
    have HE := hid e1
    clear e1
    go_enter Try.func19, Try.ntmps19
    go_wp2_with (go_at_call 29; refine (ptext_any _ _ HE.out).mono ?_; rintro e w2 ⟨rfl, hb2⟩)
    go_ret
    exact ⟨ret_str (by simp [partD]), below_box hb2⟩
  by_cases h4 : k1 = 4
  · subst h4
    obtain ⟨e1, e2⟩ := HP.out.vals rfl
    go_enter Try.func19, Try.ntmps19
    go_wp2_with (go_at_call 30; refine (listTexts_any v1 _ _ (HA.out _ hb1).vals e2 e1).mono ?_; rintro e w2 ⟨rfl, hb2⟩)
    go_ret
    exact ⟨ret_str (by simp [partD]), below_box hb2⟩
  by_cases h5 : k1 = 5
  · subst h5
    obtain ⟨e1, e2⟩ := HP.out.free rfl
    have z1 := bs_size (listB freeBytesD f1)
    have z2 := listB_le freeBytesD 8016 f1 (fun x hx => freeBytesD_le x (e2 x hx))
    simp only at e1
    have z3 := (bs_size (numB n1)).trans (numB_length n1)
    have hXr := rangeNew w (pageCells ⟨5, i1, y1, d1, t1, v1, f1, n1, ⟨x1, ⟨g1, c1, q1⟩, r1, l1⟩⟩ vi vk vd vv vf) 49
    have hXs : w.heap.size < (w.alloc (.cells #[.int .i64 5, vi, vk, vd, .string t1, vv, vf, .int .i64 n1, .int .u64 x1, .int .i64 g1, .int .i64 c1, .int .i64 q1, .int .i64 r1, .int .i64 l1] 49)).heap.size := by simp
    have hl2 := fun d os => range14 (range_below hXr (below_regrown (w.alloc (.cells #[.int .i64 5, vi, vk, vd, .string t1, vv, vf, .int .i64 n1, .int .u64 x1, .int .i64 g1, .int .i64 c1, .int .i64 q1, .int .i64 r1, .int .i64 l1] 49)) d os) hXs)
    simp only [Nat.zero_add] at hl2
    have HLF : Hid (∀ d os, Calls Try.prog 31 #[vf, .func (.func 32) #[] #[]] (grow (redrawn (w.alloc (.cells #[.int .i64 5, vi, vk, vd, .string t1, vv, vf, .int .i64 n1, .int .u64 x1, .int .i64 g1, .int .i64 c1, .int .i64 q1, .int .i64 r1, .int .i64 l1] 49)) d) os) fun e w'' => e = .returned (.string (bs (listB freeBytesD f1))) ∧ ∃ p : Regrown, w'' = grow (redrawn (w.alloc (.cells #[.int .i64 5, vi, vk, vd, .string t1, vv, vf, .int .i64 n1, .int .u64 x1, .int .i64 g1, .int .i64 c1, .int .i64 q1, .int .i64 r1, .int .i64 l1] 49)) p.d) p.os) := fun d os =>
      Calls.regrown_of (listFrees_any f1 _ _ (HA.out _ (hb1.trans ((below_regrown _ d os).mono hb1.size))).free e2 e1)
    have HN := hid (pnum_regrown (w.alloc (.cells #[.int .i64 5, vi, vk, vd, .string t1, vv, vf, .int .i64 n1, .int .u64 x1, .int .i64 g1, .int .i64 c1, .int .i64 q1, .int .i64 r1, .int .i64 l1] 49)))
    go_enter Try.func19, Try.ntmps19
    go_wp2_with fail
    clear hXr HA
    generalize (w.alloc (.cells #[.int .i64 5, vi, vk, vd, .string t1, vv, vf, .int .i64 n1, .int .u64 x1, .int .i64 g1, .int .i64 c1, .int .i64 q1, .int .i64 r1, .int .i64 l1] 49)) = X at *
    refine wp_region_quiet_below (by kernel_rfl) (by kernel_rfl) ?_
    repeat (go_big_quiet_step (first | exact HLF.out _ _ | exact HN.out _ _ _))
    refine wpQuiet_nil ?_
    intro _ hw'
    obtain ⟨⟨dq, osq⟩, hw''⟩ := hw'
    subst hw''
    clear hl2
    go_wp2
    go_ret
    exact ⟨ret_str (by simp [partD, bs_append]), hb1.trans ((below_regrown X dq osq).mono hb1.size)⟩
  · have e1 : (k1 == 1) = false := by simpa using h1
    have e2 : (k1 == 2) = false := by simpa using h2
    have e3 : (k1 == 3) = false := by simpa using h3
    have e4 : (k1 == 4) = false := by simpa using h4
    have e5 : (k1 == 5) = false := by simpa using h5
    obtain ⟨ht0, ht1⟩ := HP.out.txn
    simp only at ht0 ht1
    have z1 : (bs (lowB x1 8)).size = 8 := by rw [bs_size, lowB_length]
    have z2 : (bs (rootBytesD ⟨g1, c1, q1⟩)).size = 24 := by rw [bs_size, rootBytesD_length]
    have z3 := fun n => (bs_size (numB n)).trans (numB_length n)
    have hb2 : Below w.heap.size w ((w.alloc (.cells #[.int .i64 k1, vi, vk, vd, .string t1, vv, vf, .int .i64 n1, .int .u64 x1, .int .i64 g1, .int .i64 c1, .int .i64 q1, .int .i64 r1, .int .i64 l1] 49)).alloc (.cells #[.int .u64 x1, .int .i64 g1, .int .i64 c1, .int .i64 q1, .int .i64 r1, .int .i64 l1] 26)) := hb1.alloc (by simp) _
    have hXr := rangeNew (w.alloc (.cells #[.int .i64 k1, vi, vk, vd, .string t1, vv, vf, .int .i64 n1, .int .u64 x1, .int .i64 g1, .int .i64 c1, .int .i64 q1, .int .i64 r1, .int .i64 l1] 49)) [.int .u64 x1, .int .i64 g1, .int .i64 c1, .int .i64 q1, .int .i64 r1, .int .i64 l1] 26
    have hsz : (w.alloc (.cells #[.int .i64 k1, vi, vk, vd, .string t1, vv, vf, .int .i64 n1, .int .u64 x1, .int .i64 g1, .int .i64 c1, .int .i64 q1, .int .i64 r1, .int .i64 l1] 49)).heap.size = w.heap.size + 1 := by simp
    rw [hsz] at hXr
    have hXs : w.heap.size + 1 < ((w.alloc (.cells #[.int .i64 k1, vi, vk, vd, .string t1, vv, vf, .int .i64 n1, .int .u64 x1, .int .i64 g1, .int .i64 c1, .int .i64 q1, .int .i64 r1, .int .i64 l1] 49)).alloc (.cells #[.int .u64 x1, .int .i64 g1, .int .i64 c1, .int .i64 q1, .int .i64 r1, .int .i64 l1] 26)).heap.size := by simp
    have hl := fun d os => range_below hXr (below_regrown ((w.alloc (.cells #[.int .i64 k1, vi, vk, vd, .string t1, vv, vf, .int .i64 n1, .int .u64 x1, .int .i64 g1, .int .i64 c1, .int .i64 q1, .int .i64 r1, .int .i64 l1] 49)).alloc (.cells #[.int .u64 x1, .int .i64 g1, .int .i64 c1, .int .i64 q1, .int .i64 r1, .int .i64 l1] 26)) d os) hXs
    have hl0 := fun d os => (hl d os) 0 _ rfl
    have hl1 := fun d os => (hl d os) 1 _ rfl
    have hl2 := fun d os => (hl d os) 2 _ rfl
    have hl3 := fun d os => (hl d os) 3 _ rfl
    have hl4 := fun d os => (hl d os) 4 _ rfl
    have hl5 := fun d os => (hl d os) 5 _ rfl
    simp only [Nat.zero_add] at hl0 hl1 hl2 hl3 hl4 hl5
    clear hXr hl HA
    go_enter Try.func19, Try.ntmps19
    go_wp2_with fail
    generalize ((w.alloc (.cells #[.int .i64 k1, vi, vk, vd, .string t1, vv, vf, .int .i64 n1, .int .u64 x1, .int .i64 g1, .int .i64 c1, .int .i64 q1, .int .i64 r1, .int .i64 l1] 49)).alloc (.cells #[.int .u64 x1, .int .i64 g1, .int .i64 c1, .int .i64 q1, .int .i64 r1, .int .i64 l1] 26)) = X at *
    have HN := hid (pnum_regrown X)
    have HU : Hid (∀ d os, Calls Try.prog 20 #[.int .u64 x1] (grow (redrawn X d) os) fun e w'' => e = .returned (.string (bs (lowB x1 8))) ∧ ∃ p : Regrown, w'' = grow (redrawn X p.d) p.os) := fun d os => Calls.regrown_of (num_any x1 _ ht0 ht1)
    have HRO : Hid (∀ d os, Calls Try.prog 33 #[.agg #[.int .i64 g1, .int .i64 c1, .int .i64 q1]] (grow (redrawn X d) os) fun e w'' => e = .returned (.string (bs (rootBytesD ⟨g1, c1, q1⟩))) ∧ ∃ p : Regrown, w'' = grow (redrawn X p.d) p.os) := fun d os => Calls.regrown_of (rootBytes_any ⟨g1, c1, q1⟩ _)
    refine wp_region_quiet_below (by kernel_rfl) (by kernel_rfl) ?_
    repeat (go_big_quiet_step (first | exact HU.out _ _ | exact HRO.out _ _ | exact HN.out _ _ _))
    refine wpQuiet_nil ?_
    intro _ hw'
    obtain ⟨⟨dq, osq⟩, hw''⟩ := hw'
    subst hw''
    clear hl0 hl1 hl2 hl3 hl4 hl5
    go_wp2
    go_ret
    exact ⟨ret_str (by simp [partD, metaD, h1, h2, h3, h4, h5, bs_append]), hb2.trans ((below_regrown X dq osq).mono hb2.size)⟩
end Go.Proofs.Ytgnmjdcmaahlnaa
