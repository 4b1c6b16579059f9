/- LockPlays, walked: of every row of steps the lock and the processes do as the reference's. -/
import Derived.Test.YtdjhlgcbjdohiaaDoorUg
namespace Go.Proofs.YtdjhlgcbjdohiaaDoor
open Go.RowKit Go.Conc

section
variable {w X Y : World} {lb cb pb pc rb qb xb : Nat} {W V : Int} {S T : List SlotD} {v u : Value} {la lq : Int} {L M : List Int} {cs : Array Value}
/-- The step's own block is as it was, behind a call that turned the lock, the reference's lock, the processes, nothing. -/
theorem Qd.xlo (h : Qd w X lb cb pb pc rb qb W S V T v u la L lq M) (o : Lo lb cb X Y) (hx : X.heap[xb]? = some (.cells cs 40 (0, 0))) : Y.heap[xb]? = some (.cells cs 40 (0, 0)) :=
  (o.keeps h.l hx (by decide)).trans hx
theorem Qd.xrl (h : Qd w X lb cb pb pc rb qb W S V T v u la L lq M) (g : X.grownBy Y (some rb)) (hx : X.heap[xb]? = some (.cells cs 40 (0, 0))) : Y.heap[xb]? = some (.cells cs 40 (0, 0)) := by
  refine (g.block xb (lt_of_heap hx) (fun e => ?_)).trans hx
  have e2 : xb = rb := by simpa using e
  subst e2
  have h1 := h.r.obj
  rw [hx] at h1
  simp at h1
theorem xpo (h : Qd w X lb cb pb pc rb qb W S V T v u la L lq M) {v' : Value} (o : Po pb pc X v Y v') {a0 a1 a2 a3 : Value} (hx : X.heap[xb]? = some (.cells #[a0, a1, a2, a3] 40 (0, 0))) : Y.cell? ⟨xb, 1, none⟩ = some a1 := by
  obtain ⟨s', r', hc'⟩ := h.p.ch
  have hk : Y.heap[xb]? = X.heap[xb]? := by
    refine o.block xb (lt_of_heap hx) ?_ ?_ (fun e => ?_)
    · rintro rfl
      have := h.p.obj
      rw [this] at hx
      simp at hx
    · rintro rfl
      rw [hc'] at hx
      simp at hx
    · obtain ⟨cur, hcu⟩ := own_block h.p.row e
      rw [hcu] at hx
      simp at hx
  exact cell_rowL (hk.trans hx) 1
theorem xbel (b : Below X.heap.size X Y) (hx : X.heap[xb]? = some (.cells cs 40 (0, 0))) : Y.heap[xb]? = some (.cells cs 40 (0, 0)) := (b.block xb (lt_of_heap hx)).trans hx
end

set_option maxRecDepth 100000 in
set_option maxHeartbeats 16000000 in
theorem lplays_law (l : List StepL) (last : Int) (v0 : Value) (w : World) (h0 : StepsL w v0 l) (hg : ErrAt w) :
    Calls Tryd.prog 3 #[v0, .int .u64 last] w fun e w' => e = .returned (.bool true) ∧ Below w.heap.size w w' := by
  obtain ⟨ao, cap, rfl, hlm, h3⟩ := h0
  unfold maxLen at hlm
  replace h3 := hid h3
  replace hg := hid hg
  go_enter Tryd.func3, Tryd.ntmps3
  go_wp2_with fail
  refine (known_any w).mono ?_
  rintro e w0 ⟨rfl, B0⟩
  replace B0 := hid B0
  by_cases hl : 60 < l.length
  · go_wp2
    go_ret
    exact ⟨rfl, B0.out⟩
  go_wp2_with fail
  refine (lnew_any w0).mono ?_
  rintro e w1 ⟨rfl, L1, B1⟩
  generalize w0.heap.size + 1 = lb at *
  replace L1 := hid L1
  replace B1 := hid B1
  go_wp2_with fail
  refine (pnew_any w1).mono ?_
  rintro e w2 ⟨rfl, P2, B2⟩
  have H2 := qd_new B0.out L1.out B1.out P2 B2
  rw [rlCells_free] at H2
  replace H2 := hid H2
  clear L1 B1 P2 B2 B0
  generalize w1.heap.size + 1 = pb at *
  generalize w1.heap.size = pc at *
  generalize w0.heap.size = cb at *
  clear w1 w0
  go_wp2
  generalize (w2.alloc _).alloc _ = X at *
  generalize w2.heap.size + 1 = qb at *
  generalize w2.heap.size = rb at *
  clear w2 hlm
  go_loopg [9] l.length (fun g i wr => ∃ (k : Nat) (W : Int) (S : List SlotD) (v u : Value) (la : Int) (L : List Int), k + g = l.length ∧ i = .int .i64 (k : Int) ∧ la ≤ (k : Int) ∧ L.length ≤ k ∧ Hid (Qd w wr lb cb pb pc rb qb W S W S v u la L la L))
  case atStart => exact ⟨0, _, _, _, _, _, _, by omega, rfl, by omega, by simp, H2⟩
  case round =>
    obtain ⟨k, W, S, v, u, la, L, hk, rfl, hla, hLk, hn⟩ := hrel
    clear H2
    cases gk with
    | zero =>
      have hke : k = l.length := by omega
      subst hke
      go_wp2
      go_ret
      exact ⟨rfl, hn.out.bel⟩
    | succ g =>
      have hlk : k < l.length := by omega
      obtain ⟨b, o, ha, hblt, hrg, hpm, ht0, ht1⟩ := h3.out k hlk
      have hx := atSteps l.length cap k ha hlk
      generalize l[k] = x at *
      obtain ⟨xw, xp, xs, xt⟩ := x
      obtain ⟨c0, c1, c2, c3⟩ := range4 (rangeAt_below hrg hn.out.bel hblt)
      simp only at c0 c1 c2 c3 hpm ht0 ht1
      replace hpm := hid hpm; replace ht0 := hid ht0; replace ht1 := hid ht1
      clear hrg ha
      have bA := (Below.refl wr.heap.size wr).alloc (Nat.le_refl _) (.cells #[.int .i64 xw, .int .i64 xp, .int .i64 xs, .int .u64 xt] 40)
      have NA := hid (hn.out.below bA)
      have XA := hid (heap_newL wr (.cells #[.int .i64 xw, .int .i64 xp, .int .i64 xs, .int .u64 xt] 40))
      clear bA
      go_upto_region 12 with fail
      generalize hXw : wr.alloc (.cells #[.int .i64 xw, .int .i64 xp, .int .i64 xs, .int .u64 xt] 40) = Y at *
      have d0 := cell_rowL XA.out 0
      have d1 := cell_rowL XA.out 1
      simp only [List.getElem?_toArray, List.getElem?_cons_zero, List.getElem?_cons_succ] at d0 d1
      generalize wr.heap.size = xb at *
      clear c0 c1 c2 c3 hn hXw
      iterate 20 (try go_step)
      apply_assumption
      go_cut [11, 12, 13, 14] (fun a b c d wc => ∃ (f : Bool) (n W' : Int) (S' : List SlotD) (v' u' : Value) (la' : Int) (L' : List Int), a = .bool f ∧ b = .bool f ∧ c = .int .i64 n ∧ d = .int .i64 n ∧ la' ≤ (k : Int) + 1 ∧ L'.length ≤ k + 1 ∧ Hid (Qd w wc lb cb pb pc rb qb W' S' W' S' v' u' la' L' la' L'))
      case first =>
        have hlo := hid NA.out.p.lo
        by_cases h5 : xw = 5
        · subst h5
          go_wp2_with fail
          refine (sweep_any _ _ lb cb _ pb pc _ W la v L S NA.out.l NA.out.p).mono ?_
          rintro e w4 ⟨rfl, l4, o4⟩
          have N4 := hid (NA.out.lo l4 o4)
          clear l4 o4 NA
          go_wp2_with fail
          refine (rsweep_any _ _ rb _ qb W la u L S N4.out.r N4.out.q (by omega)).mono ?_
          rintro e w5 ⟨rfl, r5, g5⟩
          have N5 := hid (N4.out.rl r5 g5)
          clear r5 g5 N4
          go_wp2
          go_meet
          case rel => exact ⟨true, 0, _, _, _, _, _, _, by simp, rfl, rfl, rfl, by omega, by omega, N5⟩
        by_cases h6 : xw = 6
        · subst h6
          go_wp2_with fail
          refine (spawn_any _ _ pb pc v la L NA.out.p (by omega) (by omega)).mono ?_
          rintro e w4 ⟨rfl, v4, p4, o4⟩
          have N4 := hid (NA.out.po p4 o4)
          clear p4 o4 NA
          go_wp2_with fail
          refine (rspawn_any _ _ qb u la L N4.out.q (by omega) hlo.out (by omega)).mono ?_
          rintro e w5 ⟨rfl, u5, q5, g5, n5⟩
          have N5 := hid (N4.out.rp q5 g5 n5)
          clear q5 g5 n5 N4
          go_wp2
          go_meet
          case rel => exact ⟨true, 0, _, _, _, _, _, _, rfl, rfl, rfl, rfl, by omega, by simp; omega, N5⟩
        by_cases h0 : xw = 0
        · subst h0
          have NH : Hid (Qd w Y.drew lb cb pb pc rb qb W S W S v u la L la L) := hid (NA.out.below ⟨rfl, rfl, rfl, Nat.le_refl _, fun _ _ => rfl⟩)
          have XH := hid (show Y.drew.heap[xb]? = _ from XA.out)
          clear NA XA d0
          go_upto_region 17 with fail
          go_region_held3 (fun w' => w'.cell? ⟨xb, 1, none⟩ = some (.int .i64 xp)) (first | exact cell_rowL XH.out 1 | go_keep) (first
            | (go_at_call 7; refine (take_lock _ _ lb cb _ pb pc _ W xp la v L S NH.out.l NH.out.p hpm.out).mono ?_; rintro e wf ⟨rfl, l', o'⟩; have XH := hid (NH.out.xlo o' XH.out); have NH := hid (NH.out.lo l' o'); clear l' o')
            | (go_at_call 8; refine (rtake_any _ _ rb qb _ W xp la u L S NH.out.r NH.out.q (by omega)).mono ?_; rintro e wg ⟨rfl, r', g'⟩; have XH := hid (NH.out.xrl g' XH.out); have NH := hid (NH.out.rl r' g'); clear r' g'))
          all_goals go_wp2
          all_goals go_meet
          all_goals exact ⟨_, 0, _, _, _, _, _, _, rfl, rfl, rfl, rfl, by omega, by omega, NH⟩
        by_cases h1 : xw = 1
        · subst h1
          have NH : Hid (Qd w Y.drew lb cb pb pc rb qb W S W S v u la L la L) := hid (NA.out.below ⟨rfl, rfl, rfl, Nat.le_refl _, fun _ _ => rfl⟩)
          have XH := hid (show Y.drew.heap[xb]? = _ from XA.out)
          clear NA XA d0
          go_upto_region 19 with fail
          go_region_held3 (fun w' => w'.cell? ⟨xb, 1, none⟩ = some (.int .i64 xp)) (first | exact cell_rowL XH.out 1 | go_keep) (first
            | (go_at_call 9; refine (release_any _ _ lb cb W xp S NH.out.l).mono ?_; rintro e wf ⟨rfl, l', o'⟩; have XH := hid (NH.out.xlo o' XH.out); have NH := hid (NH.out.lo l' o'); clear l' o')
            | (go_at_call 10; refine (rrelease_any _ _ rb W xp S NH.out.r).mono ?_; rintro e wg ⟨rfl, r', g'⟩; have XH := hid (NH.out.xrl g' XH.out); have NH := hid (NH.out.rl r' g'); clear r' g'))
          all_goals go_wp2
          all_goals go_meet
          all_goals exact ⟨_, 0, _, _, _, _, _, _, rfl, rfl, rfl, rfl, by omega, by omega, NH⟩
        by_cases h2 : xw = 2
        · subst h2
          have hcl : claimOk S xp = true ∨ claimOk S xp = false := by cases claimOk S xp <;> simp
          rcases hcl with hcl | hcl
          · have e1 := hid (show claimE S xp = .returned (.tuple #[.int .i64 (freeI S), .nilIface]) by rw [claimE, hcl]; rfl)
            have e2 := hid (show rclaimE S xp = .returned (.tuple #[.int .i64 (freeI S), .int .i64 0]) by rw [rclaimE, hcl]; rfl)
            clear hcl
            go_wp2_with fail
            refine (claim_any _ _ lb cb W xp S NA.out.l hpm.out).mono ?_
            rw [e1.out]
            rintro e w4 ⟨rfl, l4, o4⟩
            have X4 := hid (NA.out.xlo o4 XA.out)
            have N4 := hid (NA.out.lo l4 o4)
            have d4 := cell_rowL X4.out 1
            simp only [List.getElem?_toArray, List.getElem?_cons_zero, List.getElem?_cons_succ] at d4
            clear l4 o4 NA XA d0 d1
            go_wp2_with fail
            refine (rclaim_any _ _ rb W xp S N4.out.r).mono ?_
            rw [e2.out]
            rintro e w5 ⟨rfl, r5, g5⟩
            have N5 := hid (N4.out.rl r5 g5)
            clear r5 g5 N4 X4 d4
            go_wp2_with fail
            refine (code_nil _).mono ?_
            rintro e w6 ⟨rfl, b6⟩
            have N6 := hid (N5.out.below b6)
            clear b6 N5
            go_wp2
            go_meet
            case rel => exact ⟨true, 0, _, _, _, _, _, _, by simp, rfl, rfl, rfl, by omega, by omega, N6⟩
          · have e1 := hid (show claimE S xp = .returned (.tuple #[.int .i64 (-1), .iface 69 (.int .i64 15)]) by rw [claimE, hcl]; rfl)
            have e2 := hid (show rclaimE S xp = .returned (.tuple #[.int .i64 (-1), .int .i64 15]) by rw [rclaimE, hcl]; rfl)
            clear hcl
            go_wp2_with fail
            refine (claim_any _ _ lb cb W xp S NA.out.l hpm.out).mono ?_
            rw [e1.out]
            rintro e w4 ⟨rfl, l4, o4⟩
            have X4 := hid (NA.out.xlo o4 XA.out)
            have N4 := hid (NA.out.lo l4 o4)
            have d4 := cell_rowL X4.out 1
            simp only [List.getElem?_toArray, List.getElem?_cons_zero, List.getElem?_cons_succ] at d4
            clear l4 o4 NA XA d0 d1
            go_wp2_with fail
            refine (rclaim_any _ _ rb W xp S N4.out.r).mono ?_
            rw [e2.out]
            rintro e w5 ⟨rfl, r5, g5⟩
            have N5 := hid (N4.out.rl r5 g5)
            clear r5 g5 N4 X4 d4
            go_wp2_with fail
            refine (code_err 15 _ (hg.out.below N5.out.bel hg.out.lt)).mono ?_
            rintro e w6 ⟨rfl, b6⟩
            have N6 := hid (N5.out.below b6)
            clear b6 N5
            go_wp2
            go_meet
            case rel => exact ⟨true, 15, _, _, _, _, _, _, by simp, rfl, rfl, rfl, by omega, by omega, N6⟩
        by_cases h3x : xw = 3
        · subst h3x
          have NH : Hid (Qd w Y.drew lb cb pb pc rb qb W S W S v u la L la L) := hid (NA.out.below ⟨rfl, rfl, rfl, Nat.le_refl _, fun _ _ => rfl⟩)
          have XH := hid (show Y.drew.heap[xb]? = _ from XA.out)
          clear NA XA d0
          have hcl : heldB S xs xp = true ∨ heldB S xs xp = false := by cases heldB S xs xp <;> simp
          rcases hcl with hcl | hcl
          · have e1 := hid (show errE (heldB S xs xp) = .returned .nilIface by rw [hcl]; rfl)
            have e2 := hid (show rerrE (heldB S xs xp) = .returned (.int .i64 0) by rw [hcl]; rfl)
            clear hcl
            go_upto_region 25 with fail
            go_region_held3 (fun w' => w'.cell? ⟨xb, 1, none⟩ = some (.int .i64 xp) ∧ w'.cell? ⟨xb, 2, none⟩ = some (.int .i64 xs) ∧ w'.cell? ⟨xb, 3, none⟩ = some (.int .u64 xt)) (first | exact ⟨cell_rowL XH.out 1, cell_rowL XH.out 2, cell_rowL XH.out 3⟩ | go_keep) (first
              | (go_at_call 14; refine (publish_any _ _ lb cb W xs xp xt S NH.out.l ht0.out ht1.out).mono ?_; rw [e1.out]; rintro e wf ⟨rfl, l', o'⟩; have XH := hid (NH.out.xlo o' XH.out); have NH := hid (NH.out.lo l' o'); clear l' o')
              | (go_at_call 13; refine (code_nil _).mono ?_; rintro e wh ⟨rfl, b'⟩; have XH := hid (xbel b' XH.out); have NH := hid (NH.out.below b'); clear b')
              | (go_at_call 15; refine (rpublish_any _ _ rb W xs xp xt S NH.out.r).mono ?_; rw [e2.out]; rintro e wg ⟨rfl, r', g'⟩; have XH := hid (NH.out.xrl g' XH.out); have NH := hid (NH.out.rl r' g'); clear r' g'))
            all_goals go_wp2
            all_goals go_meet
            all_goals exact ⟨true, 0, _, _, _, _, _, _, rfl, rfl, rfl, rfl, by omega, by omega, NH⟩
          · have e1 := hid (show errE (heldB S xs xp) = .returned (.iface 69 (.int .i64 18)) by rw [hcl]; rfl)
            have e2 := hid (show rerrE (heldB S xs xp) = .returned (.int .i64 18) by rw [hcl]; rfl)
            clear hcl
            go_upto_region 25 with fail
            go_region_held3 (fun w' => w'.cell? ⟨xb, 1, none⟩ = some (.int .i64 xp) ∧ w'.cell? ⟨xb, 2, none⟩ = some (.int .i64 xs) ∧ w'.cell? ⟨xb, 3, none⟩ = some (.int .u64 xt)) (first | exact ⟨cell_rowL XH.out 1, cell_rowL XH.out 2, cell_rowL XH.out 3⟩ | go_keep) (first
              | (go_at_call 14; refine (publish_any _ _ lb cb W xs xp xt S NH.out.l ht0.out ht1.out).mono ?_; rw [e1.out]; rintro e wf ⟨rfl, l', o'⟩; have XH := hid (NH.out.xlo o' XH.out); have NH := hid (NH.out.lo l' o'); clear l' o')
              | (go_at_call 13; refine (code_err 18 _ (hg.out.below NH.out.bel hg.out.lt)).mono ?_; rintro e wh ⟨rfl, b'⟩; have XH := hid (xbel b' XH.out); have NH := hid (NH.out.below b'); clear b')
              | (go_at_call 15; refine (rpublish_any _ _ rb W xs xp xt S NH.out.r).mono ?_; rw [e2.out]; rintro e wg ⟨rfl, r', g'⟩; have XH := hid (NH.out.xrl g' XH.out); have NH := hid (NH.out.rl r' g'); clear r' g'))
            all_goals go_wp2
            all_goals go_meet
            all_goals exact ⟨true, 18, _, _, _, _, _, _, rfl, rfl, rfl, rfl, by omega, by omega, NH⟩
        by_cases h4 : xw = 4
        · subst h4
          have NH : Hid (Qd w Y.drew lb cb pb pc rb qb W S W S v u la L la L) := hid (NA.out.below ⟨rfl, rfl, rfl, Nat.le_refl _, fun _ _ => rfl⟩)
          have XH := hid (show Y.drew.heap[xb]? = _ from XA.out)
          clear NA XA d0
          have hcl : heldB S xs xp = true ∨ heldB S xs xp = false := by cases heldB S xs xp <;> simp
          rcases hcl with hcl | hcl
          · have e1 := hid (show errE (heldB S xs xp) = .returned .nilIface by rw [hcl]; rfl)
            have e2 := hid (show rerrE (heldB S xs xp) = .returned (.int .i64 0) by rw [hcl]; rfl)
            clear hcl
            go_upto_region 27 with fail
            go_region_held3 (fun w' => w'.cell? ⟨xb, 1, none⟩ = some (.int .i64 xp) ∧ w'.cell? ⟨xb, 2, none⟩ = some (.int .i64 xs)) (first | exact ⟨cell_rowL XH.out 1, cell_rowL XH.out 2⟩ | go_keep) (first
              | (go_at_call 16; refine (free_any _ _ lb cb W xs xp S NH.out.l).mono ?_; rw [e1.out]; rintro e wf ⟨rfl, l', o'⟩; have XH := hid (NH.out.xlo o' XH.out); have NH := hid (NH.out.lo l' o'); clear l' o')
              | (go_at_call 13; refine (code_nil _).mono ?_; rintro e wh ⟨rfl, b'⟩; have XH := hid (xbel b' XH.out); have NH := hid (NH.out.below b'); clear b')
              | (go_at_call 17; refine (rfree_any _ _ rb W xs xp S NH.out.r).mono ?_; rw [e2.out]; rintro e wg ⟨rfl, r', g'⟩; have XH := hid (NH.out.xrl g' XH.out); have NH := hid (NH.out.rl r' g'); clear r' g'))
            all_goals go_wp2
            all_goals go_meet
            all_goals exact ⟨true, 0, _, _, _, _, _, _, rfl, rfl, rfl, rfl, by omega, by omega, NH⟩
          · have e1 := hid (show errE (heldB S xs xp) = .returned (.iface 69 (.int .i64 18)) by rw [hcl]; rfl)
            have e2 := hid (show rerrE (heldB S xs xp) = .returned (.int .i64 18) by rw [hcl]; rfl)
            clear hcl
            go_upto_region 27 with fail
            go_region_held3 (fun w' => w'.cell? ⟨xb, 1, none⟩ = some (.int .i64 xp) ∧ w'.cell? ⟨xb, 2, none⟩ = some (.int .i64 xs)) (first | exact ⟨cell_rowL XH.out 1, cell_rowL XH.out 2⟩ | go_keep) (first
              | (go_at_call 16; refine (free_any _ _ lb cb W xs xp S NH.out.l).mono ?_; rw [e1.out]; rintro e wf ⟨rfl, l', o'⟩; have XH := hid (NH.out.xlo o' XH.out); have NH := hid (NH.out.lo l' o'); clear l' o')
              | (go_at_call 13; refine (code_err 18 _ (hg.out.below NH.out.bel hg.out.lt)).mono ?_; rintro e wh ⟨rfl, b'⟩; have XH := hid (xbel b' XH.out); have NH := hid (NH.out.below b'); clear b')
              | (go_at_call 17; refine (rfree_any _ _ rb W xs xp S NH.out.r).mono ?_; rw [e2.out]; rintro e wg ⟨rfl, r', g'⟩; have XH := hid (NH.out.xrl g' XH.out); have NH := hid (NH.out.rl r' g'); clear r' g'))
            all_goals go_wp2
            all_goals go_meet
            all_goals exact ⟨true, 18, _, _, _, _, _, _, rfl, rfl, rfl, rfl, by omega, by omega, NH⟩
        have q0 : (xw == 0) = false := by simpa using h0
        have q1 : (xw == 1) = false := by simpa using h1
        have q2 : (xw == 2) = false := by simpa using h2
        have q3 : (xw == 3) = false := by simpa using h3x
        have q4 : (xw == 4) = false := by simpa using h4
        have q5 : (xw == 5) = false := by simpa using h5
        have q6 : (xw == 6) = false := by simpa using h6
        clear h0 h1 h2 h3x h4 h5 h6
        by_cases hmem : xp ∈ L
        · replace hmem := hid hmem
          have hkl := killL_length L xp NA.out.p.rises hmem.out
          go_wp2_with fail
          refine (kill_any _ _ pb pc v la xp L NA.out.p hmem.out).mono ?_
          rintro e w4 ⟨rfl, v4, p4, o4⟩
          have N4 := hid (NA.out.po p4 o4)
          have X4 : Hid (w4.cell? ⟨xb, 1, none⟩ = some (.int .i64 xp)) := hid (xpo NA.out o4 XA.out)
          have d4 := X4.out
          clear p4 o4 NA XA d0 d1
          go_wp2_with fail
          refine (rkill_any _ _ qb u la xp L N4.out.q (by omega) hmem.out).mono ?_
          rintro e w5 ⟨rfl, u5, q5', g5, n5⟩
          have N5 := hid (N4.out.rp q5' g5 n5)
          clear q5' g5 n5 N4 X4 d4
          generalize killL L xp = L2 at *
          go_wp2
          go_meet
          case rel => exact ⟨true, 0, _, _, _, _, _, _, rfl, rfl, rfl, rfl, by omega, by omega, N5⟩
        · replace hmem := hid hmem
          go_wp2_with fail
          refine (kill_not _ _ pb pc _ v la xp L NA.out.p hmem.out).mono ?_
          rintro e w4 ⟨rfl, b4⟩
          have N4 := hid (NA.out.below b4)
          have X4 := hid (xbel b4 XA.out)
          have d4 := cell_rowL X4.out 1
          simp only [List.getElem?_toArray, List.getElem?_cons_zero, List.getElem?_cons_succ] at d4
          clear b4 NA XA d0 d1
          go_wp2_with fail
          refine (rkill_not _ _ qb u la xp L N4.out.q (by omega) hmem.out).mono ?_
          rintro e w5 ⟨rfl, rfl⟩
          clear X4 d4
          go_wp2
          go_meet
          case rel => exact ⟨true, 0, _, _, _, _, _, _, rfl, rfl, rfl, rfl, by omega, by omega, N4⟩
      case rest =>
        obtain ⟨f, n, W', S', v', u', la', L', rfl, rfl, rfl, rfl, hla', hL', hB⟩ := hcut
        clear NA XA
        go_wp2_with fail
        refine (same_any _ _ lb cb _ rb W' S' hB.out.l hB.out.r).mono ?_
        rintro e w6 ⟨rfl, b6⟩
        have N6 := hid (hB.out.below b6)
        clear hB b6
        go_wp2_with fail
        refine (oldest_any _ _ lb cb W' last S' N6.out.l).mono ?_
        rintro e w7 ⟨rfl, b7⟩
        have N7 := hid (N6.out.below b7)
        clear N6 b7
        go_wp2_with fail
        refine (roldest_any _ _ rb W' last S' N7.out.r).mono ?_
        rintro e w8 ⟨rfl, rfl⟩
        generalize oldL last S' = ol at *
        go_wp2_with fail
        refine (lbytes_any _ _ lb cb W' S' N7.out.l).mono ?_
        rintro e w9 ⟨rfl, b9⟩
        have N9 := hid (N7.out.below b9)
        clear N7 b9
        go_wp2_with fail
        refine (rbytes_any _ _ rb W' S' N9.out.r N9.out.l.wlo N9.out.l.whi N9.out.l.ok).mono ?_
        rintro e w10 ⟨rfl, b10⟩
        have N10 := hid (N9.out.below b10)
        clear N9 b10
        generalize (⟨(lockB W' S').toArray⟩ : ByteArray) = bb at *
        go_wp2
        go_roundg g
        case rel => exact ⟨k + 1, _, _, _, _, _, _, by omega, by go_num, by omega, hL', N10⟩
        case measure => omega
end Go.Proofs.YtdjhlgcbjdohiaaDoor
