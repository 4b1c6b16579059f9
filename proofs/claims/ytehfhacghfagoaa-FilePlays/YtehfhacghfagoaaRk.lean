/- FilePlays, walked. -/
import Derived.Test.YtehfhacghfagoaaRj
import Derived.Deep.DeepCutAuto
namespace Go.Proofs.Ytehfhacghfagoaa
open Go.RowKit

set_option maxRecDepth 100000 in
set_option maxHeartbeats 16000000 in
theorem plays_law (ss : List ByteArray) (ls : List StepD) (v u : Value) (w : World) (hv : StrsAt w v ss) (hu : StepsAt w u ls) (hn : ∀ n c, v = .slice none n c → c = 0) :
    Calls Try.prog 3 #[v, u] w fun e w' => e = .returned (.bool true) ∧ Below w.heap.size w w' := by
  obtain ⟨uo, uc, rfl, hum, hu3⟩ := hu
  have hv0 := hv
  obtain ⟨vo, vc, rfl, ⟨hvm, hvc⟩, hv3⟩ := hv
  unfold maxLen at hum hvm
  replace hu3 := hid hu3
  replace hv0 := hid hv0
  replace hn := hid hn
  clear hv3
  by_cases hbig : 60 < ls.length ∨ 20 < ss.length
  · rcases Nat.lt_or_ge 60 ls.length with h30 | h30
    · clear hbig
      go_enter Try.func3, Try.ntmps3
      go_wp2_with fail
      refine (known_any w).mono ?_
      rintro e w1 ⟨rfl, B1⟩
      replace B1 := hid B1
      go_wp2
      go_ret
      exact ⟨rfl, B1.out⟩
    · have h20 : 20 < ss.length := by omega
      clear hbig
      go_enter Try.func3, Try.ntmps3
      go_wp2_with fail
      refine (known_any w).mono ?_
      rintro e w1 ⟨rfl, B1⟩
      replace B1 := hid B1
      go_wp2
      go_ret
      exact ⟨rfl, B1.out⟩
  have h60 : ls.length ≤ 60 := by omega
  have h20 : ss.length ≤ 20 := by omega
  clear hbig
  go_enter Try.func3, Try.ntmps3
  go_wp2_with fail
  refine (known_any w).mono ?_
  rintro e w1 ⟨rfl, B1⟩
  have hv1 := hid (hv0.out.below B1)
  have hle := B1.size
  replace B1 := hid B1
  go_wp2_with fail
  refine (new_any ss _ w1 hv1.out (by omega)).mono ?_
  rintro e w2 ⟨rfl, fv, F2, B2⟩
  have HB2 := hid (bel B1.out B2 hle)
  have hv2 := hid (hv1.out.below B2)
  generalize w1.heap.size = fb at *
  replace F2 := hid F2
  clear B2 B1 hv1 hv0
  go_wp2_with fail
  refine (rnew_any ss _ w2 hv2.out (by omega) hn.out).mono ?_
  rintro e w3 ⟨rb, uV, uD, uL, rfl, R3, B3⟩
  have hle2 := HB2.out.size
  have hrb : w.heap.size ≤ rb := by have := R3.base; omega
  have HBo : Hid (Both w w3 fb rb w2.heap.size (newL ss)) := hid ⟨⟨fv, ss, uV, uD, uL, F2.out.below B3, by rw [nowL_new, newL_loose]; exact R3, rel_new ss⟩, bel HB2.out B3 hle2⟩
  generalize w2.heap.size = M at *
  clear F2 HB2 hv2 R3 B3 hn
  go_wp2
  go_loopg [7] ls.length (fun g i wr => ∃ (k : Nat) (L : List Sh), k + g = ls.length ∧ i = .int .i64 k ∧ Hid (Both w wr fb rb M L))
  case atStart => exact ⟨0, _, by omega, rfl, HBo⟩
  case round =>
    obtain ⟨k, L, hk, rfl, hI⟩ := hrel
    clear HBo
    have HBw := hid hI.out.below
    have hsw := hI.out.below.size
    cases gk with
    | zero =>
      have hke : k = ls.length := by omega
      subst hke
      go_wp2
      go_ret
      exact ⟨rfl, HBw.out⟩
    | succ g =>
      have hlk : k < ls.length := by omega
      obtain ⟨b, o, xu, ha, hbl, hr, hkp, _⟩ := hu3.out k hlk
      have hx := atSteps (len := ls.length) (cap := uc) (b := b) (o := o) k ha hlk
      have hrr := range_below hr ((HBw.out)) hbl
      obtain ⟨c0, c1, c2, c3⟩ := range4 hrr
      have hKP := hid hkp
      generalize ls[k] = x at *
      obtain ⟨xw, xp, xs, xk⟩ := x
      obtain ⟨ko, kc, rfl, ⟨hkm, _⟩, _⟩ := hkp
      unfold maxLen at hkm
      clear hr hrr ha
      simp only [] at *
      go_upto_region 9 with fail
      iterate 20 (try go_step)
      apply_assumption
      have hI0 := hid (hI.out.next ((Below.refl _ wr).alloc (Nat.le_refl _) (.cells #[.int .i64 xw, .int .i64 xp, .string xs, .slice ko xk.length kc] 31)))
      have hxb := heap_newL wr (.cells #[.int .i64 xw, .int .i64 xp, .string xs, .slice ko xk.length kc] 31)
      clear hI c0 c1 c2 c3 hx
      generalize wr.alloc (.cells #[.int .i64 xw, .int .i64 xp, .string xs, .slice ko xk.length kc] 31) = X at *
      generalize wr.heap.size = pb at *
      have cx := cell_rowL hxb
      replace hxb := hid hxb
      go_step
      have hBX := hid hI0.out.below
      go_cut [] (fun wc => ∃ L', Hid (Both w wc fb rb M L'))
      case first =>
        have cx0 := cx 0
        have cx1 := cx 1
        have cx2 := cx 2
        have cx3 := cx 3
        simp only [List.getElem?_toArray, List.getElem?_cons_zero, List.getElem?_cons_succ] at cx0 cx1 cx2 cx3
        clear cx
        by_cases hq : 500 < xk.length
        · go_wp2
          go_ret
          exact ⟨rfl, hBX.out⟩
        replace hq : xk.length ≤ 500 := by omega
        by_cases hqs : 100 < xs.size
        · go_wp2
          go_ret
          exact ⟨rfl, hBX.out⟩
        replace hqs : xs.size ≤ 100 := by omega
        by_cases hq2 : 60 < xp ∧ xp < 1000000
        · obtain ⟨hq2, hq3⟩ := hq2
          go_wp2
          go_ret
          exact ⟨rfl, hBX.out⟩
        have hq3 : xp ≤ 60 ∨ 1000000 ≤ xp := by omega
        clear hq2
        by_cases hw5 : xw ≤ 5
        · by_cases hval : 0 ≤ xp ∧ xp ≤ 60
          · obtain ⟨i, rfl⟩ : ∃ i : Nat, xp = (i : Int) := ⟨xp.toNat, by omega⟩
            have hq2 : (i : Int) ≤ 60 := hval.2
            have hi4 : i < 400 := by omega
            clear hval hq3
            obtain ⟨fv, D, vV, vD, vL, hF, hR, hr⟩ := hI0.out.all
            have FH : Hid (FileAt X.drew fb fb fv L) := hid hF.drew
            have RH : Hid (RfAt X.drew M rb vV vD vL (nowL L) D (looseL L 0)) := hid (hR.kept fun _ _ _ _ _ _ => rfl)
            have BH : Hid (Below w.heap.size w X.drew) := hid ⟨hBX.out.os, hBX.out.tape, hBX.out.output, hBX.out.size, hBX.out.block⟩
            have PH : Hid (X.drew.heap[pb]? = some (.cells #[.int .i64 xw, .int .i64 i, .string xs, .slice ko xk.length kc] 31 (0, 0))) := hid hxb.out
            have hnil := Try.eqNilNil
            replace hr := hid hr
            clear hF hR hI0 hxb hKP
            go_wp2_with fail
            go_region_held3 (fun w' => w'.cell? ⟨pb, 1, none⟩ = some (.int .i64 (i : Int)) ∧ w'.cell? ⟨pb, 2, none⟩ = some (.string xs)) (first | exact ⟨cell_rowL PH.out 1, cell_rowL PH.out 2⟩ | go_keep) (first
              | (go_at_call 11; refine (write_any _ fb fb _ L i xs FH.out hi4).mono ?_; rintro e wf ⟨rfl, fv', F', O'⟩; have BH := hid (BH.out.trans ((O'.below FH.out).mono hle)); have PH := hid ((O'.keeps FH.out PH.out (by decide) (by decide)).trans PH.out); have RH := hid (RH.out.fo FH.out O'); have FH := hid F'; clear F' O')
              | (go_at_call 12; refine (rwrite_any _ M rb _ _ _ L D i xs RH.out hi4).mono ?_; rintro e wg ⟨rfl, a1, a2, a3, R', G'⟩; have BH := hid (BH.out.trans (grown_lt G' hrb BH.out.size)); have PH := hid ((G'.block pb (lt_of_heap PH.out) (by intro e; simp only [Option.some.injEq] at e; subst e; have h1 := PH.out; rw [RH.out.obj] at h1; simp at h1)).trans PH.out); have FH := hid (FH.out.rf RH.out G'); have RH := hid R'; clear R' G'))
            all_goals go_wp2
            all_goals go_meet
            case rel => exact ⟨writeL L i xs, hid ⟨⟨_, _, _, _, _, FH.out, RH.out, rel_write hr.out i xs⟩, BH.out⟩⟩
          · have hinv : xp < 0 ∨ 400 ≤ xp := by omega
            have hne := Try.eqNil
            rcases hq3 with hq2 | hq2
            all_goals
              go_wp2_with fail
              go_region_held3 (fun w' => w'.cell? ⟨pb, 1, none⟩ = some (.int .i64 xp) ∧ w'.cell? ⟨pb, 2, none⟩ = some (.string xs)) (first | exact ⟨cx1, cx2⟩ | go_keep) (first
                | (go_at_call 11; refine (write_not _ fb xp xs hinv).mono ?_; rintro e wf ⟨rfl, rfl⟩)
                | (go_at_call 12; refine (rwrite_not _ rb xp xs hinv).mono ?_; rintro e wg ⟨rfl, rfl⟩))
              all_goals go_wp2
              all_goals go_meet
              case rel => exact ⟨L, hid (hI0.out.next ⟨rfl, rfl, rfl, Nat.le_refl _, fun _ _ => rfl⟩)⟩
        · rcases hq3 with hq2 | hq2
          all_goals
            by_cases hw6 : xw = 6
            · subst hw6
              have HS := hid (hI0.out.sync hle hrb)
              clear hI0 hKP hxb
              go_wp2_with fail
              refine HS.out.mono ?_
              rintro e w5 ⟨rfl, HS2⟩
              replace HS2 := hid HS2
              clear HS
              go_wp2_with fail
              refine HS2.out.mono ?_
              rintro e w6 ⟨rfl, HB6⟩
              replace HB6 := hid HB6
              clear HS2
              go_wp2
              go_meet
              case rel => exact ⟨_, HB6⟩
            · have hw7 : (xw == 6) = false := by simpa using hw6
              have HS := hid (hI0.out.power hle hrb _ xk hKP.out)
              clear hI0 hKP
              go_wp2_with fail
              refine HS.out.mono ?_
              rintro e w5 ⟨rfl, hk5, HS2⟩
              have cy3 := cell_rowL (hk5 pb _ hxb.out) 3
              simp only [List.getElem?_toArray, List.getElem?_cons_zero, List.getElem?_cons_succ] at cy3
              replace HS2 := hid HS2
              clear HS hk5 hxb
              go_wp2_with fail
              refine HS2.out.mono ?_
              rintro e w6 ⟨rfl, HB6⟩
              replace HB6 := hid HB6
              clear HS2
              go_wp2
              go_meet
              case rel => exact ⟨_, HB6⟩
      case rest =>
        obtain ⟨L', hB⟩ := hcut
        clear hI0 hBX cx hxb hKP HBw
        obtain ⟨fv, D, vV, vD, vL, hF, hR, hr⟩ := hB.out.all
        obtain ⟨ao, cp, rfl⟩ := hR.rowV.slice
        obtain ⟨lo, lc, rfl⟩ := hR.rowL.slice
        obtain ⟨c0, c1, c2⟩ := cells3c hR.obj
        have hlV := hR.lenV
        rw [nowL_length] at c0 hlV
        have FH : Hid (FileAt wc.drew fb fb fv L') := hid hF.drew
        have RH : Hid (RfAt wc.drew M rb _ vD _ (nowL L') D (looseL L' 0)) := hid (hR.kept fun _ _ _ _ _ _ => rfl)
        have BH : Hid (Below w.heap.size w wc.drew) := hid ⟨hB.out.below.os, hB.out.below.tape, hB.out.below.output, hB.out.below.size, hB.out.below.block⟩
        have hll := looseL_le400 L' hlV
        replace hr := hid hr
        clear hF hR hB
        go_wp2_with fail
        go_region_held3 (fun w' => w'.cell? ⟨rb, 0, none⟩ = some (.slice ao L'.length cp) ∧ w'.cell? ⟨rb, 2, none⟩ = some (.slice lo (looseL L' 0).length lc)) (first | exact ⟨by have h1 := cell_rowL RH.out.obj 0; rw [nowL_length] at h1; exact h1, cell_rowL RH.out.obj 2⟩ | go_keep) (first
          | (go_at_call 17; refine (len_any _ fb fb _ _ FH.out).mono ?_; rintro e wf ⟨rfl, rfl⟩)
          | (go_at_call 19; refine (loose_any _ fb fb _ _ FH.out).mono ?_; rintro e wf ⟨lv, rfl, OL, BL⟩; have BH := hid (bel BH.out BL BH.out.size); have RH := hid (RH.out.below BL); have FH := hid (FH.out.below BL); obtain ⟨xo, xc, rfl⟩ := OL.slice; replace OL := hid OL; clear BL)
          | (go_at_call 18; refine (refSameInts_any _ _ _ _ _ (OL.out.at (by unfold maxLen; omega)) (RH.out.rowL.at (by unfold maxLen; omega))).mono ?_; rw [decide_eq_true rfl]; rintro e wf ⟨rfl, BL⟩; have BH := hid (bel BH.out BL BH.out.size); have RH := hid (RH.out.below BL); have FH := hid (FH.out.below BL); clear BL))
        all_goals
          clear c0 c1 c2 OL
          go_wp2
          go_loopg [9] (L'.length + 2) (fun g2 i wq => ∃ (q : Nat), q + g2 = L'.length + 2 ∧ i = .int .i64 q ∧ Hid (FileAt wq fb fb fv L') ∧ Hid (RfAt wq M rb (.slice ao (nowL L').length cp) vD (.slice lo (looseL L' 0).length lc) (nowL L') D (looseL L' 0)) ∧ Hid (Below w.heap.size w wq))
          case atStart => exact ⟨0, by omega, rfl, FH, RH, BH⟩
          case round =>
            obtain ⟨q, hq, rfl, hF2, hR2, hB2⟩ := hrel
            clear FH RH BH
            obtain ⟨c0, c1, c2⟩ := cells3c hR2.out.obj
            rw [nowL_length] at c0
            cases gk with
            | zero =>
              have hqe : q = L'.length + 2 := by omega
              subst hqe
              go_wp2
              go_roundg g
              case rel => exact ⟨k + 1, L', by omega, by go_num, hid ⟨⟨_, _, _, _, _, hF2.out, hR2.out, hr.out⟩, hB2.out⟩⟩
              case measure => omega
            | succ g2 =>
              have hql : q < L'.length + 2 := by omega
              have H1 := hid (read_any _ fb fb _ _ (q : Int) hF2.out)
              have H2 := hid (rread_any _ M rb _ _ _ _ _ _ (q : Int) hR2.out)
              rw [read_at] at H1
              generalize atL (nowL L') (q : Int) = sq at *
              go_wp2_with fail
              refine H1.out.mono ?_
              rintro e w8 ⟨rfl, rfl⟩
              go_wp2_with fail
              refine H2.out.mono ?_
              rintro e w9 ⟨rfl, rfl⟩
              go_wp2
              go_roundg g2
              case rel => exact ⟨q + 1, by omega, by go_num, hF2, hR2, hB2⟩
              case measure => omega
end Go.Proofs.Ytehfhacghfagoaa
