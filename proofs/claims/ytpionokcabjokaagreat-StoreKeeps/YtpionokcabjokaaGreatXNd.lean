/- Contract of package page's takeFree. -/
import Derived.Test.YtpionokcabjokaaGreatXg
import Derived.Deep.RegionLaw
namespace Go.Proofs.YtpionokcabjokaaGreat
open Go.RowKit Go.Sort

def FreesNow (w0 w : World) (b rb : Nat) (v : Value) (acc : List FreeD) (s : St) : Prop := OwnFrees w w0.heap.size v acc ∧ AtSt w b rb s ∧ w0.grownBy w (some b)
theorem OwnFrees.lt {w w' : World} {base : Nat} {v : Value} {l : List FreeD} {row : Option Nat} (h : OwnFrees w base v l) (hg : w.grownBy w' row) (hr : ∀ k, row = some k → k < base) : OwnFrees w' base v l := by
  obtain ⟨hl, us, hus, hown, hids⟩ := h
  exact ⟨hl, us, hus, owns_kept_lt hown hg hr, fun i h1 h2 => (hids i h1 h2).lt hg hr⟩
theorem OwnFrees.alloc {w : World} {base : Nat} {v : Value} {l : List FreeD} (h : OwnFrees w base v l) (o : Obj) : OwnFrees (w.alloc o) base v l := by
  obtain ⟨hl, us, hus, hown, hids⟩ := h
  exact ⟨hl, us, hus, hown.alloc o, fun i h1 h2 => (hids i h1 h2).alloc o⟩
theorem ownFrees_nil (w : World) (base : Nat) : OwnFrees w base (.slice none 0 0) [] := ⟨by simp, [], rfl, World.ownsRow_nil _ _ _ _, fun i h => absurd h (by simp)⟩
theorem append_int (i0 : TypeInfo) (hi : Tryz.prog.info? 3 = some i0) (hz0 : i0.zero = some (.int .i64 0)) (hz1 : i0.size = 1) (hz2 : i0.bytes = 8) {w : World} {base : Nat} {v : Value} {l : List Int} (h : OwnInts w base v l) (x : Int) (hb : base ≤ w.heap.size) (hl : l.length ≤ 999) :
    ∃ g cap w', (Builtin.append_ #[23, 23] 23 #[v, .slice (some ⟨w.heap.size, 0, none⟩) 1 1]).run Tryz.prog (w.alloc (.cells #[.int .i64 x] 3)) = .ok (.slice (some ⟨g, 0, none⟩) (l.length + 1) cap) w' ∧
      OwnInts w' base (.slice (some ⟨g, 0, none⟩) (l.length + 1) cap) (l ++ [x]) ∧ (w.alloc (.cells #[.int .i64 x] 3)).grownBy w' v.ownBlock ∧ (v.ownBlock = some g ∨ g = w.heap.size + 1) ∧ g < w'.heap.size := by
  obtain ⟨g, cap, w', h1, h2, h3, h4, h5⟩ := run_append_lies (P := Tryz.prog) (w.alloc (.cells #[.int .i64 x] 3)) 23 23 base 3 i0 (.int .i64 0) 1 8 Tryz.underlying23 hi hz0 hz1 hz2 rfl (by omega) v l.length (intCells l) (h.1.alloc _) ⟨w.heap.size, 0, none⟩ 1 1 [.int .i64 x] rfl (World.news_of_block (cs := #[.int .i64 x]) (t := 3) (fr := (0, 0)) (heap_newL w _)) (by simp [Value.oneCell']) (by omega) (by unfold maxLen; omega) (by omega) (by simp; omega) (w.heap.size + 1) (by simp)
  exact ⟨g, cap, w', h1, ⟨by simpa [intCells] using h2, by simp; omega⟩, h3, h4, h5⟩
theorem AtSt.drew {w : World} {b rb : Nat} {s : St} (h : AtSt w b rb s) : AtSt w.drew b rb s := h.below ⟨rfl, rfl, rfl, Nat.le_refl _, fun _ _ => rfl⟩
theorem grown_drew {w w' : World} {row : Option Nat} (h : w.drew.grownBy w' row) : w.grownBy w' row := ⟨h.os, h.tape, h.output, h.size, h.block⟩
theorem intCells_snoc (k : Nat) (s : St) : intCells (numsV (k + 1) s) = intCells (numsV k s) ++ [.int .i64 (iV (nSn k s))] := by simp [intCells, numsV]
theorem OwnInts.mono {w : World} {base B : Nat} {v : Value} {l : List Int} (h : OwnInts w base v l) (hB : B ≤ base) : OwnInts w B v l := ⟨owns_mono h.1 hB, h.2⟩

set_option maxHeartbeats 4000000 in
set_option maxRecDepth 10000 in
theorem takeFree_any (b rb : Nat) (s : St) (w : World) (h : AtSt w b rb s) :
    Calls Tryz.prog 108 #[.pointer (some ⟨b, 0, none⟩)] w fun e w' => ∃ v, e = .returned v ∧ FreesNow w w' b rb v (freesGo (min (nV s) 20) 20 (nS s)).1 (freesGo (min (nV s) 20) 20 (nS s)).2 := by
  obtain ⟨i0, hi, hz0, hz1, hz2⟩ := info_parts Tryz.infoInt
  obtain ⟨j0, hj, hy0, hy1, hy2⟩ := info_parts Tryz.infoFree
  have H := hid (takeCount_any b rb s 20 w h (by omega))
  have hlt := h.lt
  have hlr := h.2.1
  have hn : min (nV s) 20 ≤ 20 := Nat.min_le_right _ _
  clear h
  generalize min (nV s) 20 = n at *
  generalize nS s = s1 at *
  generalize hRV : (freesGo n 20 s1).1 = RV at *
  generalize hRS : (freesGo n 20 s1).2 = RS at *
  have HRV := hid hRV
  have HRS := hid hRS
  clear hRV hRS
  go_enter Tryz.func108, Tryz.ntmps108
  go_wp2
  go_step3
  go_wp2
  go_step3
  go_wp2_with fail
  refine H.out.mono ?_
  rintro e w1 ⟨rfl, hc1, hg1⟩
  have HC1 := hid hc1
  have HG1 := hid hg1
  clear hc1 hg1 H
  go_wp2
  go_loopg [3, 4, 8] n (fun g v rm i wr => ∃ (k : Nat) (acc : List FreeD) (room : Nat) (sx : St), k + g = n ∧ i = .int .i64 k ∧ rm = .int .i64 room ∧ room ≤ 20 ∧ acc.length = k ∧ Hid (FreesNow w wr b rb v acc sx) ∧ Hid (RV = acc ++ (freesGo g room sx).1) ∧ Hid (RS = (freesGo g room sx).2))
  case atStart => exact ⟨0, [], 20, s1, by omega, rfl, rfl, by omega, rfl, ⟨ownFrees_nil _ _, HC1.out, HG1.out⟩, by show _ = _; rw [HRV.out]; rfl, HRS.out.symm⟩
  case round =>
    obtain ⟨k, acc, room, sx, hk, rfl, rfl, hroom, hacc, hnow, hrv, hrs⟩ := hrel
    clear HC1 HG1 HRV HRS
    cases gk with
    | zero =>
      have hke : k = n := by omega
      subst hke
      go_wp2
      rw [Exit.noGoto_ret]
      go_ret
      refine ⟨_, rfl, ?_⟩
      have e1 : RV = acc := by rw [hrv.out]; simp [freesGo]
      have e2 : RS = sx := by rw [hrs.out]; rfl
      rw [e1, e2]
      exact hnow.out
    | succ g =>
      have hlk : k < n := by omega
      obtain ⟨hfr, hat, hgr⟩ := hnow.out
      have hszw := hgr.size
      go_wp2_with fail
      refine (cnum_any b rb sx _ hat).mono ?_
      rintro e w2 ⟨rfl, hc2, hg2⟩
      have HC2 := hid (hc2.alloc (.cells #[.int .u64 (nV sx), .slice none 0 0] 74))
      have HQ2 := hid (grown_new hg2 (.cells #[.int .u64 (nV sx), .slice none 0 0] 74))
      have HF2 := hid (heap_newL w2 (.cells #[.int .u64 (nV sx), .slice none 0 0] 74))
      have hszF := hg2.size
      clear hc2 hg2 hat
      have HFR := hid hfr
      have HGR := hid hgr
      clear hfr hgr hnow
      go_wp2_with fail
      refine (cnum_any b rb (nS sx) _ HC2.out).mono ?_
      rintro e w3 ⟨rfl, hc3, hg3⟩
      have HC3 := hid hc3
      have HQ3 := hid (grown_trans HQ2.out hg3)
      have HF3 : Hid (w3.heap[w2.heap.size]? = some (.cells #[.int .u64 (nV sx), .slice none 0 0] 74 (0, 0))) := (hg3.block w2.heap.size (by simp) (by simp; omega)).trans HF2.out
      clear hc3 hg3 HC2 HQ2 HF2
      generalize w2.heap.size = F at *
      generalize hs2 : nS (nS sx) = s2 at *
      generalize hm : nV (nS sx) = m at *
      generalize ht : nV sx = t at *
      have hmlt : m < 18446744073709551616 := by rw [← hm]; exact nV_lt _
      have HRVE : Hid (RV = if m ≤ room then acc ++ (⟨t, numsV m s2⟩ :: (freesGo g (room - m) (nSn m s2)).1) else acc) := by
        show _ = _
        rw [hrv.out]
        simp only [freesGo, hm, hs2, ht]
        split <;> simp
      have HRSE : Hid (RS = if m ≤ room then (freesGo g (room - m) (nSn m s2)).2 else nSn room s2) := by
        show _ = _
        rw [hrs.out]
        simp only [freesGo, hm, hs2, ht]
        split <;> simp
      clear hrv hrs hm hs2 ht
      obtain ⟨W0, hW0⟩ : ∃ W0, W0 = wr := ⟨_, rfl⟩
      subst hW0
      go_wp2
      go_loopg [4, 15] m (fun g2 rm i wq => ∃ (j : Nat) (left : Nat) (vid : Value), j + g2 = m ∧ i = .int .u64 j ∧ rm = .int .i64 left ∧ left + j = room ∧ Hid (wq.heap[F]? = some (.cells #[.int .u64 t, vid] 74 (0, 0))) ∧ OwnInts wq W0.heap.size vid (numsV j s2) ∧ Hid (AtSt wq b rb (nSn j s2)) ∧ Hid (W0.grownBy wq (some b)))
      case atStart => exact ⟨0, room, .slice none 0 0, by omega, rfl, rfl, rfl, HF3, ownInts_nil _ _, HC3, HQ3⟩
      case round =>
        obtain ⟨j, left, vid, hj2, rfl, rfl, hlj, hF, hids, hat, hq⟩ := hrel
        clear HF3 HC3 HQ3
        have hFlt := (Array.getElem?_eq_some_iff.1 hF.out).1
        have hsq := hq.out.size
        cases gk with
        | zero =>
          have hjm : j = m := by omega
          subst hjm
          obtain ⟨av, nv, cv, rfl⟩ := hids.slice
          have cF := cell_rowL hF.out
          have HFN := hid (HFR.out.lt hq.out (fun k hk => by cases hk; omega))
          have HGN := hid (grown_trans HGR.out hq.out)
          have HIDS := hid hids
          obtain ⟨hal, us, hus, hown, hidsA⟩ := HFN.out
          have HIA := hid hidsA
          have e1 : RV = acc ++ (⟨t, numsV j s2⟩ :: (freesGo g (room - j) (nSn j s2)).1) := by rw [HRVE.out, if_pos (by omega)]
          have e2 : RS = (freesGo g (room - j) (nSn j s2)).2 := by rw [HRSE.out, if_pos (by omega)]
          have E1 := hid e1
          have E2 := hid e2
          clear e1 e2 hidsA hids HFN HRVE HRSE
          go_wp2_with (at_builtin; refine wpList_append_own _ rfl _ _ 28 rfl w.heap.size 74 j0 (.agg #[.int .u64 0, .slice none 0 0]) 2 32 Tryz.underlying28 hj hy0 hy1 hy2 rfl (by decide) _ _ _ rfl (hown.alloc _) ⟨wr.heap.size, 0, none⟩ 1 1 [.int .u64 t, .slice av nv cv] rfl rfl (World.news_of_block (cs := #[.int .u64 t, .slice av nv cv]) (t := 74) (fr := (0, 0)) (heap_newL wr _)) (fun x hx => by simp at hx; rcases hx with rfl | rfl <;> rfl) (by unfold maxLen; omega) (by omega) (by have := HGN.out.size; simp; omega) ?_)
          intro v' w5 hown' hgrow _
          have hrow : ∀ k, u3.ownBlock = some k → w.heap.size ≤ k ∧ k < wr.heap.size := hown.lt
          have hblk := owns_block hown
          have hne3 : ∀ k, u3.ownBlock = some k → ∃ cs T fr, (wr.alloc (.cells #[.int .u64 t, .slice av nv cv] 74)).heap[k]? = some (.cells cs T fr) ∧ T ≠ 3 := fun k hk => by
            obtain ⟨cs, fr, h1⟩ := hblk k hk
            exact ⟨cs, _, fr, (Below.heap_alloc _ _ _ (hrow k hk).2).trans h1, by decide⟩
          have HNOW : Hid (FreesNow w w5 b rb v' (acc ++ [⟨t, numsV j s2⟩]) (nSn j s2)) := by
            refine ⟨⟨by simp; omega, us ++ [.slice av nv cv], by simp [hus], ?_, fun i h1 h2 => ?_⟩, ?_, ?_⟩
            · rw [freeCells_snoc acc us _ _ hus]
              simpa [hacc] using hown'
            · by_cases hi2 : i < acc.length
              · have h3 : i < us.length := by omega
                rw [List.getElem_append_left hi2, List.getElem_append_left h3]
                exact ((HIA.out i hi2 h3).alloc _).ty hgrow hne3
              · have hi3 : i = acc.length := by simp at h1; omega
                subst hi3
                rw [List.getElem_append_right (Nat.le_refl _), List.getElem_append_right (by omega)]
                simp only [hus, Nat.sub_self, List.getElem_cons_zero]
                exact ((HIDS.out.mono hszw).alloc _).ty hgrow hne3
            · exact AtSt.grown (hat.out.alloc _) hgrow (fun e => by have := (hrow _ e).1; omega) (fun e => by have := (hrow _ e).1; omega)
            · exact grown_step (grown_new HGN.out _) hgrow (fun q hq => (hrow q hq).1)
          clear hown' hgrow hown hrow hblk hne3 cF
          go_wp2
          go_roundg g
          case measure => omega
          case rel => exact ⟨k + 1, acc ++ [⟨t, numsV j s2⟩], room - j, nSn j s2, by omega, by go_num, by go_num, by omega, by simp [hacc], HNOW, by show _ = _; rw [E1.out]; simp, E2⟩
        | succ g2 =>
          by_cases hl0 : left = 0
          · subst hl0
            go_wp2
            rw [Exit.noGoto_ret]
            go_ret
            refine ⟨_, rfl, ?_⟩
            have e1 : RV = acc := by rw [HRVE.out, if_neg (by omega)]
            have e2 : RS = nSn j s2 := by rw [HRSE.out, if_neg (by omega)]; congr 1; omega
            rw [e1, e2]
            exact ⟨HFR.out.lt hq.out (fun k hk => by cases hk; omega), hat.out, grown_trans HGR.out hq.out⟩
          · have hlB : ((left : Int) == 0) = false := by simp; omega
            obtain ⟨av, nv, cv, rfl⟩ := hids.slice
            have cF : wr.cell? ⟨F, 1, none⟩ = some (.slice av nv cv) := by rw [cell_rowL hF.out]; rfl
            have fF : wr.frozen? ⟨F, 1, none⟩ = false := frozen_rowL hF.out 1
            have HIDS := hid hids
            have HTN := hid (fun W (hW : AtSt W b rb (nSn j s2)) => takeNum_any b rb (nSn j s2) W hW)
            have HSN := hid (intCells_snoc j s2)
            have hjb : j ≤ 20 := by omega
            have HNL := hid (numsV_length j s2)
            clear hids
            generalize iV (nSn j s2) = NV at *
            go_wp2_with fail
            go_region_law (first
                | (refine step_append_lies _ (by rfl) _ _ _ (by rfl) W0.heap.size 3 i0 _ 1 8 Tryz.underlying23 hi hz0 hz1 hz2 rfl (by omega) (.slice av nv cv) j (intCells (numsV j s2)) (by rfl) (by have := hI4.1.alloc (.cells #[.int .i64 NV] 3); rw [HNL.out] at this; exact this) ⟨w4.heap.size, 0, none⟩ 1 1 [.int .i64 NV] (by rfl) (by rfl) (World.news_of_block (cs := #[.int .i64 NV]) (t := 3) (fr := (0, 0)) (heap_newL w4 _)) (by simp [Value.oneCell']) (by omega) (by unfold maxLen; omega) (by omega) (by have := hq4.size; simp; omega) (w4.heap.size + 1) (by simp) ?_
                   intro g5 cap5 w5 hown5 hgrow5 hat5 hlt5
                   have hneF : (Value.slice av nv cv).ownBlock ≠ some F := fun e => by
                     obtain ⟨cs, fr, h1⟩ := owns_block hI4.1 F e
                     rw [hF4] at h1
                     simp at h1
                   have hF5 : w5.heap[F]? = some (.cells #[.int .u64 t, .slice av nv cv] 74 (0, 0)) := (hgrow5.block F (by have := (Array.getElem?_eq_some_iff.1 hF4).1; simp; omega) (fun e => hneF e.symm)).trans ((Below.heap_alloc _ _ _ (Array.getElem?_eq_some_iff.1 hF4).1).trans hF4)
                   have cF5 : w5.cell? ⟨F, 1, none⟩ = some (.slice av nv cv) := by rw [cell_rowL hF5]; rfl
                   have fF5 : w5.frozen? ⟨F, 1, none⟩ = false := frozen_rowL hF5 1)
                | (go_simp
                   go_at_call 103
                   refine (HTN.out _ (AtSt.drew hat.out)).mono ?_
                   rintro e w4 ⟨rfl, hc4, hg4'⟩
                   have hg4 := grown_drew hg4'
                   have hF4 : w4.heap[F]? = some (.cells #[.int .u64 t, .slice av nv cv] 74 (0, 0)) := (hg4.block F hFlt (by simp; omega)).trans hF.out
                   have cF4 : w4.cell? ⟨F, 1, none⟩ = some (.slice av nv cv) := by rw [cell_rowL hF4]; rfl
                   have cFo4 : ∀ o, (w4.alloc o).cell? ⟨F, 1, none⟩ = some (.slice av nv cv) := fun o => (cell_rowL ((Below.heap_alloc _ _ _ (Array.getElem?_eq_some_iff.1 hF4).1).trans hF4) 1).trans rfl
                   have hI4 := OwnInts.lt HIDS.out hg4 (fun k hk => by cases hk; omega)
                   have hq4 := grown_trans hq.out hg4))
            all_goals
              have HF6 : Hid ((w5.setCell ⟨F, 1, none⟩ (.slice (some ⟨g5, 0, none⟩) (j + 1) cap5)).heap[F]? = some (.cells #[.int .u64 t, .slice (some ⟨g5, 0, none⟩) (j + 1) cap5] 74 (0, 0))) := by
                show _ = _
                rw [heap_setCell_same w5 F 1 _ _ _ hF5]
                rfl
              have HI6 : Hid (OwnInts (w5.setCell ⟨F, 1, none⟩ (.slice (some ⟨g5, 0, none⟩) (j + 1) cap5)) W0.heap.size (.slice (some ⟨g5, 0, none⟩) (j + 1) cap5) (numsV (j + 1) s2)) := by
                refine OwnInts.ty ⟨?_, by rw [numsV_length]; omega⟩ (grown_setCell w5 F 1 _) (fun k hk => by cases hk; exact ⟨_, _, _, hF5, by decide⟩)
                rw [numsV_length, HSN.out]
                exact hown5
              have hrow5 : ∀ k, (Value.slice av nv cv).ownBlock = some k → W0.heap.size ≤ k := fun k hk => (hI4.1.lt k hk).1
              have HA6 : Hid (AtSt (w5.setCell ⟨F, 1, none⟩ (.slice (some ⟨g5, 0, none⟩) (j + 1) cap5)) b rb (nSn (j + 1) s2)) :=
                (AtSt.grown (hc4.alloc _) hgrow5 (fun e => by have := hrow5 _ e; omega) (fun e => by have := hrow5 _ e; omega)).set (by omega) (by omega) _ _
              have HQ6 : Hid (W0.grownBy (w5.setCell ⟨F, 1, none⟩ (.slice (some ⟨g5, 0, none⟩) (j + 1) cap5)) (some b)) :=
                grown_set (grown_step (grown_new hq4 _) hgrow5 hrow5) F 1 hszF _
              clear hown5 hgrow5 hat5 hlt5 hneF hF5 cF5 fF5 hrow5 hc4 hg4 hg4' hF4 cF4 cFo4 hI4 hq4
              generalize (w5.setCell ⟨F, 1, none⟩ (.slice (some ⟨g5, 0, none⟩) (j + 1) cap5)) = W6 at *
              go_wp2
              go_roundg g2
              case measure => omega
              case rel => exact ⟨j + 1, left - 1, _, by omega, by go_num, by go_num, by omega, HF6, HI6.out, HA6, HQ6⟩
end Go.Proofs.YtpionokcabjokaaGreat
