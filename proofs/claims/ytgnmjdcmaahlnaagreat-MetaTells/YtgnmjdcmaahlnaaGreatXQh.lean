/- Contract of the reference Cut's page: branches. -/
import Derived.Test.YtgnmjdcmaahlnaaGreatXQf
import Derived.Deep.RegionLaw
namespace Go.Proofs.YtgnmjdcmaahlnaaGreat
open Go.RowKit Go.Sort

set_option maxRecDepth 10000 in
set_option maxHeartbeats 4000000 in
theorem rpage_2 (b : Nat) (s : St) (w : World) (h : RSt w b s) (hk : iR 6 s = 2) :
    Calls Tryz.prog 24 #[.pointer (some ⟨b, 0, none⟩)] w fun e w' => ∃ vi vk vd vv vf, e = .returned (.agg (pageCells (partR 2 (jS 6 s)).1 vi vk vd vv vf).toArray) ∧ HangsB w.heap.size w' (partR 2 (jS 6 s)).1 vi vk vd vv vf ∧ RSt w' b (partR 2 (jS 6 s)).2 ∧ w.grownBy w' (some b) := by
  have R0 := hid (RIn.first h 50 #[.int .i64 0, .slice none 0 0, .slice none 0 0, .slice none 0 0, .string ⟨#[]⟩, .slice none 0 0, .slice none 0 0, .int .i64 0, .int .u64 0, .int .i64 0, .int .i64 0, .int .i64 0, .int .i64 0, .int .i64 0])
  have H1 := hid (fun W (hW : RSt W b s) => rint_any b 6 s W hW (by omega))
  have hlt := h.lt
  rw [hk] at H1
  clear h hk
  generalize jS 6 s = s1 at *
  obtain ⟨i0, hi, hz0, hz1, hz2⟩ := info_parts Tryz.infoStr
  obtain ⟨j0, hj, hy0, hy1, hy2⟩ := info_parts Tryz.infoInt
  have H2 := hid (fun W (hW : RSt W b s1) => rint_any b 4 s1 W hW (by omega))
  have hXV : Hid ((partR 2 s1).1 = { noPage with kind := 2, keys := (kidsGo (iR 4 s1) (jS 4 s1)).1.1, kids := (kidsGo (iR 4 s1) (jS 4 s1)).1.2 }) := hid rfl
  have hXS : Hid ((partR 2 s1).2 = (kidsGo (iR 4 s1) (jS 4 s1)).2) := hid rfl
  have hn := iR_le 4 s1
  generalize iR 4 s1 = n at *
  generalize jS 4 s1 = s2 at *
  obtain ⟨VK, hVK⟩ : ∃ V, (kidsGo n s2).1.1 = V := ⟨_, rfl⟩
  obtain ⟨VD, hVD⟩ : ∃ V, (kidsGo n s2).1.2 = V := ⟨_, rfl⟩
  obtain ⟨S, hS⟩ : ∃ S, (kidsGo n s2).2 = S := ⟨_, rfl⟩
  rw [hVK, hVD] at hXV
  rw [hS] at hXS
  have HV0 : Hid (VK = [] ++ (kidsGo n s2).1.1 ∧ VD = [] ++ (kidsGo n s2).1.2 ∧ S = (kidsGo n s2).2) := hid ⟨hVK.symm, hVD.symm, hS.symm⟩
  clear hVK hVD hS
  go_enter Tryz.func24, Tryz.ntmps24
  go_wp2_with fail
  refine (H1.out _ R0.out.st).mono ?_
  rintro e w1 ⟨rfl, hc, hg⟩
  have R1 := hid (R0.out.call hc hg)
  clear hc hg R0 H1
  have P2 := hid (R1.out.beside #[.int .i64 ((2 : Nat) : Int), .slice none 0 0, .slice none 0 0, .slice none 0 0, .string ⟨#[]⟩, .slice none 0 0, .slice none 0 0, .int .i64 0, .int .u64 0, .int .i64 0, .int .i64 0, .int .i64 0, .int .i64 0, .int .i64 0])
  have R2 := hid (R1.out.alloc (.cells #[.int .i64 ((2 : Nat) : Int), .slice none 0 0, .slice none 0 0, .slice none 0 0, .string ⟨#[]⟩, .slice none 0 0, .slice none 0 0, .int .i64 0, .int .u64 0, .int .i64 0, .int .i64 0, .int .i64 0, .int .i64 0, .int .i64 0] 50))
  have hne : w1.heap.size ≠ w.heap.size := by have := R1.out.plt; omega
  have hle := R1.out.gr.size
  have hRlt := R1.out.plt
  clear R1
  go_wp2_with fail
  generalize (w1.alloc (.cells #[.int .i64 2, .slice none 0 0, .slice none 0 0, .slice none 0 0, .string ⟨#[]⟩, .slice none 0 0, .slice none 0 0, .int .i64 0, .int .u64 0, .int .i64 0, .int .i64 0, .int .i64 0, .int .i64 0, .int .i64 0] 50)) = W2 at *
  generalize w1.heap.size = P at *
  refine (H2.out _ P2.out.st).mono ?_
  rintro e w3 ⟨rfl, hc, hg⟩
  have P3 := hid (P2.out.call hc hg)
  have R3 := hid (R2.out.call hc hg)
  have cP := P3.out.cell
  clear hc hg P2 R2 H2
  go_wp2
  clear cP
  go_loopg [6] n (fun g i wr => ∃ (k : Nat) (ks : List ByteArray) (ds : List Int) (s3 : St) (vk vd : Value), k + g = n ∧ i = .int .i64 k ∧ ks.length = k ∧ ds.length = k ∧ Hid (VK = ks ++ (kidsGo g s3).1.1 ∧ VD = ds ++ (kidsGo g s3).1.2 ∧ S = (kidsGo g s3).2) ∧ Hid (RIn w wr b P 50 #[.int .i64 ((2 : Nat) : Int), .slice none 0 0, vk, vd, .string ⟨#[]⟩, .slice none 0 0, .slice none 0 0, .int .i64 0, .int .u64 0, .int .i64 0, .int .i64 0, .int .i64 0, .int .i64 0, .int .i64 0] s3) ∧ Hid (RIn w wr b w.heap.size 50 #[.int .i64 0, .slice none 0 0, .slice none 0 0, .slice none 0 0, .string ⟨#[]⟩, .slice none 0 0, .slice none 0 0, .int .i64 0, .int .u64 0, .int .i64 0, .int .i64 0, .int .i64 0, .int .i64 0, .int .i64 0] s3) ∧ Hid (OwnStrs wr w.heap.size vk ks) ∧ Hid (OwnInts wr w.heap.size vd ds))
  case atStart => exact ⟨0, [], [], s2, _, _, by omega, rfl, rfl, rfl, HV0, P3, R3, ownStrs_nil _ _, ownInts_nil _ _⟩
  case round =>
    obtain ⟨k, ks, ds, s3, vk, vd, hk, rfl, hks, hds, hrv, hP, hR, hO, hD⟩ := hrel
    clear P3 R3 HV0
    obtain ⟨av, nv, cv, hvi⟩ := hO.out.slice
    subst hvi
    obtain ⟨bv, mv, dv, hvd⟩ := hD.out.slice
    subst hvd
    obtain ⟨hc0, hc1, hf0, hf1⟩ := cells_ref hP.out.st.1
    have hbl := hP.out.st.lt
    obtain ⟨l3, sh3⟩ := s3
    have hgo : Hid (gk = 0 ∨ sh3 = true) ∨ ∃ g, gk = g + 1 ∧ sh3 = false := by
      cases gk with
      | zero => exact .inl (hid (.inl rfl))
      | succ g =>
        cases sh3 with
        | true => exact .inl (hid (.inr rfl))
        | false => exact .inr ⟨g, rfl, rfl⟩
    rcases hgo with hgo | ⟨g, rfl, rfl⟩
    · have hend : VK = ks ∧ VD = ds ∧ S = (l3, sh3) := by
        have h1 := hrv.out.1
        have h2 := hrv.out.2.1
        have h3 := hrv.out.2.2
        rcases hgo.out with rfl | rfl
        · exact ⟨by rw [h1]; simp [kidsGo], by rw [h2]; simp [kidsGo], by rw [h3]; rfl⟩
        · cases gk with
          | zero => exact ⟨by rw [h1]; simp [kidsGo], by rw [h2]; simp [kidsGo], by rw [h3]; rfl⟩
          | succ q => exact ⟨by rw [h1]; simp [kidsGo], by rw [h2]; simp [kidsGo], by rw [h3]; simp [kidsGo]⟩
      have hjm : (gk = 0 ∧ k = n) ∨ (sh3 = true ∧ k < n) ∨ (sh3 = true ∧ k = n) := by
        rcases hgo.out with h | h
        · exact .inl ⟨h, by omega⟩
        · by_cases hj3 : k < n
          · exact .inr (.inl ⟨h, hj3⟩)
          · exact .inr (.inr ⟨h, by omega⟩)
      have HS9 : Hid (RSt wr b S) := hid (by rw [hend.2.2]; exact hR.out.st)
      have HG9 := hid hR.out.gr
      have HO9 : Hid (∀ W', wr.grownBy W' (some w.heap.size) → OwnStrs W' w.heap.size (.slice av nv cv) VK) := hid (fun W' hg => by rw [hend.1]; exact hO.out.ty hg (fun q hq => by cases hq; exact ⟨_, _, _, hR.out.own, by decide⟩))
      have HD9 : Hid (∀ W', wr.grownBy W' (some w.heap.size) → OwnInts W' w.heap.size (.slice bv mv dv) VD) := hid (fun W' hg => by rw [hend.2.1]; exact hD.out.ty hg (fun q hq => by cases hq; exact ⟨_, _, _, hR.out.own, by decide⟩))
      have cP := hP.out.cell
      have fP := hP.out.frozen
      have cR := hR.out.cell
      have fR := hR.out.frozen
      clear hend hrv hP hR hO hD
      rcases hjm with ⟨hg0, rfl⟩ | ⟨rfl, hjm⟩ | ⟨rfl, rfl⟩
      all_goals
        go_wp2
        refine bodyPost_ret (v := .agg #[.int .i64 2, .slice none 0 0, .slice av nv cv, .slice bv mv dv, .string ⟨#[]⟩, .slice none 0 0, .slice none 0 0, .int .i64 0, .int .u64 0, .int .i64 0, .int .i64 0, .int .i64 0, .int .i64 0, .int .i64 0]) (by simp [results, Tryz.results24, go_sem, cR]) rfl ⟨.slice none 0 0, .slice av nv cv, .slice bv mv dv, .slice none 0 0, .slice none 0 0, by rw [hXV.out]; rfl, ?_, ?_, ?_⟩
        · rw [hXV.out]
          refine fun _ ha => ⟨items_nil _, ((HO9.out _ ?_).agree ha).strs, ((HD9.out _ ?_).agree ha).ints, text_nil_le, strs_nil _, frees_nil _⟩
          all_goals
            repeat (refine grown_trans ?_ (grown_setCell _ _ _ _))
            exact grown_refl _ _
        · rw [hXS.out]
          repeat (refine RSt.set ?_ (by omega) _ _)
          exact HS9.out
        · repeat (refine grown_set ?_ _ _ (by omega) _)
          exact HG9.out
    · have hlk : k < n := by omega
      have hrv2 : VK = (ks ++ [tV (l3, false)]) ++ (kidsGo g (jS 400 (tS (l3, false)))).1.1 ∧ VD = (ds ++ [(iR 400 (tS (l3, false)) : Int)]) ++ (kidsGo g (jS 400 (tS (l3, false)))).1.2 ∧ S = (kidsGo g (jS 400 (tS (l3, false)))).2 := by
        have h1 := hrv.out.1
        have h2 := hrv.out.2.1
        have h3 := hrv.out.2.2
        simp only [kidsGo] at h1 h2 h3
        exact ⟨by simpa using h1, by simpa using h2, by simpa using h3⟩
      have HTI := hid (fun W (hW : RSt W b (l3, false)) => rtextC_any b (l3, false) W hW)
      have HTN := hid (fun W (hW : RSt W b (tS (l3, false))) => rint_any b 400 _ W hW (by omega))
      have HTZ := hid (tV_size (l3, false))
      generalize tV (l3, false) = T at *
      generalize tS (l3, false) = sx at *
      generalize iR 400 sx = D at *
      generalize jS 400 sx = s4 at *
      replace hrv2 := hid hrv2
      have hszw := hP.out.gr.size
      have HOW : Hid (wr.ownsRow w.heap.size 9 1 (.slice av nv cv) k (strCellsL ks)) := hid (by have := hO.out.1; rwa [hks] at this)
      have HOZ := hid hO.out.2
      have cP : wr.cell? ⟨P, 2, none⟩ = some (.slice av nv cv) := (hP.out.cell 2).trans rfl
      clear hrv
      go_wp2_with fail
      go_region_law (first
        | (refine step_append_lies _ (by rfl) _ _ _ (by rfl) w.heap.size 9 i0 _ 1 16 Tryz.underlying46 hi hz0 hz1 hz2 rfl (by omega) (.slice av nv cv) k (strCellsL ks) (by rfl) (hown5.alloc _) ⟨w5.heap.size, 0, none⟩ 1 1 [.string T] (by rfl) (by rfl) (World.news_of_block (cs := #[.string T]) (t := 9) (fr := (0, 0)) (heap_newL w5 _)) (by simp [Value.oneCell']) (by omega) (by unfold maxLen; omega) (by omega) (by have := HP5.out.gr.size; simp; omega) (w5.heap.size + 1) (by simp) ?_
           intro g6 cap6 w6 hown6 hgrow6 hat6 hlt6
           have hne6 : ∀ k, (Value.slice av nv cv).ownBlock = some k → w.heap.size ≤ k ∧ ∃ cs T' fr, (w5.alloc (.cells #[.string T] 9)).heap[k]? = some (.cells cs T' fr) ∧ T' = 9 := fun q hq => by
             obtain ⟨cs, fr, h1⟩ := owns_block hown5 q hq
             exact ⟨(hown5.lt q hq).1, cs, _, fr, (Below.heap_alloc _ _ _ (hown5.lt q hq).2).trans h1, rfl⟩
           have HP6 := hid ((HP5.out.alloc _).row hgrow6 (fun q hq => by obtain ⟨a, cs, T, fr, h1, h2⟩ := hne6 q hq; exact ⟨a, cs, T, fr, h1, by rw [h2]; decide⟩))
           have HR6 := hid ((HR5.out.alloc (.cells #[.string T] 9)).row hgrow6 (fun q hq => by obtain ⟨a, cs, T, fr, h1, h2⟩ := hne6 q hq; exact ⟨a, cs, T, fr, h1, by rw [h2]; decide⟩))
           have cP6 := HP6.out.cell
           have fP6 := HP6.out.frozen)
        | (go_simp
           go_at_call 42
           refine (HTI.out _ (RSt.drew hP.out.st)).mono ?_
           rintro e w5 ⟨rfl, hc5, hg5'⟩
           have hg5 := grown_drew hg5'
           have HP5 := hid (hP.out.call hc5 hg5)
           have HR5 := hid (hR.out.call hc5 hg5)
           have hown5 := owns_kept_lt HOW.out hg5 (fun q hq => by cases hq; exact hlt)
           have HD5 := hid (hD.out.lt hg5 (fun q hq => by cases hq; exact hlt))
           have cP5 := HP5.out.cell
           have cPo5 := fun o => (HP5.out.alloc o).cell))
      all_goals
        have HP7 : Hid (RIn w (w6.setCell ⟨P, 2, none⟩ (.slice (some ⟨g6, 0, none⟩) (k + 1) cap6)) b P 50 #[.int .i64 ((2 : Nat) : Int), .slice none 0 0, .slice (some ⟨g6, 0, none⟩) (k + 1) cap6, .slice bv mv dv, .string ⟨#[]⟩, .slice none 0 0, .slice none 0 0, .int .i64 0, .int .u64 0, .int .i64 0, .int .i64 0, .int .i64 0, .int .i64 0, .int .i64 0] sx) := HP6.out.set 2 _
        have HR7 := hid (HR6.out.other P 2 (.slice (some ⟨g6, 0, none⟩) (k + 1) cap6) hne hle)
        have HO7 : Hid (OwnStrs (w6.setCell ⟨P, 2, none⟩ (.slice (some ⟨g6, 0, none⟩) (k + 1) cap6)) w.heap.size (.slice (some ⟨g6, 0, none⟩) (k + 1) cap6) (ks ++ [T])) := by
          refine OwnStrs.setNe ⟨?_, by simp; omega, ?_⟩ HP6.out.own (by decide) 2 _
          · rw [List.length_append, hks]
            simpa [strCellsL] using hown6
          · intro x hx
            rcases List.mem_append.1 hx with hx | hx
            · exact HOZ.out.2 x hx
            · rw [List.mem_singleton.1 hx]
              exact HTZ.out
        have HD7 : Hid (OwnInts (w6.setCell ⟨P, 2, none⟩ (.slice (some ⟨g6, 0, none⟩) (k + 1) cap6)) w.heap.size (.slice bv mv dv) ds) :=
          ((HD5.out.alloc _).ty hgrow6 (fun q hq => by obtain ⟨a, cs, T, fr, h1, h2⟩ := hne6 q hq; exact ⟨cs, T, fr, h1, by rw [h2]; decide⟩)).ty (grown_setCell w6 P 2 _) (fun q hq => by cases hq; exact ⟨_, _, _, HP6.out.own, by decide⟩)
        clear hown6 hgrow6 hat6 hlt6 hne6 HP6 HR6 cP6 fP6 hc5 hg5 hg5' HP5 HR5 hown5 HD5 cP5 cPo5 cP
        generalize (w6.setCell ⟨P, 2, none⟩ (.slice (some ⟨g6, 0, none⟩) (k + 1) cap6)) = W7 at *
        have cQ : W7.cell? ⟨P, 3, none⟩ = some (.slice bv mv dv) := (HP7.out.cell 3).trans rfl
        have HDW : Hid (W7.ownsRow w.heap.size 3 1 (.slice bv mv dv) k (intCells ds)) := hid (by have := HD7.out.1; rwa [hds] at this)
        go_wp2_with fail
        go_region_law (first
          | (refine step_append_lies _ (by rfl) _ _ _ (by rfl) w.heap.size 3 j0 _ 1 8 Tryz.underlying47 hj hy0 hy1 hy2 rfl (by omega) (.slice bv mv dv) k (intCells ds) (by rfl) (hown5.alloc _) ⟨w5.heap.size, 0, none⟩ 1 1 [.int .i64 D] (by rfl) (by rfl) (World.news_of_block (cs := #[.int .i64 D]) (t := 3) (fr := (0, 0)) (heap_newL w5 _)) (by simp [Value.oneCell']) (by omega) (by unfold maxLen; omega) (by omega) (by have := HP5.out.gr.size; simp; omega) (w5.heap.size + 1) (by simp) ?_
             intro h6 dap6 w6 hown6 hgrow6 hat6 hlt6
             have hne6 : ∀ k, (Value.slice bv mv dv).ownBlock = some k → w.heap.size ≤ k ∧ ∃ cs T' fr, (w5.alloc (.cells #[.int .i64 D] 3)).heap[k]? = some (.cells cs T' fr) ∧ T' = 3 := fun q hq => by
               obtain ⟨cs, fr, h1⟩ := owns_block hown5 q hq
               exact ⟨(hown5.lt q hq).1, cs, _, fr, (Below.heap_alloc _ _ _ (hown5.lt q hq).2).trans h1, rfl⟩
             have HP6 := hid ((HP5.out.alloc _).row hgrow6 (fun q hq => by obtain ⟨a, cs, T, fr, h1, h2⟩ := hne6 q hq; exact ⟨a, cs, T, fr, h1, by rw [h2]; decide⟩))
             have HR6 := hid ((HR5.out.alloc (.cells #[.int .i64 D] 3)).row hgrow6 (fun q hq => by obtain ⟨a, cs, T, fr, h1, h2⟩ := hne6 q hq; exact ⟨a, cs, T, fr, h1, by rw [h2]; decide⟩))
             have cP6 := HP6.out.cell
             have fP6 := HP6.out.frozen)
          | (go_simp
             go_at_call 40
             refine (HTN.out _ (RSt.drew HP7.out.st)).mono ?_
             rintro e w5 ⟨rfl, hc5, hg5'⟩
             have hg5 := grown_drew hg5'
             have HP5 := hid (HP7.out.call hc5 hg5)
             have HR5 := hid (HR7.out.call hc5 hg5)
             have hown5 := owns_kept_lt HDW.out hg5 (fun q hq => by cases hq; exact hlt)
             have HO5 := hid (HO7.out.kept hg5 (fun q hq => by cases hq; exact hlt))
             have cP5 := HP5.out.cell
             have cPo5 := fun o => (HP5.out.alloc o).cell))
        all_goals
          have HP8 : Hid (RIn w (w6.setCell ⟨P, 3, none⟩ (.slice (some ⟨h6, 0, none⟩) (k + 1) dap6)) b P 50 #[.int .i64 ((2 : Nat) : Int), .slice none 0 0, .slice (some ⟨g6, 0, none⟩) (k + 1) cap6, .slice (some ⟨h6, 0, none⟩) (k + 1) dap6, .string ⟨#[]⟩, .slice none 0 0, .slice none 0 0, .int .i64 0, .int .u64 0, .int .i64 0, .int .i64 0, .int .i64 0, .int .i64 0, .int .i64 0] s4) := HP6.out.set 3 _
          have HR8 := hid (HR6.out.other P 3 (.slice (some ⟨h6, 0, none⟩) (k + 1) dap6) hne hle)
          have HD8 : Hid (OwnInts (w6.setCell ⟨P, 3, none⟩ (.slice (some ⟨h6, 0, none⟩) (k + 1) dap6)) w.heap.size (.slice (some ⟨h6, 0, none⟩) (k + 1) dap6) (ds ++ [(D : Int)])) := by
            refine OwnInts.ty ⟨?_, by simp; omega⟩ (grown_setCell w6 P 3 _) (fun q hq => by cases hq; exact ⟨_, _, _, HP6.out.own, by decide⟩)
            rw [List.length_append, hds]
            simpa [intCells] using hown6
          have HO8 : Hid (OwnStrs (w6.setCell ⟨P, 3, none⟩ (.slice (some ⟨h6, 0, none⟩) (k + 1) dap6)) w.heap.size (.slice (some ⟨g6, 0, none⟩) (k + 1) cap6) (ks ++ [T])) :=
            ((HO5.out.alloc _).ty hgrow6 (fun q hq => by obtain ⟨a, cs, T, fr, h1, h2⟩ := hne6 q hq; exact ⟨cs, T, fr, h1, by rw [h2]; decide⟩)).setNe HP6.out.own (by decide) 3 _
          clear hown6 hgrow6 hat6 hlt6 hne6 HP6 HR6 cP6 fP6 hc5 hg5 hg5' HP5 HR5 hown5 HO5 cP5 cPo5 cQ
          generalize (w6.setCell ⟨P, 3, none⟩ (.slice (some ⟨h6, 0, none⟩) (k + 1) dap6)) = W8 at *
          go_wp2
          go_roundg g
          case rel => exact ⟨k + 1, _, _, s4, _, _, by omega, by go_num, by simp [hks], by simp [hds], hrv2, HP8, HR8, HO8, HD8⟩
          case measure => omega
end Go.Proofs.YtgnmjdcmaahlnaaGreat
