/- Contract of the reference Cut's page: what is no page; leaves. -/
import Derived.Test.YtgnmjdcmaahlnaaGreatXQf
import Derived.Deep.RegionLaw
namespace Go.Proofs.YtgnmjdcmaahlnaaGreat
open Go.RowKit Go.Sort

set_option maxRecDepth 10000 in
set_option maxHeartbeats 4000000 in
theorem rpage_0 (b : Nat) (s : St) (w : World) (h : RSt w b s) (hk : iR 6 s = 0) :
    Calls Tryz.prog 24 #[.pointer (some ⟨b, 0, none⟩)] w fun e w' => ∃ vi vk vd vv vf, e = .returned (.agg (pageCells (partR 0 (jS 6 s)).1 vi vk vd vv vf).toArray) ∧ HangsB w.heap.size w' (partR 0 (jS 6 s)).1 vi vk vd vv vf ∧ RSt w' b (partR 0 (jS 6 s)).2 ∧ w.grownBy w' (some b) := by
  have R0 := hid (RIn.first h 50 #[.int .i64 0, .slice none 0 0, .slice none 0 0, .slice none 0 0, .string ⟨#[]⟩, .slice none 0 0, .slice none 0 0, .int .i64 0, .int .u64 0, .int .i64 0, .int .i64 0, .int .i64 0, .int .i64 0, .int .i64 0])
  have H1 := hid (fun W (hW : RSt W b s) => rint_any b 6 s W hW (by omega))
  have hlt := h.lt
  rw [hk] at H1
  clear h hk
  generalize jS 6 s = s1 at *
  have hXV : Hid ((partR 0 s1).1 = { noPage with kind := 0 }) := hid rfl
  have hXS : Hid ((partR 0 s1).2 = s1) := hid rfl
  go_enter Tryz.func24, Tryz.ntmps24
  go_wp2_with fail
  refine (H1.out _ R0.out.st).mono ?_
  rintro e w1 ⟨rfl, hc, hg⟩
  have R1 := hid (R0.out.call hc hg)
  clear hc hg R0 H1
  have cR := R1.out.cell
  have fR := R1.out.frozen
  have hRlt := R1.out.plt
  go_wp2
  have HS3 : Hid (RSt ((((((((((((((w1.setCell ⟨w.heap.size, 0, none⟩ (.int .i64 0)).setCell ⟨w.heap.size, 1, none⟩ (.slice none 0 0)).setCell ⟨w.heap.size, 2, none⟩ (.slice none 0 0)).setCell ⟨w.heap.size, 3, none⟩ (.slice none 0 0)).setCell ⟨w.heap.size, 4, none⟩ (.string ⟨#[]⟩)).setCell ⟨w.heap.size, 5, none⟩ (.slice none 0 0)).setCell ⟨w.heap.size, 6, none⟩ (.slice none 0 0)).setCell ⟨w.heap.size, 7, none⟩ (.int .i64 0)).setCell ⟨w.heap.size, 8, none⟩ (.int .u64 0)).setCell ⟨w.heap.size, 9, none⟩ (.int .i64 0)).setCell ⟨w.heap.size, 10, none⟩ (.int .i64 0)).setCell ⟨w.heap.size, 11, none⟩ (.int .i64 0)).setCell ⟨w.heap.size, 12, none⟩ (.int .i64 0)).setCell ⟨w.heap.size, 13, none⟩ (.int .i64 0)) b s1) := by
    show RSt _ _ _
    repeat (refine RSt.set ?_ (by omega) _ _)
    exact R1.out.st
  have HG3 : Hid (w.grownBy ((((((((((((((w1.setCell ⟨w.heap.size, 0, none⟩ (.int .i64 0)).setCell ⟨w.heap.size, 1, none⟩ (.slice none 0 0)).setCell ⟨w.heap.size, 2, none⟩ (.slice none 0 0)).setCell ⟨w.heap.size, 3, none⟩ (.slice none 0 0)).setCell ⟨w.heap.size, 4, none⟩ (.string ⟨#[]⟩)).setCell ⟨w.heap.size, 5, none⟩ (.slice none 0 0)).setCell ⟨w.heap.size, 6, none⟩ (.slice none 0 0)).setCell ⟨w.heap.size, 7, none⟩ (.int .i64 0)).setCell ⟨w.heap.size, 8, none⟩ (.int .u64 0)).setCell ⟨w.heap.size, 9, none⟩ (.int .i64 0)).setCell ⟨w.heap.size, 10, none⟩ (.int .i64 0)).setCell ⟨w.heap.size, 11, none⟩ (.int .i64 0)).setCell ⟨w.heap.size, 12, none⟩ (.int .i64 0)).setCell ⟨w.heap.size, 13, none⟩ (.int .i64 0)) (some b)) := by
    show World.grownBy _ _ _
    repeat (refine grown_set ?_ _ _ (by omega) _)
    exact R1.out.gr
  have hY2 : ((((((((((((((w1.setCell ⟨w.heap.size, 0, none⟩ (.int .i64 0)).setCell ⟨w.heap.size, 1, none⟩ (.slice none 0 0)).setCell ⟨w.heap.size, 2, none⟩ (.slice none 0 0)).setCell ⟨w.heap.size, 3, none⟩ (.slice none 0 0)).setCell ⟨w.heap.size, 4, none⟩ (.string ⟨#[]⟩)).setCell ⟨w.heap.size, 5, none⟩ (.slice none 0 0)).setCell ⟨w.heap.size, 6, none⟩ (.slice none 0 0)).setCell ⟨w.heap.size, 7, none⟩ (.int .i64 0)).setCell ⟨w.heap.size, 8, none⟩ (.int .u64 0)).setCell ⟨w.heap.size, 9, none⟩ (.int .i64 0)).setCell ⟨w.heap.size, 10, none⟩ (.int .i64 0)).setCell ⟨w.heap.size, 11, none⟩ (.int .i64 0)).setCell ⟨w.heap.size, 12, none⟩ (.int .i64 0)).setCell ⟨w.heap.size, 13, none⟩ (.int .i64 0)).heap[w.heap.size]? = some (.cells #[.int .i64 0, .slice none 0 0, .slice none 0 0, .slice none 0 0, .string ⟨#[]⟩, .slice none 0 0, .slice none 0 0, .int .i64 0, .int .u64 0, .int .i64 0, .int .i64 0, .int .i64 0, .int .i64 0, .int .i64 0] 50 (0, 0)) := by
    simp [World.setCell, Array.getElem?_modify, R1.out.own]
  generalize ((((((((((((((w1.setCell ⟨w.heap.size, 0, none⟩ (.int .i64 0)).setCell ⟨w.heap.size, 1, none⟩ (.slice none 0 0)).setCell ⟨w.heap.size, 2, none⟩ (.slice none 0 0)).setCell ⟨w.heap.size, 3, none⟩ (.slice none 0 0)).setCell ⟨w.heap.size, 4, none⟩ (.string ⟨#[]⟩)).setCell ⟨w.heap.size, 5, none⟩ (.slice none 0 0)).setCell ⟨w.heap.size, 6, none⟩ (.slice none 0 0)).setCell ⟨w.heap.size, 7, none⟩ (.int .i64 0)).setCell ⟨w.heap.size, 8, none⟩ (.int .u64 0)).setCell ⟨w.heap.size, 9, none⟩ (.int .i64 0)).setCell ⟨w.heap.size, 10, none⟩ (.int .i64 0)).setCell ⟨w.heap.size, 11, none⟩ (.int .i64 0)).setCell ⟨w.heap.size, 12, none⟩ (.int .i64 0)).setCell ⟨w.heap.size, 13, none⟩ (.int .i64 0)) = Y at *
  have hY3 : ∀ o j, (Y.alloc o).cell? ⟨w.heap.size, j, none⟩ = (#[.int .i64 0, .slice none 0 0, .slice none 0 0, .slice none 0 0, .string ⟨#[]⟩, .slice none 0 0, .slice none 0 0, .int .i64 0, .int .u64 0, .int .i64 0, .int .i64 0, .int .i64 0, .int .i64 0, .int .i64 0] : Array Value)[j]? := fun o j => by
    rw [← cell_rowL hY2 j]
    exact World.cell?_of_block (a := ⟨w.heap.size, j, none⟩) (Below.heap_alloc _ _ _ (Array.getElem?_eq_some_iff.1 hY2).1)
  refine bodyPost_ret (v := .agg #[.int .i64 0, .slice none 0 0, .slice none 0 0, .slice none 0 0, .string ⟨#[]⟩, .slice none 0 0, .slice none 0 0, .int .i64 0, .int .u64 0, .int .i64 0, .int .i64 0, .int .i64 0, .int .i64 0, .int .i64 0]) (by simp [results, Tryz.results24, go_sem, hY3]) rfl ⟨.slice none 0 0, .slice none 0 0, .slice none 0 0, .slice none 0 0, .slice none 0 0, by rw [hXV.out]; rfl, ?_, ?_, grown_new HG3.out _⟩
  · rw [hXV.out]
    exact fun _ _ => ⟨items_nil _, strs_nil _, ints_nil _, text_nil_le, strs_nil _, frees_nil _⟩
  · rw [hXS.out]
    exact HS3.out.alloc _

theorem itemR_sizes (s : St) : (itemR s).key.size ≤ 65535 ∧ (itemR s).val.size ≤ 65535 := by
  have h1 := tV_size s
  have h2 := tV_size (jS 4 (tS s))
  have hz : (⟨#[]⟩ : ByteArray).size = 0 := rfl
  unfold itemR
  split
  · exact ⟨h1, h2⟩
  split
  · exact ⟨h1, by rw [noItem, hz]; omega⟩
  split
  · exact ⟨h1, by rw [noItem, hz]; omega⟩
  split
  · exact ⟨h1, by rw [noItem, hz]; omega⟩
  · exact ⟨h1, by rw [noItem, hz]; omega⟩
set_option maxRecDepth 10000 in
set_option maxHeartbeats 4000000 in
theorem rpage_1 (b : Nat) (s : St) (w : World) (h : RSt w b s) (hk : iR 6 s = 1) :
    Calls Tryz.prog 24 #[.pointer (some ⟨b, 0, none⟩)] w fun e w' => ∃ vi vk vd vv vf, e = .returned (.agg (pageCells (partR 1 (jS 6 s)).1 vi vk vd vv vf).toArray) ∧ HangsB w.heap.size w' (partR 1 (jS 6 s)).1 vi vk vd vv vf ∧ RSt w' b (partR 1 (jS 6 s)).2 ∧ w.grownBy w' (some b) := by
  have R0 := hid (RIn.first h 50 #[.int .i64 0, .slice none 0 0, .slice none 0 0, .slice none 0 0, .string ⟨#[]⟩, .slice none 0 0, .slice none 0 0, .int .i64 0, .int .u64 0, .int .i64 0, .int .i64 0, .int .i64 0, .int .i64 0, .int .i64 0])
  have H1 := hid (fun W (hW : RSt W b s) => rint_any b 6 s W hW (by omega))
  have hlt := h.lt
  rw [hk] at H1
  clear h hk
  generalize jS 6 s = s1 at *
  obtain ⟨i0, hi, hz0, hz1, hz2⟩ := info_parts Tryz.infoItem
  have H2 := hid (fun W (hW : RSt W b s1) => rint_any b 4 s1 W hW (by omega))
  have hXV : Hid ((partR 1 s1).1 = { noPage with kind := 1, items := (itemsGo (iR 4 s1) (jS 4 s1)).1 }) := hid rfl
  have hXS : Hid ((partR 1 s1).2 = (itemsGo (iR 4 s1) (jS 4 s1)).2) := hid rfl
  have hn := iR_le 4 s1
  generalize iR 4 s1 = n at *
  generalize jS 4 s1 = s2 at *
  obtain ⟨V, hV⟩ : ∃ V, (itemsGo n s2).1 = V := ⟨_, rfl⟩
  obtain ⟨S, hS⟩ : ∃ S, (itemsGo n s2).2 = S := ⟨_, rfl⟩
  rw [hV] at hXV
  rw [hS] at hXS
  replace hV := hid hV
  replace hS := hid hS
  go_enter Tryz.func24, Tryz.ntmps24
  go_wp2_with fail
  refine (H1.out _ R0.out.st).mono ?_
  rintro e w1 ⟨rfl, hc, hg⟩
  have R1 := hid (R0.out.call hc hg)
  clear hc hg R0 H1
  have P2 := hid (R1.out.beside #[.int .i64 ((1 : Nat) : Int), .slice none 0 0, .slice none 0 0, .slice none 0 0, .string ⟨#[]⟩, .slice none 0 0, .slice none 0 0, .int .i64 0, .int .u64 0, .int .i64 0, .int .i64 0, .int .i64 0, .int .i64 0, .int .i64 0])
  have R2 := hid (R1.out.alloc (.cells #[.int .i64 ((1 : Nat) : Int), .slice none 0 0, .slice none 0 0, .slice none 0 0, .string ⟨#[]⟩, .slice none 0 0, .slice none 0 0, .int .i64 0, .int .u64 0, .int .i64 0, .int .i64 0, .int .i64 0, .int .i64 0, .int .i64 0] 50))
  have hne : w1.heap.size ≠ w.heap.size := by have := R1.out.plt; omega
  have hle := R1.out.gr.size
  have hRlt := R1.out.plt
  clear R1
  go_wp2_with fail
  generalize (w1.alloc (.cells #[.int .i64 1, .slice none 0 0, .slice none 0 0, .slice none 0 0, .string ⟨#[]⟩, .slice none 0 0, .slice none 0 0, .int .i64 0, .int .u64 0, .int .i64 0, .int .i64 0, .int .i64 0, .int .i64 0, .int .i64 0] 50)) = W2 at *
  generalize w1.heap.size = P at *
  refine (H2.out _ P2.out.st).mono ?_
  rintro e w3 ⟨rfl, hc, hg⟩
  have P3 := hid (P2.out.call hc hg)
  have R3 := hid (R2.out.call hc hg)
  have cP := P3.out.cell
  clear hc hg P2 R2 H2
  go_wp2
  clear cP
  go_loopg [5] n (fun g i wr => ∃ (k : Nat) (acc : List ItemD) (s3 : St) (vi : Value), k + g = n ∧ i = .int .i64 k ∧ acc.length = k ∧ Hid (V = acc ++ (itemsGo g s3).1 ∧ S = (itemsGo g s3).2) ∧ Hid (RIn w wr b P 50 #[.int .i64 ((1 : Nat) : Int), vi, .slice none 0 0, .slice none 0 0, .string ⟨#[]⟩, .slice none 0 0, .slice none 0 0, .int .i64 0, .int .u64 0, .int .i64 0, .int .i64 0, .int .i64 0, .int .i64 0, .int .i64 0] s3) ∧ Hid (RIn w wr b w.heap.size 50 #[.int .i64 0, .slice none 0 0, .slice none 0 0, .slice none 0 0, .string ⟨#[]⟩, .slice none 0 0, .slice none 0 0, .int .i64 0, .int .u64 0, .int .i64 0, .int .i64 0, .int .i64 0, .int .i64 0, .int .i64 0] s3) ∧ Hid (OwnItems wr w.heap.size vi acc))
  case atStart => exact ⟨0, [], s2, _, by omega, rfl, rfl, hid ⟨hV.out.symm, hS.out.symm⟩, P3, R3, ownItems_nil _ _⟩
  case round =>
    obtain ⟨k, acc, s3, vi, hk, rfl, hacc, hrv, hP, hR, hO⟩ := hrel
    clear P3 R3 hV hS
    obtain ⟨av, nv, cv, hvi⟩ := hO.out.slice
    subst hvi
    obtain ⟨hc0, hc1, hf0, hf1⟩ := cells_ref hP.out.st.1
    have hbl := hP.out.st.lt
    obtain ⟨l3, sh3⟩ := s3
    have hgo : Hid (gk = 0 ∨ sh3 = true) ∨ ∃ g, gk = g + 1 ∧ sh3 = false := by
      cases gk with
      | zero => exact .inl (hid (.inl rfl))
      | succ g =>
        cases sh3 with
        | true => exact .inl (hid (.inr rfl))
        | false => exact .inr ⟨g, rfl, rfl⟩
    rcases hgo with hgo | ⟨g, rfl, rfl⟩
    · have hend : V = acc ∧ S = (l3, sh3) := by
        have h1 := hrv.out.1
        have h2 := hrv.out.2
        rcases hgo.out with rfl | rfl
        · exact ⟨by rw [h1]; simp [itemsGo], by rw [h2]; rfl⟩
        · cases gk with
          | zero => exact ⟨by rw [h1]; simp [itemsGo], by rw [h2]; rfl⟩
          | succ q => exact ⟨by rw [h1]; simp [itemsGo], by rw [h2]; simp [itemsGo]⟩
      have hjm : (gk = 0 ∧ k = n) ∨ (sh3 = true ∧ k < n) ∨ (sh3 = true ∧ k = n) := by
        rcases hgo.out with h | h
        · exact .inl ⟨h, by omega⟩
        · by_cases hj3 : k < n
          · exact .inr (.inl ⟨h, hj3⟩)
          · exact .inr (.inr ⟨h, by omega⟩)
      have HS9 : Hid (RSt wr b S) := hid (by rw [hend.2]; exact hR.out.st)
      have HG9 := hid hR.out.gr
      have HO9 : Hid (∀ W', wr.grownBy W' (some w.heap.size) → OwnItems W' w.heap.size (.slice av nv cv) V) := hid (fun W' hg => by rw [hend.1]; exact hO.out.ty hg (fun q hq => by cases hq; exact ⟨_, _, _, hR.out.own, by decide, by decide⟩))
      have cP := hP.out.cell
      have fP := hP.out.frozen
      have cR := hR.out.cell
      have fR := hR.out.frozen
      clear hend hrv hP hR hO
      rcases hjm with ⟨hg0, rfl⟩ | ⟨rfl, hjm⟩ | ⟨rfl, rfl⟩
      all_goals
        go_wp2
        refine bodyPost_ret (v := .agg #[.int .i64 1, .slice av nv cv, .slice none 0 0, .slice none 0 0, .string ⟨#[]⟩, .slice none 0 0, .slice none 0 0, .int .i64 0, .int .u64 0, .int .i64 0, .int .i64 0, .int .i64 0, .int .i64 0, .int .i64 0]) (by simp [results, Tryz.results24, go_sem, cR]) rfl ⟨.slice av nv cv, .slice none 0 0, .slice none 0 0, .slice none 0 0, .slice none 0 0, by rw [hXV.out]; rfl, ?_, ?_, ?_⟩
        · rw [hXV.out]
          refine fun _ ha => ⟨((HO9.out _ ?_).agree ha).items, strs_nil _, ints_nil _, text_nil_le, strs_nil _, frees_nil _⟩
          repeat (refine grown_trans ?_ (grown_setCell _ _ _ _))
          exact grown_refl _ _
        · rw [hXS.out]
          repeat (refine RSt.set ?_ (by omega) _ _)
          exact HS9.out
        · repeat (refine grown_set ?_ _ _ (by omega) _)
          exact HG9.out
    · have hlk : k < n := by omega
      have hrv2 : V = (acc ++ [itemR (l3, false)]) ++ (itemsGo g (itemT (l3, false))).1 ∧ S = (itemsGo g (itemT (l3, false))).2 := by
        have h1 := hrv.out.1
        have h2 := hrv.out.2
        simp only [itemsGo] at h1 h2
        exact ⟨by simpa using h1, by simpa using h2⟩
      have HTI0 := fun W (hW : RSt W b (l3, false)) => ritemC_any b (l3, false) W hW
      have HXZ := itemR_sizes (l3, false)
      generalize itemR (l3, false) = X at *
      generalize itemT (l3, false) = s4 at *
      obtain ⟨hol, hoz, us, hus, hown, hvs⟩ := hO.out
      rw [hacc] at hown hus
      have HOZ := hid hoz
      have HOWN := hid hown
      have HVS := hid hvs
      replace HXZ := hid HXZ
      replace hrv2 := hid hrv2
      obtain ⟨k1, d1, l1, r1, n1, sv, p1, ⟨g1, c1, f1⟩⟩ := X
      have HTI : Hid (∀ W, RSt W b (l3, false) → Calls Tryz.prog 41 #[.pointer (some ⟨b, 0, none⟩)] W fun e w' => ∃ v, e = .returned (.agg #[.string k1, .int .i64 d1, .string l1, .int .i64 r1, .int .i64 n1, v, .int .i64 p1, .int .i64 g1, .int .i64 c1, .int .i64 f1]) ∧ OwnStrs w' W.heap.size v sv ∧ RSt w' b s4 ∧ W.grownBy w' (some b)) := HTI0
      have hszw := hP.out.gr.size
      have cP : wr.cell? ⟨P, 1, none⟩ = some (.slice av nv cv) := (hP.out.cell 1).trans rfl
      clear hown hvs hoz hO HTI0 hrv
      go_wp2_with fail
      go_region_law (first
        | (refine step_append_lies _ (by rfl) _ _ _ (by rfl) w.heap.size 72 i0 _ 10 112 Tryz.underlying45 hi hz0 hz1 hz2 rfl (by omega) (.slice av nv cv) k (itemRows acc us) (by rfl) (hown5.alloc _) ⟨w5.heap.size, 0, none⟩ 1 1 [.string k1, .int .i64 d1, .string l1, .int .i64 r1, .int .i64 n1, .slice ax nx cx, .int .i64 p1, .int .i64 g1, .int .i64 c1, .int .i64 f1] (by rfl) (by rfl) (World.news_of_block (cs := #[.string k1, .int .i64 d1, .string l1, .int .i64 r1, .int .i64 n1, .slice ax nx cx, .int .i64 p1, .int .i64 g1, .int .i64 c1, .int .i64 f1]) (t := 72) (fr := (0, 0)) (heap_newL w5 _)) (by simp [Value.oneCell']) (by omega) (by unfold maxLen; omega) (by omega) (by have := HP5.out.gr.size; simp; omega) (w5.heap.size + 1) (by simp) ?_
           intro g6 cap6 w6 hown6 hgrow6 hat6 hlt6
           have hne6 : ∀ k, (Value.slice av nv cv).ownBlock = some k → w.heap.size ≤ k ∧ ∃ cs T fr, (w5.alloc (.cells #[.string k1, .int .i64 d1, .string l1, .int .i64 r1, .int .i64 n1, .slice ax nx cx, .int .i64 p1, .int .i64 g1, .int .i64 c1, .int .i64 f1] 72)).heap[k]? = some (.cells cs T fr) ∧ T = 72 := fun q hq => by
             obtain ⟨cs, fr, h1⟩ := owns_block hown5 q hq
             exact ⟨(hown5.lt q hq).1, cs, _, fr, (Below.heap_alloc _ _ _ (hown5.lt q hq).2).trans h1, rfl⟩
           have HP6 := hid ((HP5.out.alloc _).row hgrow6 (fun q hq => by obtain ⟨a, cs, T, fr, h1, h2⟩ := hne6 q hq; exact ⟨a, cs, T, fr, h1, by rw [h2]; decide⟩))
           have HR6 := hid ((HR5.out.alloc (.cells #[.string k1, .int .i64 d1, .string l1, .int .i64 r1, .int .i64 n1, .slice ax nx cx, .int .i64 p1, .int .i64 g1, .int .i64 c1, .int .i64 f1] 72)).row hgrow6 (fun q hq => by obtain ⟨a, cs, T, fr, h1, h2⟩ := hne6 q hq; exact ⟨a, cs, T, fr, h1, by rw [h2]; decide⟩))
           have cP6 := HP6.out.cell
           have fP6 := HP6.out.frozen)
        | (go_simp
           go_at_call 41
           refine (HTI.out _ (RSt.drew hP.out.st)).mono ?_
           rintro e w5 ⟨v, rfl, hov, hc5, hg5'⟩
           have hg5 := grown_drew hg5'
           obtain ⟨ax, nx, cx, rfl⟩ := hov.slice
           have HP5 := hid (hP.out.call hc5 hg5)
           have HR5 := hid (hR.out.call hc5 hg5)
           have hown5 := owns_kept_lt HOWN.out hg5 (fun q hq => by cases hq; exact hlt)
           have HVS5 : Hid (∀ i (h : i < acc.length) (h' : i < us.length), OwnStrs w5 w.heap.size us[i] acc[i].vals) := fun i h1 h2 => (HVS.out i h1 h2).kept hg5 (fun q hq => by cases hq; exact hlt)
           have cP5 := HP5.out.cell
           have cPo5 := fun o => (HP5.out.alloc o).cell))
      all_goals
        have HP7 : Hid (RIn w (w6.setCell ⟨P, 1, none⟩ (.slice (some ⟨g6, 0, none⟩) (k + 1) cap6)) b P 50 #[.int .i64 ((1 : Nat) : Int), .slice (some ⟨g6, 0, none⟩) (k + 1) cap6, .slice none 0 0, .slice none 0 0, .string ⟨#[]⟩, .slice none 0 0, .slice none 0 0, .int .i64 0, .int .u64 0, .int .i64 0, .int .i64 0, .int .i64 0, .int .i64 0, .int .i64 0] s4) := HP6.out.set 1 _
        have HR7 := hid (HR6.out.other P 1 (.slice (some ⟨g6, 0, none⟩) (k + 1) cap6) hne hle)
        have HO7 : Hid (OwnItems (w6.setCell ⟨P, 1, none⟩ (.slice (some ⟨g6, 0, none⟩) (k + 1) cap6)) w.heap.size (.slice (some ⟨g6, 0, none⟩) (k + 1) cap6) (acc ++ [⟨k1, d1, l1, r1, n1, sv, p1, ⟨g1, c1, f1⟩⟩])) := by
          refine OwnItems.ty ?_ (grown_setCell w6 P 1 _) (fun q hq => by cases hq; exact ⟨_, _, _, HP6.out.own, by decide, by decide⟩)
          refine ⟨by rw [List.length_append, hacc]; simp; omega, ?_, us ++ [.slice ax nx cx], by simp [hus, hacc], ?_, fun i h1 h2 => ?_⟩
          · intro x hx
            rcases List.mem_append.1 hx with hx | hx
            · exact HOZ.out x hx
            · rw [List.mem_singleton.1 hx]
              exact HXZ.out
          · rw [itemRows_snoc _ _ _ _ (by omega), List.length_append, hacc]
            exact hown6
          · have hstr : ∀ q, (Value.slice av nv cv).ownBlock = some q → ∃ cs T fr, (w5.alloc (.cells #[.string k1, .int .i64 d1, .string l1, .int .i64 r1, .int .i64 n1, .slice ax nx cx, .int .i64 p1, .int .i64 g1, .int .i64 c1, .int .i64 f1] 72)).heap[q]? = some (.cells cs T fr) ∧ T ≠ 9 := fun q hq => by
              obtain ⟨_, cs, T, fr, h3, h4⟩ := hne6 q hq
              exact ⟨cs, T, fr, h3, by rw [h4]; decide⟩
            by_cases hi2 : i < k
            · have h3 : i < acc.length := by omega
              have h4 : i < us.length := by omega
              rw [List.getElem_append_left h3, List.getElem_append_left h4]
              exact ((HVS5.out i h3 h4).alloc _).ty hgrow6 hstr
            · have hi3 : i = k := by simp [hacc] at h1; omega
              subst hi3
              rw [List.getElem_append_right (by omega), List.getElem_append_right (by omega)]
              simp only [hus, hacc, Nat.sub_self, List.getElem_cons_zero]
              exact ((hov.mono hszw).alloc _).ty hgrow6 hstr
        clear hown6 hgrow6 hat6 hlt6 hne6 HP6 HR6 cP6 fP6 hov hc5 hg5 hg5' HP5 HR5 hown5 HVS5 cP5 cPo5
        generalize (w6.setCell ⟨P, 1, none⟩ (.slice (some ⟨g6, 0, none⟩) (k + 1) cap6)) = W7 at *
        go_wp2
        go_roundg g
        case rel => exact ⟨k + 1, _, s4, _, by omega, by go_num, by simp [hacc], hrv2, HP7, HR7, HO7⟩
        case measure => omega
end Go.Proofs.YtgnmjdcmaahlnaaGreat
