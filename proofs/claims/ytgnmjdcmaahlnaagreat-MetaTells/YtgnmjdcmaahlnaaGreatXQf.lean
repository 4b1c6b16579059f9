/- Contract of the reference Cut's page: pieces of values, values, free numbers, metas, and what is no page. -/
import Derived.Test.YtgnmjdcmaahlnaaGreatXl
import Derived.Test.YtgnmjdcmaahlnaaGreatXNe
namespace Go.Proofs.YtgnmjdcmaahlnaaGreat
open Go.RowKit Go.Sort

def itemsGo : Nat → St → List ItemD × St
  | 0, s => ([], s)
  | k + 1, s => if s.2 then ([], s) else (itemR s :: (itemsGo k (itemT s)).1, (itemsGo k (itemT s)).2)
def kidsGo : Nat → St → (List ByteArray × List Int) × St
  | 0, s => (([], []), s)
  | k + 1, s => if s.2 then (([], []), s) else ((tV s :: (kidsGo k (jS 400 (tS s))).1.1, (iR 400 (tS s) : Int) :: (kidsGo k (jS 400 (tS s))).1.2), (kidsGo k (jS 400 (tS s))).2)
def metaR (s : St) : MetaD := ⟨nV s, rootR (nS s), iR 400 (rootT (nS s)), iR 400 (jS 400 (rootT (nS s)))⟩
/-- What the reference takes of a page of kind k. -/
def partR (k : Nat) (s : St) : PageD × St :=
  match k with
  | 1 => ({ noPage with kind := 1, items := (itemsGo (iR 4 s) (jS 4 s)).1 }, (itemsGo (iR 4 s) (jS 4 s)).2)
  | 2 => ({ noPage with kind := 2, keys := (kidsGo (iR 4 s) (jS 4 s)).1.1, kids := (kidsGo (iR 4 s) (jS 4 s)).1.2 }, (kidsGo (iR 4 s) (jS 4 s)).2)
  | 3 => ({ noPage with kind := 3, text := tV s }, tS s)
  | 4 => ({ noPage with kind := 4, vals := (textsGo (iR 12 s) (jS 12 s)).1 }, (textsGo (iR 12 s) (jS 12 s)).2)
  | 5 => ({ noPage with kind := 5, free := (freesR (iR 20 s) (jS 20 s)).1, next := iR 400 (freesR (iR 20 s) (jS 20 s)).2 }, jS 400 (freesR (iR 20 s) (jS 20 s)).2)
  | 6 => ({ noPage with kind := 6, mt := metaR s }, jS 400 (jS 400 (rootT (nS s))))
  | k => ({ noPage with kind := k }, s)
theorem RIn.row {w W W' : World} {b P : Nat} {T : TypeId} {cs : Array Value} {s : St} {row : Option Nat} (h : RIn w W b P T cs s) (hg : W.grownBy W' row) (hr : ∀ k, row = some k → w.heap.size ≤ k ∧ ∃ cs T' fr, W.heap[k]? = some (.cells cs T' fr) ∧ T' ≠ T) : RIn w W' b P T cs s := by
  refine ⟨(hg.block P h.plt (fun e => ?_)).trans h.own, h.st.grown hg (fun e => ?_), grown_step h.gr hg (fun k hk => (hr k hk).1), h.lt, h.le⟩
  · obtain ⟨_, c2, T', fr, hk, hT⟩ := hr P e.symm
    rw [h.own] at hk
    simp only [Option.some.injEq, Obj.cells.injEq] at hk
    exact hT hk.2.1.symm
  · have := (hr b e).1
    have := h.lt
    omega

set_option maxRecDepth 10000 in
set_option maxHeartbeats 4000000 in
theorem rpage_3 (b : Nat) (s : St) (w : World) (h : RSt w b s) (hk : iR 6 s = 3) :
    Calls Tryz.prog 24 #[.pointer (some ⟨b, 0, none⟩)] w fun e w' => ∃ vi vk vd vv vf, e = .returned (.agg (pageCells (partR 3 (jS 6 s)).1 vi vk vd vv vf).toArray) ∧ HangsB w.heap.size w' (partR 3 (jS 6 s)).1 vi vk vd vv vf ∧ RSt w' b (partR 3 (jS 6 s)).2 ∧ w.grownBy w' (some b) := by
  have R0 := hid (RIn.first h 50 #[.int .i64 0, .slice none 0 0, .slice none 0 0, .slice none 0 0, .string ⟨#[]⟩, .slice none 0 0, .slice none 0 0, .int .i64 0, .int .u64 0, .int .i64 0, .int .i64 0, .int .i64 0, .int .i64 0, .int .i64 0])
  have H1 := hid (fun W (hW : RSt W b s) => rint_any b 6 s W hW (by omega))
  have hlt := h.lt
  rw [hk] at H1
  clear h hk
  generalize jS 6 s = s1 at *
  have H2 := hid (fun W (hW : RSt W b s1) => rtextC_any b s1 W hW)
  have HZ := hid (tV_size s1)
  have hXV : Hid ((partR 3 s1).1 = { noPage with kind := 3, text := tV s1 }) := hid rfl
  have hXS : Hid ((partR 3 s1).2 = tS s1) := hid rfl
  generalize tV s1 = T1 at *
  generalize tS s1 = s2 at *
  go_enter Tryz.func24, Tryz.ntmps24
  go_wp2_with fail
  refine (H1.out _ R0.out.st).mono ?_
  rintro e w1 ⟨rfl, hc, hg⟩
  have R1 := hid (R0.out.call hc hg)
  clear hc hg R0 H1
  have P2 := hid (R1.out.beside #[.int .i64 ((3 : Nat) : Int), .slice none 0 0, .slice none 0 0, .slice none 0 0, .string ⟨#[]⟩, .slice none 0 0, .slice none 0 0, .int .i64 0, .int .u64 0, .int .i64 0, .int .i64 0, .int .i64 0, .int .i64 0, .int .i64 0])
  have R2 := hid (R1.out.alloc (.cells #[.int .i64 ((3 : Nat) : Int), .slice none 0 0, .slice none 0 0, .slice none 0 0, .string ⟨#[]⟩, .slice none 0 0, .slice none 0 0, .int .i64 0, .int .u64 0, .int .i64 0, .int .i64 0, .int .i64 0, .int .i64 0, .int .i64 0] 50))
  have hne : w1.heap.size ≠ w.heap.size := by have := R1.out.plt; omega
  have hle := R1.out.gr.size
  have hRlt := R1.out.plt
  clear R1
  go_wp2_with fail
  generalize (w1.alloc (.cells #[.int .i64 3, .slice none 0 0, .slice none 0 0, .slice none 0 0, .string ⟨#[]⟩, .slice none 0 0, .slice none 0 0, .int .i64 0, .int .u64 0, .int .i64 0, .int .i64 0, .int .i64 0, .int .i64 0, .int .i64 0] 50)) = W2 at *
  generalize w1.heap.size = P at *
  refine (H2.out _ P2.out.st).mono ?_
  rintro e w3 ⟨rfl, hc, hg⟩
  have P9 := hid (P2.out.call hc hg)
  have R9 := hid (R2.out.call hc hg)
  clear hc hg P2 R2
  have cP := P9.out.cell
  have fP := P9.out.frozen
  have cR := R9.out.cell
  have fR := R9.out.frozen
  have HS9 := hid R9.out.st
  have HG9 := hid R9.out.gr
  clear P9 R9
  go_wp2
  refine bodyPost_ret (v := .agg #[.int .i64 3, .slice none 0 0, .slice none 0 0, .slice none 0 0, .string T1, .slice none 0 0, .slice none 0 0, .int .i64 0, .int .u64 0, .int .i64 0, .int .i64 0, .int .i64 0, .int .i64 0, .int .i64 0]) (by simp [results, Tryz.results24, go_sem, cR]) rfl ⟨.slice none 0 0, .slice none 0 0, .slice none 0 0, .slice none 0 0, .slice none 0 0, by rw [hXV.out]; rfl, ?_, ?_, ?_⟩
  · rw [hXV.out]
    exact fun _ _ => ⟨items_nil _, strs_nil _, ints_nil _, (by have := HZ.out; simp only; unfold maxLen; omega), strs_nil _, frees_nil _⟩
  · rw [hXS.out]
    repeat (refine RSt.set ?_ (by omega) _ _)
    exact HS9.out
  · repeat (refine grown_set ?_ _ _ (by omega) _)
    exact HG9.out
set_option maxRecDepth 10000 in
set_option maxHeartbeats 4000000 in
theorem rpage_4 (b : Nat) (s : St) (w : World) (h : RSt w b s) (hk : iR 6 s = 4) :
    Calls Tryz.prog 24 #[.pointer (some ⟨b, 0, none⟩)] w fun e w' => ∃ vi vk vd vv vf, e = .returned (.agg (pageCells (partR 4 (jS 6 s)).1 vi vk vd vv vf).toArray) ∧ HangsB w.heap.size w' (partR 4 (jS 6 s)).1 vi vk vd vv vf ∧ RSt w' b (partR 4 (jS 6 s)).2 ∧ w.grownBy w' (some b) := by
  have R0 := hid (RIn.first h 50 #[.int .i64 0, .slice none 0 0, .slice none 0 0, .slice none 0 0, .string ⟨#[]⟩, .slice none 0 0, .slice none 0 0, .int .i64 0, .int .u64 0, .int .i64 0, .int .i64 0, .int .i64 0, .int .i64 0, .int .i64 0])
  have H1 := hid (fun W (hW : RSt W b s) => rint_any b 6 s W hW (by omega))
  have hlt := h.lt
  rw [hk] at H1
  clear h hk
  generalize jS 6 s = s1 at *
  have H2 := hid (fun W (hW : RSt W b s1) => rtextsC_any b 12 s1 W hW (by omega))
  have hXV : Hid ((partR 4 s1).1 = { noPage with kind := 4, vals := (textsGo (iR 12 s1) (jS 12 s1)).1 }) := hid rfl
  have hXS : Hid ((partR 4 s1).2 = (textsGo (iR 12 s1) (jS 12 s1)).2) := hid rfl
  generalize (textsGo (iR 12 s1) (jS 12 s1)).1 = L at *
  generalize (textsGo (iR 12 s1) (jS 12 s1)).2 = s2 at *
  go_enter Tryz.func24, Tryz.ntmps24
  go_wp2_with fail
  refine (H1.out _ R0.out.st).mono ?_
  rintro e w1 ⟨rfl, hc, hg⟩
  have R1 := hid (R0.out.call hc hg)
  clear hc hg R0 H1
  have P2 := hid (R1.out.beside #[.int .i64 ((4 : Nat) : Int), .slice none 0 0, .slice none 0 0, .slice none 0 0, .string ⟨#[]⟩, .slice none 0 0, .slice none 0 0, .int .i64 0, .int .u64 0, .int .i64 0, .int .i64 0, .int .i64 0, .int .i64 0, .int .i64 0])
  have R2 := hid (R1.out.alloc (.cells #[.int .i64 ((4 : Nat) : Int), .slice none 0 0, .slice none 0 0, .slice none 0 0, .string ⟨#[]⟩, .slice none 0 0, .slice none 0 0, .int .i64 0, .int .u64 0, .int .i64 0, .int .i64 0, .int .i64 0, .int .i64 0, .int .i64 0] 50))
  have hne : w1.heap.size ≠ w.heap.size := by have := R1.out.plt; omega
  have hle := R1.out.gr.size
  have hRlt := R1.out.plt
  clear R1
  go_wp2_with fail
  generalize (w1.alloc (.cells #[.int .i64 4, .slice none 0 0, .slice none 0 0, .slice none 0 0, .string ⟨#[]⟩, .slice none 0 0, .slice none 0 0, .int .i64 0, .int .u64 0, .int .i64 0, .int .i64 0, .int .i64 0, .int .i64 0, .int .i64 0] 50)) = W2 at *
  generalize w1.heap.size = P at *
  refine (H2.out _ P2.out.st).mono ?_
  rintro e w3 ⟨v, rfl, hov, hc, hg⟩
  have hbase : w.heap.size ≤ W2.heap.size := P2.out.gr.size
  have P9 := hid (P2.out.call hc hg)
  have R9 := hid (R2.out.call hc hg)
  obtain ⟨av, nv, cv, hv⟩ := hov.slice
  subst hv
  have HOV := (hov.mono hbase).setNe P9.out.own (by decide) 5 (.slice av nv cv)
  have hRo := (R9.out.other P 5 (.slice av nv cv) hne hle).own
  have HOV7 : Hid (∀ W', (w3.setCell ⟨P, 5, none⟩ (.slice av nv cv)).grownBy W' (some w.heap.size) → OwnStrs W' w.heap.size (.slice av nv cv) L) := hid (fun W' hg => HOV.kept' hg hRo (by decide))
  clear hc hg P2 R2 hov HOV hRo
  have cP := P9.out.cell
  have fP := P9.out.frozen
  have cR := R9.out.cell
  have fR := R9.out.frozen
  have HS9 := hid R9.out.st
  have HG9 := hid R9.out.gr
  clear P9 R9
  go_wp2
  refine bodyPost_ret (v := .agg #[.int .i64 4, .slice none 0 0, .slice none 0 0, .slice none 0 0, .string ⟨#[]⟩, .slice av nv cv, .slice none 0 0, .int .i64 0, .int .u64 0, .int .i64 0, .int .i64 0, .int .i64 0, .int .i64 0, .int .i64 0]) (by simp [results, Tryz.results24, go_sem, cR]) rfl ⟨.slice none 0 0, .slice none 0 0, .slice none 0 0, .slice av nv cv, .slice none 0 0, by rw [hXV.out]; rfl, ?_, ?_, ?_⟩
  · rw [hXV.out]
    refine fun _ ha => ⟨items_nil _, strs_nil _, ints_nil _, text_nil_le, ((HOV7.out _ ?_).agree ha).strs, frees_nil _⟩
    repeat (refine grown_trans ?_ (grown_setCell _ _ _ _))
    exact grown_refl _ _
  · rw [hXS.out]
    repeat (refine RSt.set ?_ (by omega) _ _)
    exact HS9.out
  · repeat (refine grown_set ?_ _ _ (by omega) _)
    exact HG9.out
set_option maxRecDepth 10000 in
set_option maxHeartbeats 4000000 in
theorem rpage_5 (b : Nat) (s : St) (w : World) (h : RSt w b s) (hk : iR 6 s = 5) :
    Calls Tryz.prog 24 #[.pointer (some ⟨b, 0, none⟩)] w fun e w' => ∃ vi vk vd vv vf, e = .returned (.agg (pageCells (partR 5 (jS 6 s)).1 vi vk vd vv vf).toArray) ∧ HangsB w.heap.size w' (partR 5 (jS 6 s)).1 vi vk vd vv vf ∧ RSt w' b (partR 5 (jS 6 s)).2 ∧ w.grownBy w' (some b) := by
  have R0 := hid (RIn.first h 50 #[.int .i64 0, .slice none 0 0, .slice none 0 0, .slice none 0 0, .string ⟨#[]⟩, .slice none 0 0, .slice none 0 0, .int .i64 0, .int .u64 0, .int .i64 0, .int .i64 0, .int .i64 0, .int .i64 0, .int .i64 0])
  have H1 := hid (fun W (hW : RSt W b s) => rint_any b 6 s W hW (by omega))
  have hlt := h.lt
  rw [hk] at H1
  clear h hk
  generalize jS 6 s = s1 at *
  have H2 := hid (fun W (hW : RSt W b s1) => rfreesC_any b s1 W hW)
  have H3 := hid (fun W (hW : RSt W b (freesR (iR 20 s1) (jS 20 s1)).2) => rint_any b 400 _ W hW (by omega))
  have hXV : Hid ((partR 5 s1).1 = { noPage with kind := 5, free := (freesR (iR 20 s1) (jS 20 s1)).1, next := iR 400 (freesR (iR 20 s1) (jS 20 s1)).2 }) := hid rfl
  have hXS : Hid ((partR 5 s1).2 = jS 400 (freesR (iR 20 s1) (jS 20 s1)).2) := hid rfl
  generalize iR 400 (freesR (iR 20 s1) (jS 20 s1)).2 = n2 at *
  generalize jS 400 (freesR (iR 20 s1) (jS 20 s1)).2 = s3 at *
  generalize (freesR (iR 20 s1) (jS 20 s1)).1 = L at *
  generalize (freesR (iR 20 s1) (jS 20 s1)).2 = s2 at *
  go_enter Tryz.func24, Tryz.ntmps24
  go_wp2_with fail
  refine (H1.out _ R0.out.st).mono ?_
  rintro e w1 ⟨rfl, hc, hg⟩
  have R1 := hid (R0.out.call hc hg)
  clear hc hg R0 H1
  have P2 := hid (R1.out.beside #[.int .i64 ((5 : Nat) : Int), .slice none 0 0, .slice none 0 0, .slice none 0 0, .string ⟨#[]⟩, .slice none 0 0, .slice none 0 0, .int .i64 0, .int .u64 0, .int .i64 0, .int .i64 0, .int .i64 0, .int .i64 0, .int .i64 0])
  have R2 := hid (R1.out.alloc (.cells #[.int .i64 ((5 : Nat) : Int), .slice none 0 0, .slice none 0 0, .slice none 0 0, .string ⟨#[]⟩, .slice none 0 0, .slice none 0 0, .int .i64 0, .int .u64 0, .int .i64 0, .int .i64 0, .int .i64 0, .int .i64 0, .int .i64 0] 50))
  have hne : w1.heap.size ≠ w.heap.size := by have := R1.out.plt; omega
  have hle := R1.out.gr.size
  have hRlt := R1.out.plt
  clear R1
  go_wp2_with fail
  generalize (w1.alloc (.cells #[.int .i64 5, .slice none 0 0, .slice none 0 0, .slice none 0 0, .string ⟨#[]⟩, .slice none 0 0, .slice none 0 0, .int .i64 0, .int .u64 0, .int .i64 0, .int .i64 0, .int .i64 0, .int .i64 0, .int .i64 0] 50)) = W2 at *
  generalize w1.heap.size = P at *
  refine (H2.out _ P2.out.st).mono ?_
  rintro e w3 ⟨v, rfl, hof, hc, hg⟩
  have hbase : w.heap.size ≤ W2.heap.size := P2.out.gr.size
  have P3 := hid (P2.out.call hc hg)
  have R3 := hid (R2.out.call hc hg)
  obtain ⟨av, nv, cv, hv⟩ : ∃ ao n cap, v = .slice ao n cap := by
    obtain ⟨ao, cap, hv, _⟩ := hof.frees
    exact ⟨_, _, _, hv⟩
  subst hv
  have cP := P3.out.cell
  have fP := P3.out.frozen
  have P4 := hid (P3.out.set 6 (.slice av nv cv))
  have R4 := hid (R3.out.other P 6 (.slice av nv cv) hne hle)
  have HOF := hid ((hof.mono hbase).ty (grown_setCell w3 P 6 (.slice av nv cv)) (fun k hk => by cases hk; exact ⟨_, _, _, P3.out.own, by decide, by decide⟩))
  clear hc hg P2 R2 hof P3 R3
  go_wp2_with fail
  clear cP fP
  generalize (w3.setCell ⟨P, 6, none⟩ (.slice av nv cv)) = W4 at *
  refine (H3.out _ P4.out.st).mono ?_
  rintro e w5 ⟨rfl, hc, hg⟩
  have P9 := hid (P4.out.call hc hg)
  have R9 := hid (R4.out.call hc hg)
  have HOF5 := HOF.out.lt hg (fun k hk => by cases hk; exact hlt)
  have HOF6 := HOF5.ty (grown_setCell w5 P 7 (.int .i64 n2)) (fun k hk => by cases hk; exact ⟨_, _, _, P9.out.own, by decide, by decide⟩)
  have hRo := (R9.out.other P 7 (.int .i64 n2) hne hle).own
  have HOF7 : Hid (∀ W', (w5.setCell ⟨P, 7, none⟩ (.int .i64 n2)).grownBy W' (some w.heap.size) → OwnFrees W' w.heap.size (.slice av nv cv) L) := hid (fun W' hg => HOF6.ty hg (fun k hk => by cases hk; exact ⟨_, _, _, hRo, by decide, by decide⟩))
  clear hc hg P4 R4 HOF HOF5 HOF6 hRo
  have cP := P9.out.cell
  have fP := P9.out.frozen
  have cR := R9.out.cell
  have fR := R9.out.frozen
  have HS9 := hid R9.out.st
  have HG9 := hid R9.out.gr
  clear P9 R9
  go_wp2
  refine bodyPost_ret (v := .agg #[.int .i64 5, .slice none 0 0, .slice none 0 0, .slice none 0 0, .string ⟨#[]⟩, .slice none 0 0, .slice av nv cv, .int .i64 n2, .int .u64 0, .int .i64 0, .int .i64 0, .int .i64 0, .int .i64 0, .int .i64 0]) (by simp [results, Tryz.results24, go_sem, cR]) rfl ⟨.slice none 0 0, .slice none 0 0, .slice none 0 0, .slice none 0 0, .slice av nv cv, by rw [hXV.out]; rfl, ?_, ?_, ?_⟩
  · rw [hXV.out]
    refine fun _ ha => ⟨items_nil _, strs_nil _, ints_nil _, text_nil_le, strs_nil _, ((HOF7.out _ ?_).agree ha).frees⟩
    repeat (refine grown_trans ?_ (grown_setCell _ _ _ _))
    exact grown_refl _ _
  · rw [hXS.out]
    repeat (refine RSt.set ?_ (by omega) _ _)
    exact HS9.out
  · repeat (refine grown_set ?_ _ _ (by omega) _)
    exact HG9.out
set_option maxRecDepth 10000 in
set_option maxHeartbeats 4000000 in
theorem rpage_6 (b : Nat) (s : St) (w : World) (h : RSt w b s) (hk : iR 6 s = 6) :
    Calls Tryz.prog 24 #[.pointer (some ⟨b, 0, none⟩)] w fun e w' => ∃ vi vk vd vv vf, e = .returned (.agg (pageCells (partR 6 (jS 6 s)).1 vi vk vd vv vf).toArray) ∧ HangsB w.heap.size w' (partR 6 (jS 6 s)).1 vi vk vd vv vf ∧ RSt w' b (partR 6 (jS 6 s)).2 ∧ w.grownBy w' (some b) := by
  have R0 := hid (RIn.first h 50 #[.int .i64 0, .slice none 0 0, .slice none 0 0, .slice none 0 0, .string ⟨#[]⟩, .slice none 0 0, .slice none 0 0, .int .i64 0, .int .u64 0, .int .i64 0, .int .i64 0, .int .i64 0, .int .i64 0, .int .i64 0])
  have H1 := hid (fun W (hW : RSt W b s) => rint_any b 6 s W hW (by omega))
  have hlt := h.lt
  rw [hk] at H1
  clear h hk
  generalize jS 6 s = s1 at *
  have H2 := hid (fun W (hW : RSt W b s1) => rnumC_any b s1 W hW)
  have H3 := hid (fun W (hW : RSt W b (nS s1)) => rrootC_any b _ W hW)
  have H4 := hid (fun W (hW : RSt W b (rootT (nS s1))) => rint_any b 400 _ W hW (by omega))
  have H5 := hid (fun W (hW : RSt W b (jS 400 (rootT (nS s1)))) => rint_any b 400 _ W hW (by omega))
  have hXV : Hid ((partR 6 s1).1 = { noPage with kind := 6, mt := ⟨nV s1, rootR (nS s1), iR 400 (rootT (nS s1)), iR 400 (jS 400 (rootT (nS s1)))⟩ }) := hid rfl
  have hXS : Hid ((partR 6 s1).2 = jS 400 (jS 400 (rootT (nS s1)))) := hid rfl
  generalize iR 400 (jS 400 (rootT (nS s1))) = n3 at *
  generalize jS 400 (jS 400 (rootT (nS s1))) = s5 at *
  generalize iR 400 (rootT (nS s1)) = n2 at *
  generalize jS 400 (rootT (nS s1)) = s4 at *
  generalize rootR (nS s1) = ro at *
  generalize rootT (nS s1) = s3 at *
  generalize nV s1 = n1 at *
  generalize nS s1 = s2 at *
  obtain ⟨g1, c1, f1⟩ := ro
  simp only at H3
  go_enter Tryz.func24, Tryz.ntmps24
  go_wp2_with fail
  refine (H1.out _ R0.out.st).mono ?_
  rintro e w1 ⟨rfl, hc, hg⟩
  have R1 := hid (R0.out.call hc hg)
  clear hc hg R0 H1
  have P2 := hid (R1.out.beside #[.int .i64 ((6 : Nat) : Int), .slice none 0 0, .slice none 0 0, .slice none 0 0, .string ⟨#[]⟩, .slice none 0 0, .slice none 0 0, .int .i64 0, .int .u64 0, .int .i64 0, .int .i64 0, .int .i64 0, .int .i64 0, .int .i64 0])
  have R2 := hid (R1.out.alloc (.cells #[.int .i64 ((6 : Nat) : Int), .slice none 0 0, .slice none 0 0, .slice none 0 0, .string ⟨#[]⟩, .slice none 0 0, .slice none 0 0, .int .i64 0, .int .u64 0, .int .i64 0, .int .i64 0, .int .i64 0, .int .i64 0, .int .i64 0] 50))
  have hne : w1.heap.size ≠ w.heap.size := by have := R1.out.plt; omega
  have hle := R1.out.gr.size
  have hRlt := R1.out.plt
  clear R1
  go_wp2_with fail
  generalize (w1.alloc (.cells #[.int .i64 6, .slice none 0 0, .slice none 0 0, .slice none 0 0, .string ⟨#[]⟩, .slice none 0 0, .slice none 0 0, .int .i64 0, .int .u64 0, .int .i64 0, .int .i64 0, .int .i64 0, .int .i64 0, .int .i64 0] 50)) = W2 at *
  generalize w1.heap.size = P at *
  refine (H2.out _ P2.out.st).mono ?_
  rintro e w3 ⟨rfl, hc, hg⟩
  have P3 := hid (P2.out.call hc hg)
  have R3 := hid (R2.out.call hc hg)
  have cP := P3.out.cell
  have fP := P3.out.frozen
  have P4 := hid (P3.out.set 8 (.int .u64 n1))
  have R4 := hid (R3.out.other P 8 (.int .u64 n1) hne hle)
  clear hc hg P2 R2 P3 R3
  go_wp2_with fail
  clear cP fP
  generalize (w3.setCell ⟨P, 8, none⟩ (.int .u64 n1)) = W4 at *
  refine (H3.out _ P4.out.st).mono ?_
  rintro e w5 ⟨rfl, hc, hg⟩
  have P5 := hid (P4.out.call hc hg)
  have R5 := hid (R4.out.call hc hg)
  have cP := P5.out.cell
  have fP := P5.out.frozen
  have P6 := hid (((P5.out.set 9 (.int .i64 g1)).set 10 (.int .i64 c1)).set 11 (.int .i64 f1))
  have R6 := hid (((R5.out.other P 9 (.int .i64 g1) hne hle).other P 10 (.int .i64 c1) hne hle).other P 11 (.int .i64 f1) hne hle)
  clear hc hg P4 R4 P5 R5
  go_wp2_with fail
  clear cP fP
  generalize (((w5.setCell ⟨P, 9, none⟩ (.int .i64 g1)).setCell ⟨P, 10, none⟩ (.int .i64 c1)).setCell ⟨P, 11, none⟩ (.int .i64 f1)) = W6 at *
  refine (H4.out _ P6.out.st).mono ?_
  rintro e w7 ⟨rfl, hc, hg⟩
  have P7 := hid (P6.out.call hc hg)
  have R7 := hid (R6.out.call hc hg)
  have cP := P7.out.cell
  have fP := P7.out.frozen
  have P8 := hid (P7.out.set 12 (.int .i64 n2))
  have R8 := hid (R7.out.other P 12 (.int .i64 n2) hne hle)
  clear hc hg P6 R6 P7 R7
  go_wp2_with fail
  clear cP fP
  generalize (w7.setCell ⟨P, 12, none⟩ (.int .i64 n2)) = W8 at *
  refine (H5.out _ P8.out.st).mono ?_
  rintro e w9 ⟨rfl, hc, hg⟩
  have P9 := hid (P8.out.call hc hg)
  have R9 := hid (R8.out.call hc hg)
  clear hc hg P8 R8
  have cP := P9.out.cell
  have fP := P9.out.frozen
  have cR := R9.out.cell
  have fR := R9.out.frozen
  have HS9 := hid R9.out.st
  have HG9 := hid R9.out.gr
  clear P9 R9
  go_wp2
  refine bodyPost_ret (v := .agg #[.int .i64 6, .slice none 0 0, .slice none 0 0, .slice none 0 0, .string ⟨#[]⟩, .slice none 0 0, .slice none 0 0, .int .i64 0, .int .u64 n1, .int .i64 g1, .int .i64 c1, .int .i64 f1, .int .i64 n2, .int .i64 n3]) (by simp [results, Tryz.results24, go_sem, cR]) rfl ⟨.slice none 0 0, .slice none 0 0, .slice none 0 0, .slice none 0 0, .slice none 0 0, by rw [hXV.out]; rfl, ?_, ?_, ?_⟩
  · rw [hXV.out]
    exact fun _ _ => ⟨items_nil _, strs_nil _, ints_nil _, text_nil_le, strs_nil _, frees_nil _⟩
  · rw [hXS.out]
    repeat (refine RSt.set ?_ (by omega) _ _)
    exact HS9.out
  · repeat (refine grown_set ?_ _ _ (by omega) _)
    exact HG9.out
end Go.Proofs.YtgnmjdcmaahlnaaGreat
