/- Contract of package page's takePage: pieces of values, values, free numbers, metas, and what is no page. -/
import Derived.Test.YtpionokcabjokaaGreatXNe
namespace Go.Proofs.YtpionokcabjokaaGreat
open Go.RowKit Go.Sort

set_option maxHeartbeats 4000000 in
set_option maxRecDepth 10000 in
theorem takePage_3 (b rb : Nat) (s : St) (w : World) (h : AtSt w b rb s) (hk : iV (nS s) = 3) :
    Calls Tryz.prog 71 #[.pointer (some ⟨b, 0, none⟩)] w fun e w' => ∃ vi vk vd vv vf, e = .returned (.agg (pageCells (partV 3 (nS (nS s))) vi vk vd vv vf).toArray) ∧ HangsB w.heap.size w' (partV 3 (nS (nS s))) vi vk vd vv vf ∧ w.grownBy w' (some b) := by
  have H0 := hid (h.alloc (.cells #[.int .i64 0, .slice none 0 0, .slice none 0 0, .slice none 0 0, .string ⟨#[]⟩, .slice none 0 0, .slice none 0 0, .int .i64 0, .int .u64 0, .int .i64 0, .int .i64 0, .int .i64 0, .int .i64 0, .int .i64 0] 35))
  have hlt := h.lt
  have hlr := h.2.1
  have HG0 := hid (grown_new (grown_refl w (some b)) (.cells #[.int .i64 0, .slice none 0 0, .slice none 0 0, .slice none 0 0, .string ⟨#[]⟩, .slice none 0 0, .slice none 0 0, .int .i64 0, .int .u64 0, .int .i64 0, .int .i64 0, .int .i64 0, .int .i64 0, .int .i64 0] 35))
  have HR0 := hid (heap_newL w (.cells #[.int .i64 0, .slice none 0 0, .slice none 0 0, .slice none 0 0, .string ⟨#[]⟩, .slice none 0 0, .slice none 0 0, .int .i64 0, .int .u64 0, .int .i64 0, .int .i64 0, .int .i64 0, .int .i64 0, .int .i64 0] 35))
  have HCS := hid (fun W (hW : AtSt W b rb s) => cnum_any b rb s W hW)
  clear h
  generalize nS s = s0 at *
  have HCN : Hid (∀ W, AtSt W b rb s0 → Calls Tryz.prog 103 #[.pointer (some ⟨b, 0, none⟩)] W fun e w' => e = .returned (.int .i64 3) ∧ AtSt w' b rb (nS s0) ∧ W.grownBy w' (some b)) := fun W hW => by
    rw [← hk]
    exact takeNum_any b rb s0 W hW
  generalize nS s0 = s1 at *
  clear hk
  go_enter Tryz.func71, Tryz.ntmps71
  go_wp2_with fail
  refine (HCS.out _ H0.out).mono ?_
  rintro e w1 ⟨rfl, hc, hg⟩
  have HC1 := hid hc
  have HG1 := hid (grown_trans HG0.out hg)
  have HR1 : Hid (w1.heap[w.heap.size]? = some (.cells #[.int .i64 0, .slice none 0 0, .slice none 0 0, .slice none 0 0, .string ⟨#[]⟩, .slice none 0 0, .slice none 0 0, .int .i64 0, .int .u64 0, .int .i64 0, .int .i64 0, .int .i64 0, .int .i64 0, .int .i64 0] 35 (0, 0))) := (hg.block w.heap.size (by simp) (by simp; omega)).trans HR0.out
  clear hc hg H0 HG0 HR0 HCS
  go_wp2_with fail
  refine (HCN.out _ HC1.out).mono ?_
  rintro e w2 ⟨rfl, hc, hg⟩
  have HC2' := hid hc
  have HG2' := hid (grown_trans HG1.out hg)
  have hR2' : w2.heap[w.heap.size]? = some (.cells #[.int .i64 0, .slice none 0 0, .slice none 0 0, .slice none 0 0, .string ⟨#[]⟩, .slice none 0 0, .slice none 0 0, .int .i64 0, .int .u64 0, .int .i64 0, .int .i64 0, .int .i64 0, .int .i64 0, .int .i64 0] 35 (0, 0)) := (hg.block w.heap.size (by have := (Array.getElem?_eq_some_iff.1 HR1.out).1; omega) (by simp; omega)).trans HR1.out
  have HR2' := hid hR2'
  have HC2 := hid (hc.alloc (.cells #[.int .i64 3, .slice none 0 0, .slice none 0 0, .slice none 0 0, .string ⟨#[]⟩, .slice none 0 0, .slice none 0 0, .int .i64 0, .int .u64 0, .int .i64 0, .int .i64 0, .int .i64 0, .int .i64 0, .int .i64 0] 35))
  have HP2 : Hid (InP w (w2.alloc (.cells #[.int .i64 3, .slice none 0 0, .slice none 0 0, .slice none 0 0, .string ⟨#[]⟩, .slice none 0 0, .slice none 0 0, .int .i64 0, .int .u64 0, .int .i64 0, .int .i64 0, .int .i64 0, .int .i64 0, .int .i64 0] 35)) w2.heap.size b #[.int .i64 3, .slice none 0 0, .slice none 0 0, .slice none 0 0, .string ⟨#[]⟩, .slice none 0 0, .slice none 0 0, .int .i64 0, .int .u64 0, .int .i64 0, .int .i64 0, .int .i64 0, .int .i64 0, .int .i64 0]) :=
    ⟨heap_newL w2 _, (Below.heap_alloc _ _ _ (Array.getElem?_eq_some_iff.1 hR2').1).trans hR2', (Array.getElem?_eq_some_iff.1 hR2').1, grown_new HG2'.out _⟩
  have hszP : w.heap.size < w2.heap.size := (Array.getElem?_eq_some_iff.1 hR2').1
  clear hc hg HC1 HG1 HR1 HCN hR2'
  go_wp2_with fail
  generalize (w2.alloc (.cells #[.int .i64 3, .slice none 0 0, .slice none 0 0, .slice none 0 0, .string ⟨#[]⟩, .slice none 0 0, .slice none 0 0, .int .i64 0, .int .u64 0, .int .i64 0, .int .i64 0, .int .i64 0, .int .i64 0, .int .i64 0] 35)) = W3 at *
  generalize w2.heap.size = P at *
  clear HC2' HG2' HR2'
  refine (ctext_any b rb s1 _ HC2.out).mono ?_
  rintro e w4 ⟨rfl, hc, hg⟩
  have HP4 := hid (HP2.out.grown hlt hg)
  have HP5 : Hid (InP w (w4.setCell ⟨P, 4, none⟩ (.string (tV s1))) P b #[.int .i64 3, .slice none 0 0, .slice none 0 0, .slice none 0 0, .string (tV s1), .slice none 0 0, .slice none 0 0, .int .i64 0, .int .u64 0, .int .i64 0, .int .i64 0, .int .i64 0, .int .i64 0, .int .i64 0]) := HP4.out.set 4 (.string (tV s1))
  have HT := hid (tV_size s1)
  have HW : Hid (∀ W', (w4.setCell ⟨P, 4, none⟩ (.string (tV s1))).grownBy W' (some w.heap.size) → HangsB w.heap.size W' (partV 3 s1) (.slice none 0 0) (.slice none 0 0) (.slice none 0 0) (.slice none 0 0) (.slice none 0 0) ∧ w.grownBy W' (some b)) := fun W' hg => by
    refine ⟨?_, grown_step HP5.out.2.2.2 hg (fun k hk => by cases hk; exact Nat.le_refl _)⟩
    have hty : ∀ k, some w.heap.size = some k → ∃ cs T fr, (w4.setCell ⟨P, 4, none⟩ (.string (tV s1))).heap[k]? = some (.cells cs T fr) ∧ T = 35 := fun k hk => by
      cases hk
      exact ⟨_, _, _, HP5.out.2.1, rfl⟩
    exact fun _ _ => ⟨items_nil _, strs_nil _, ints_nil _, by have := HT.out; simp only [partV]; unfold maxLen; simp; omega, strs_nil _, frees_nil _⟩
  have cP4 := HP4.out.cell
  have fP4 := HP4.out.frozen
  have cR4 := HP4.out.cellR
  have fR4 := HP4.out.frozenR
  clear hc hg HC2 HP2
  go_wp2
  refine bodyPost_ret (v := .agg #[.int .i64 3, .slice none 0 0, .slice none 0 0, .slice none 0 0, .string (tV s1), .slice none 0 0, .slice none 0 0, .int .i64 0, .int .u64 0, .int .i64 0, .int .i64 0, .int .i64 0, .int .i64 0, .int .i64 0]) (by simp [results, Tryz.results71, go_sem, cR4]) rfl ⟨_, _, _, _, _, rfl, HW.out _ ?_⟩
  repeat (refine grown_trans ?_ (grown_setCell _ _ _ _))
  exact grown_refl _ _

set_option maxHeartbeats 4000000 in
set_option maxRecDepth 10000 in
theorem takePage_4 (b rb : Nat) (s : St) (w : World) (h : AtSt w b rb s) (hk : iV (nS s) = 4) :
    Calls Tryz.prog 71 #[.pointer (some ⟨b, 0, none⟩)] w fun e w' => ∃ vi vk vd vv vf, e = .returned (.agg (pageCells (partV 4 (nS (nS s))) vi vk vd vv vf).toArray) ∧ HangsB w.heap.size w' (partV 4 (nS (nS s))) vi vk vd vv vf ∧ w.grownBy w' (some b) := by
  have H0 := hid (h.alloc (.cells #[.int .i64 0, .slice none 0 0, .slice none 0 0, .slice none 0 0, .string ⟨#[]⟩, .slice none 0 0, .slice none 0 0, .int .i64 0, .int .u64 0, .int .i64 0, .int .i64 0, .int .i64 0, .int .i64 0, .int .i64 0] 35))
  have hlt := h.lt
  have hlr := h.2.1
  have HG0 := hid (grown_new (grown_refl w (some b)) (.cells #[.int .i64 0, .slice none 0 0, .slice none 0 0, .slice none 0 0, .string ⟨#[]⟩, .slice none 0 0, .slice none 0 0, .int .i64 0, .int .u64 0, .int .i64 0, .int .i64 0, .int .i64 0, .int .i64 0, .int .i64 0] 35))
  have HR0 := hid (heap_newL w (.cells #[.int .i64 0, .slice none 0 0, .slice none 0 0, .slice none 0 0, .string ⟨#[]⟩, .slice none 0 0, .slice none 0 0, .int .i64 0, .int .u64 0, .int .i64 0, .int .i64 0, .int .i64 0, .int .i64 0, .int .i64 0] 35))
  have HCS := hid (fun W (hW : AtSt W b rb s) => cnum_any b rb s W hW)
  clear h
  generalize nS s = s0 at *
  have HCN : Hid (∀ W, AtSt W b rb s0 → Calls Tryz.prog 103 #[.pointer (some ⟨b, 0, none⟩)] W fun e w' => e = .returned (.int .i64 4) ∧ AtSt w' b rb (nS s0) ∧ W.grownBy w' (some b)) := fun W hW => by
    rw [← hk]
    exact takeNum_any b rb s0 W hW
  generalize nS s0 = s1 at *
  clear hk
  go_enter Tryz.func71, Tryz.ntmps71
  go_wp2_with fail
  refine (HCS.out _ H0.out).mono ?_
  rintro e w1 ⟨rfl, hc, hg⟩
  have HC1 := hid hc
  have HG1 := hid (grown_trans HG0.out hg)
  have HR1 : Hid (w1.heap[w.heap.size]? = some (.cells #[.int .i64 0, .slice none 0 0, .slice none 0 0, .slice none 0 0, .string ⟨#[]⟩, .slice none 0 0, .slice none 0 0, .int .i64 0, .int .u64 0, .int .i64 0, .int .i64 0, .int .i64 0, .int .i64 0, .int .i64 0] 35 (0, 0))) := (hg.block w.heap.size (by simp) (by simp; omega)).trans HR0.out
  clear hc hg H0 HG0 HR0 HCS
  go_wp2_with fail
  refine (HCN.out _ HC1.out).mono ?_
  rintro e w2 ⟨rfl, hc, hg⟩
  have HC2' := hid hc
  have HG2' := hid (grown_trans HG1.out hg)
  have hR2' : w2.heap[w.heap.size]? = some (.cells #[.int .i64 0, .slice none 0 0, .slice none 0 0, .slice none 0 0, .string ⟨#[]⟩, .slice none 0 0, .slice none 0 0, .int .i64 0, .int .u64 0, .int .i64 0, .int .i64 0, .int .i64 0, .int .i64 0, .int .i64 0] 35 (0, 0)) := (hg.block w.heap.size (by have := (Array.getElem?_eq_some_iff.1 HR1.out).1; omega) (by simp; omega)).trans HR1.out
  have HR2' := hid hR2'
  have HC2 := hid (hc.alloc (.cells #[.int .i64 4, .slice none 0 0, .slice none 0 0, .slice none 0 0, .string ⟨#[]⟩, .slice none 0 0, .slice none 0 0, .int .i64 0, .int .u64 0, .int .i64 0, .int .i64 0, .int .i64 0, .int .i64 0, .int .i64 0] 35))
  have HP2 : Hid (InP w (w2.alloc (.cells #[.int .i64 4, .slice none 0 0, .slice none 0 0, .slice none 0 0, .string ⟨#[]⟩, .slice none 0 0, .slice none 0 0, .int .i64 0, .int .u64 0, .int .i64 0, .int .i64 0, .int .i64 0, .int .i64 0, .int .i64 0] 35)) w2.heap.size b #[.int .i64 4, .slice none 0 0, .slice none 0 0, .slice none 0 0, .string ⟨#[]⟩, .slice none 0 0, .slice none 0 0, .int .i64 0, .int .u64 0, .int .i64 0, .int .i64 0, .int .i64 0, .int .i64 0, .int .i64 0]) :=
    ⟨heap_newL w2 _, (Below.heap_alloc _ _ _ (Array.getElem?_eq_some_iff.1 hR2').1).trans hR2', (Array.getElem?_eq_some_iff.1 hR2').1, grown_new HG2'.out _⟩
  have hszP : w.heap.size < w2.heap.size := (Array.getElem?_eq_some_iff.1 hR2').1
  clear hc hg HC1 HG1 HR1 HCN hR2'
  have HTT := hid (takeTexts_any b rb s1 12 _ HC2.out (by omega))
  have HPV : Hid ((partV 4 s1).vals = textsV (min (nV s1) 12) (nS s1)) := rfl
  go_wp2_with fail
  refine HTT.out.mono ?_
  rintro e w4 ⟨v, rfl, hov, hc, hg⟩
  obtain ⟨av, nv, cv, rfl⟩ := hov.slice
  have HOV := hid hov
  generalize (w2.alloc (.cells #[.int .i64 4, .slice none 0 0, .slice none 0 0, .slice none 0 0, .string ⟨#[]⟩, .slice none 0 0, .slice none 0 0, .int .i64 0, .int .u64 0, .int .i64 0, .int .i64 0, .int .i64 0, .int .i64 0, .int .i64 0] 35)) = W3 at *
  generalize w2.heap.size = P at *
  clear HC2' HG2' HR2' HTT hov
  have hW3 : w.heap.size ≤ W3.heap.size := HP2.out.2.2.2.size
  have HP4 := hid (HP2.out.grown hlt hg)
  have HP5 : Hid (InP w (w4.setCell ⟨P, 5, none⟩ (.slice av nv cv)) P b #[.int .i64 4, .slice none 0 0, .slice none 0 0, .slice none 0 0, .string ⟨#[]⟩, .slice av nv cv, .slice none 0 0, .int .i64 0, .int .u64 0, .int .i64 0, .int .i64 0, .int .i64 0, .int .i64 0, .int .i64 0]) := HP4.out.set 5 (.slice av nv cv)
  have HOV5 := hid (HOV.out.setNe HP4.out.1 (by decide) 5 (.slice av nv cv))
  have HW : Hid (∀ W', (w4.setCell ⟨P, 5, none⟩ (.slice av nv cv)).grownBy W' (some w.heap.size) → HangsB w.heap.size W' (partV 4 s1) (.slice none 0 0) (.slice none 0 0) (.slice none 0 0) (.slice av nv cv) (.slice none 0 0) ∧ w.grownBy W' (some b)) := fun W' hg => by
    refine ⟨?_, grown_step HP5.out.2.2.2 hg (fun k hk => by cases hk; exact Nat.le_refl _)⟩
    have hty : ∀ k, some w.heap.size = some k → ∃ cs T fr, (w4.setCell ⟨P, 5, none⟩ (.slice av nv cv)).heap[k]? = some (.cells cs T fr) ∧ T = 35 := fun k hk => by
      cases hk
      exact ⟨_, _, _, HP5.out.2.1, rfl⟩
    exact fun _ ha => ⟨items_nil _, strs_nil _, ints_nil _, text_nil_le, by rw [HPV.out]; exact (((HOV5.out.ty hg (fun k hk => by obtain ⟨cs, T, fr, h1, h2⟩ := hty k hk; exact ⟨cs, T, fr, h1, by rw [h2]; decide⟩)).mono hW3).agree ha).strs, frees_nil _⟩
  have cP4 := HP4.out.cell
  have fP4 := HP4.out.frozen
  have cR4 := HP4.out.cellR
  have fR4 := HP4.out.frozenR
  clear hc hg HC2 HP2
  go_wp2
  refine bodyPost_ret (v := .agg #[.int .i64 4, .slice none 0 0, .slice none 0 0, .slice none 0 0, .string ⟨#[]⟩, .slice av nv cv, .slice none 0 0, .int .i64 0, .int .u64 0, .int .i64 0, .int .i64 0, .int .i64 0, .int .i64 0, .int .i64 0]) (by simp [results, Tryz.results71, go_sem, cR4]) rfl ⟨_, _, _, _, _, rfl, HW.out _ ?_⟩
  repeat (refine grown_trans ?_ (grown_setCell _ _ _ _))
  exact grown_refl _ _

set_option maxHeartbeats 4000000 in
set_option maxRecDepth 10000 in
theorem takePage_6 (b rb : Nat) (s : St) (w : World) (h : AtSt w b rb s) (hk : iV (nS s) = 6) :
    Calls Tryz.prog 71 #[.pointer (some ⟨b, 0, none⟩)] w fun e w' => ∃ vi vk vd vv vf, e = .returned (.agg (pageCells (partV 6 (nS (nS s))) vi vk vd vv vf).toArray) ∧ HangsB w.heap.size w' (partV 6 (nS (nS s))) vi vk vd vv vf ∧ w.grownBy w' (some b) := by
  have H0 := hid (h.alloc (.cells #[.int .i64 0, .slice none 0 0, .slice none 0 0, .slice none 0 0, .string ⟨#[]⟩, .slice none 0 0, .slice none 0 0, .int .i64 0, .int .u64 0, .int .i64 0, .int .i64 0, .int .i64 0, .int .i64 0, .int .i64 0] 35))
  have hlt := h.lt
  have hlr := h.2.1
  have HG0 := hid (grown_new (grown_refl w (some b)) (.cells #[.int .i64 0, .slice none 0 0, .slice none 0 0, .slice none 0 0, .string ⟨#[]⟩, .slice none 0 0, .slice none 0 0, .int .i64 0, .int .u64 0, .int .i64 0, .int .i64 0, .int .i64 0, .int .i64 0, .int .i64 0] 35))
  have HR0 := hid (heap_newL w (.cells #[.int .i64 0, .slice none 0 0, .slice none 0 0, .slice none 0 0, .string ⟨#[]⟩, .slice none 0 0, .slice none 0 0, .int .i64 0, .int .u64 0, .int .i64 0, .int .i64 0, .int .i64 0, .int .i64 0, .int .i64 0] 35))
  have HCS := hid (fun W (hW : AtSt W b rb s) => cnum_any b rb s W hW)
  clear h
  generalize nS s = s0 at *
  have HCN : Hid (∀ W, AtSt W b rb s0 → Calls Tryz.prog 103 #[.pointer (some ⟨b, 0, none⟩)] W fun e w' => e = .returned (.int .i64 6) ∧ AtSt w' b rb (nS s0) ∧ W.grownBy w' (some b)) := fun W hW => by
    rw [← hk]
    exact takeNum_any b rb s0 W hW
  generalize nS s0 = s1 at *
  clear hk
  go_enter Tryz.func71, Tryz.ntmps71
  go_wp2_with fail
  refine (HCS.out _ H0.out).mono ?_
  rintro e w1 ⟨rfl, hc, hg⟩
  have HC1 := hid hc
  have HG1 := hid (grown_trans HG0.out hg)
  have HR1 : Hid (w1.heap[w.heap.size]? = some (.cells #[.int .i64 0, .slice none 0 0, .slice none 0 0, .slice none 0 0, .string ⟨#[]⟩, .slice none 0 0, .slice none 0 0, .int .i64 0, .int .u64 0, .int .i64 0, .int .i64 0, .int .i64 0, .int .i64 0, .int .i64 0] 35 (0, 0))) := (hg.block w.heap.size (by simp) (by simp; omega)).trans HR0.out
  clear hc hg H0 HG0 HR0 HCS
  go_wp2_with fail
  refine (HCN.out _ HC1.out).mono ?_
  rintro e w2 ⟨rfl, hc, hg⟩
  have HC2' := hid hc
  have HG2' := hid (grown_trans HG1.out hg)
  have hR2' : w2.heap[w.heap.size]? = some (.cells #[.int .i64 0, .slice none 0 0, .slice none 0 0, .slice none 0 0, .string ⟨#[]⟩, .slice none 0 0, .slice none 0 0, .int .i64 0, .int .u64 0, .int .i64 0, .int .i64 0, .int .i64 0, .int .i64 0, .int .i64 0] 35 (0, 0)) := (hg.block w.heap.size (by have := (Array.getElem?_eq_some_iff.1 HR1.out).1; omega) (by simp; omega)).trans HR1.out
  have HR2' := hid hR2'
  have HC2 := hid (hc.alloc (.cells #[.int .i64 6, .slice none 0 0, .slice none 0 0, .slice none 0 0, .string ⟨#[]⟩, .slice none 0 0, .slice none 0 0, .int .i64 0, .int .u64 0, .int .i64 0, .int .i64 0, .int .i64 0, .int .i64 0, .int .i64 0] 35))
  have HP2 : Hid (InP w (w2.alloc (.cells #[.int .i64 6, .slice none 0 0, .slice none 0 0, .slice none 0 0, .string ⟨#[]⟩, .slice none 0 0, .slice none 0 0, .int .i64 0, .int .u64 0, .int .i64 0, .int .i64 0, .int .i64 0, .int .i64 0, .int .i64 0] 35)) w2.heap.size b #[.int .i64 6, .slice none 0 0, .slice none 0 0, .slice none 0 0, .string ⟨#[]⟩, .slice none 0 0, .slice none 0 0, .int .i64 0, .int .u64 0, .int .i64 0, .int .i64 0, .int .i64 0, .int .i64 0, .int .i64 0]) :=
    ⟨heap_newL w2 _, (Below.heap_alloc _ _ _ (Array.getElem?_eq_some_iff.1 hR2').1).trans hR2', (Array.getElem?_eq_some_iff.1 hR2').1, grown_new HG2'.out _⟩
  have hszP : w.heap.size < w2.heap.size := (Array.getElem?_eq_some_iff.1 hR2').1
  clear hc hg HC1 HG1 HR1 HCN hR2'
  go_wp2_with fail
  generalize (w2.alloc (.cells #[.int .i64 6, .slice none 0 0, .slice none 0 0, .slice none 0 0, .string ⟨#[]⟩, .slice none 0 0, .slice none 0 0, .int .i64 0, .int .u64 0, .int .i64 0, .int .i64 0, .int .i64 0, .int .i64 0, .int .i64 0] 35)) = W3 at *
  generalize w2.heap.size = P at *
  clear HC2' HG2' HR2'
  refine (cnum_any b rb s1 _ HC2.out).mono ?_
  rintro e w4 ⟨rfl, hc, hg⟩
  have HP4 := hid (HP2.out.grown hlt hg)
  have HC4 := hid hc
  clear hc hg HC2 HP2
  go_wp2_with fail
  refine (takeRoot_any b rb (nS s1) _ HC4.out).mono ?_
  rintro e w5 ⟨rfl, hc, hg⟩
  have HP5 := hid (HP4.out.grown hlt hg)
  have HC5 := hid hc
  clear hc hg HC4 HP4
  go_wp2_with fail
  refine (takeNum_any b rb _ _ HC5.out).mono ?_
  rintro e w6 ⟨rfl, hc, hg⟩
  have HP6 := hid (HP5.out.grown hlt hg)
  have HC6 := hid hc
  clear hc hg HC5 HP5
  go_wp2_with fail
  refine (takeNum_any b rb _ _ HC6.out).mono ?_
  rintro e w7 ⟨rfl, hc, hg⟩
  have HP7 := hid (HP6.out.grown hlt hg)
  clear hc hg HC6 HP6
  have HP8 : Hid (InP w ((((((w7.setCell ⟨P, 8, none⟩ (.int .u64 (nV s1))).setCell ⟨P, 9, none⟩ (.int .i64 (rootV (nS s1)).page)).setCell ⟨P, 10, none⟩ (.int .i64 (rootV (nS s1)).count)).setCell ⟨P, 11, none⟩ (.int .i64 (rootV (nS s1)).flags)).setCell ⟨P, 12, none⟩ (.int .i64 (iV (rootS (nS s1))))).setCell ⟨P, 13, none⟩ (.int .i64 (iV (nS (rootS (nS s1)))))) P b #[.int .i64 6, .slice none 0 0, .slice none 0 0, .slice none 0 0, .string ⟨#[]⟩, .slice none 0 0, .slice none 0 0, .int .i64 0, .int .u64 (nV s1), .int .i64 (rootV (nS s1)).page, .int .i64 (rootV (nS s1)).count, .int .i64 (rootV (nS s1)).flags, .int .i64 (iV (rootS (nS s1))), .int .i64 (iV (nS (rootS (nS s1))))]) := (((((HP7.out.set 8 _).set 9 _).set 10 _).set 11 _).set 12 _).set 13 _
  have HW : Hid (∀ W', ((((((w7.setCell ⟨P, 8, none⟩ (.int .u64 (nV s1))).setCell ⟨P, 9, none⟩ (.int .i64 (rootV (nS s1)).page)).setCell ⟨P, 10, none⟩ (.int .i64 (rootV (nS s1)).count)).setCell ⟨P, 11, none⟩ (.int .i64 (rootV (nS s1)).flags)).setCell ⟨P, 12, none⟩ (.int .i64 (iV (rootS (nS s1))))).setCell ⟨P, 13, none⟩ (.int .i64 (iV (nS (rootS (nS s1)))))).grownBy W' (some w.heap.size) → HangsB w.heap.size W' (partV 6 s1) (.slice none 0 0) (.slice none 0 0) (.slice none 0 0) (.slice none 0 0) (.slice none 0 0) ∧ w.grownBy W' (some b)) := fun W' hg => by
    refine ⟨?_, grown_step HP8.out.2.2.2 hg (fun k hk => by cases hk; exact Nat.le_refl _)⟩
    have hty : ∀ k, some w.heap.size = some k → ∃ cs T fr, ((((((w7.setCell ⟨P, 8, none⟩ (.int .u64 (nV s1))).setCell ⟨P, 9, none⟩ (.int .i64 (rootV (nS s1)).page)).setCell ⟨P, 10, none⟩ (.int .i64 (rootV (nS s1)).count)).setCell ⟨P, 11, none⟩ (.int .i64 (rootV (nS s1)).flags)).setCell ⟨P, 12, none⟩ (.int .i64 (iV (rootS (nS s1))))).setCell ⟨P, 13, none⟩ (.int .i64 (iV (nS (rootS (nS s1)))))).heap[k]? = some (.cells cs T fr) ∧ T = 35 := fun k hk => by
      cases hk
      exact ⟨_, _, _, HP8.out.2.1, rfl⟩
    exact fun _ _ => ⟨items_nil _, strs_nil _, ints_nil _, text_nil_le, strs_nil _, frees_nil _⟩
  have cP4 := HP7.out.cell
  have fP4 := HP7.out.frozen
  have cR4 := HP7.out.cellR
  have fR4 := HP7.out.frozenR
  go_wp2
  refine bodyPost_ret (v := .agg #[.int .i64 6, .slice none 0 0, .slice none 0 0, .slice none 0 0, .string ⟨#[]⟩, .slice none 0 0, .slice none 0 0, .int .i64 0, .int .u64 (nV s1), .int .i64 (rootV (nS s1)).page, .int .i64 (rootV (nS s1)).count, .int .i64 (rootV (nS s1)).flags, .int .i64 (iV (rootS (nS s1))), .int .i64 (iV (nS (rootS (nS s1))))]) (by simp [results, Tryz.results71, go_sem, cR4]) rfl ⟨_, _, _, _, _, rfl, HW.out _ ?_⟩
  repeat (refine grown_trans ?_ (grown_setCell _ _ _ _))
  exact grown_refl _ _

end Go.Proofs.YtpionokcabjokaaGreat
