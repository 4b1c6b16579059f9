/- Contract of package page's takeItem. -/
import Derived.Test.YtgnmjdcmaahlnaaNa
namespace Go.Proofs.Ytgnmjdcmaahlnaa
open Go.RowKit Go.Sort

def itemV (s : St) : ItemD :=
  if iV (tS s) = 1 then { noItem with key := tV s, kind := iV (tS s), val := tV (nS (tS s)) }
  else if iV (tS s) = 2 then { noItem with key := tV s, kind := iV (tS s), run := iV (nS (tS s)), len := iV (nS (nS (tS s))) }
  else if iV (tS s) = 3 then { noItem with key := tV s, kind := iV (tS s), vals := textsV (min (nV (nS (tS s))) 3) (nS (nS (tS s))), dup := iV (tSn (min (nV (nS (tS s))) 3) (nS (nS (tS s)))) }
  else if iV (tS s) = 4 then { noItem with key := tV s, kind := iV (tS s), root := rootV (nS (tS s)) }
  else { noItem with key := tV s, kind := iV (tS s) }
def itemS (s : St) : St :=
  if iV (tS s) = 1 then tS (nS (tS s))
  else if iV (tS s) = 2 then nS (nS (nS (tS s)))
  else if iV (tS s) = 3 then nS (tSn (min (nV (nS (tS s))) 3) (nS (nS (tS s))))
  else if iV (tS s) = 4 then rootS (nS (tS s))
  else nS (tS s)
theorem itemV_eq (s : St) : itemV s =
  if iV (tS s) = 1 then { noItem with key := tV s, kind := iV (tS s), val := tV (nS (tS s)) }
  else if iV (tS s) = 2 then { noItem with key := tV s, kind := iV (tS s), run := iV (nS (tS s)), len := iV (nS (nS (tS s))) }
  else if iV (tS s) = 3 then { noItem with key := tV s, kind := iV (tS s), vals := textsV (min (nV (nS (tS s))) 3) (nS (nS (tS s))), dup := iV (tSn (min (nV (nS (tS s))) 3) (nS (nS (tS s)))) }
  else if iV (tS s) = 4 then { noItem with key := tV s, kind := iV (tS s), root := rootV (nS (tS s)) }
  else { noItem with key := tV s, kind := iV (tS s) } := rfl
theorem itemS_eq (s : St) : itemS s =
  if iV (tS s) = 1 then tS (nS (tS s))
  else if iV (tS s) = 2 then nS (nS (nS (tS s)))
  else if iV (tS s) = 3 then nS (tSn (min (nV (nS (tS s))) 3) (nS (nS (tS s))))
  else if iV (tS s) = 4 then rootS (nS (tS s))
  else nS (tS s) := rfl
theorem frozen_rowL {w : World} {b : Nat} {cs : Array Value} {T : TypeId} (hb : w.heap[b]? = some (.cells cs T (0, 0))) (j : Nat) : w.frozen? ⟨b, j, none⟩ = false := by
  simp [World.frozen?, hb]
theorem ownStrs_nil (w : World) (base : Nat) : OwnStrs w base (.slice none 0 0) [] := ⟨World.ownsRow_nil _ _ _ _, by simp, by simp⟩
theorem OwnStrs.kept {w w' : World} {base : Nat} {v : Value} {l : List ByteArray} {row : Option Nat} (h : OwnStrs w base v l) (hg : w.grownBy w' row) (hr : ∀ k, row = some k → k < base) : OwnStrs w' base v l := by
  refine ⟨h.1.kept hg ?_, h.2⟩
  cases hv : v.ownBlock with
  | none => exact .inl rfl
  | some g =>
    refine .inr (fun e => ?_)
    have h1 := (h.1.lt g hv).1
    have h2 := hr g e.symm
    omega
theorem OwnStrs.slice {w : World} {base : Nat} {v : Value} {l : List ByteArray} (h : OwnStrs w base v l) : ∃ ao n cap, v = .slice ao n cap := by
  rcases h.1.2 with ⟨rfl, _⟩ | ⟨g, cap, cur, rfl, _⟩
  · exact ⟨_, _, _, rfl⟩
  · exact ⟨_, _, _, rfl⟩
theorem OwnStrs.setNe {w : World} {base p : Nat} {v : Value} {l : List ByteArray} (h : OwnStrs w base v l) {cs : Array Value} {T : TypeId} {fr : Nat × Nat} (hp : w.heap[p]? = some (.cells cs T fr)) (hT : T ≠ 9) (o : Nat) (u : Value) : OwnStrs (w.setCell ⟨p, o, none⟩ u) base v l := by
  refine ⟨h.1.kept (grown_setCell w p o u) ?_, h.2⟩
  rcases h.1.2 with ⟨rfl, _⟩ | ⟨g, cap, cur, rfl, _, hg, _⟩
  · exact .inl rfl
  · refine .inr (fun e => ?_)
    simp only [Value.ownBlock, Option.some.injEq] at e
    subst e
    rw [hg] at hp
    simp only [Option.some.injEq, Obj.cells.injEq] at hp
    exact hT hp.2.1.symm
theorem OwnStrs.setLt {w : World} {base p : Nat} {v : Value} {l : List ByteArray} (h : OwnStrs w base v l) (hp : p < base) (o : Nat) (u : Value) : OwnStrs (w.setCell ⟨p, o, none⟩ u) base v l :=
  h.kept (grown_setCell w p o u) (fun k hk => by cases hk; exact hp)
theorem OwnStrs.mono {w : World} {base B : Nat} {v : Value} {l : List ByteArray} (h : OwnStrs w base v l) (hB : B ≤ base) : OwnStrs w B v l := ⟨owns_mono h.1 hB, h.2⟩

set_option maxHeartbeats 4000000 in
theorem takeItem_any (b rb : Nat) (s : St) (w : World) (h : AtSt w b rb s) :
    Calls Try.prog 57 #[.pointer (some ⟨b, 0, none⟩)] w fun e w' => ∃ v, e = .returned (.agg (itemCells (itemV s) v).toArray) ∧ OwnStrs w' w.heap.size v (itemV s).vals ∧ AtSt w' b rb (itemS s) ∧ w.grownBy w' (some b) := by
  have H0 := hid (h.alloc (.cells #[.string ⟨#[]⟩, .int .i64 0, .string ⟨#[]⟩, .int .i64 0, .int .i64 0, .slice none 0 0, .int .i64 0, .int .i64 0, .int .i64 0, .int .i64 0] 80))
  have hlt := h.lt
  have hlr := h.2.1
  have HG0 := hid (grown_new (grown_refl w (some b)) (.cells #[.string ⟨#[]⟩, .int .i64 0, .string ⟨#[]⟩, .int .i64 0, .int .i64 0, .slice none 0 0, .int .i64 0, .int .i64 0, .int .i64 0, .int .i64 0] 80))
  have HR0 := hid (heap_newL w (.cells #[.string ⟨#[]⟩, .int .i64 0, .string ⟨#[]⟩, .int .i64 0, .int .i64 0, .slice none 0 0, .int .i64 0, .int .i64 0, .int .i64 0, .int .i64 0] 80))
  clear h
  have HV := hid (itemV_eq s)
  have HS := hid (itemS_eq s)
  generalize itemV s = XV at *
  generalize itemS s = XS at *
  have HCT := hid (fun W (hW : AtSt W b rb s) => ctext_any b rb s W hW)
  generalize tV s = T1 at *
  generalize tS s = s1 at *
  have HCN := hid (fun W (hW : AtSt W b rb s1) => takeNum_any b rb s1 W hW)
  generalize iV s1 = d at *
  generalize nS s1 = s2 at *
  go_enter Try.func57, Try.ntmps57
  go_wp2_with fail
  refine (HCT.out _ H0.out).mono ?_
  rintro e w1 ⟨rfl, hc, hg⟩
  have HC1 := hid hc
  have HG1 := hid (grown_trans HG0.out hg)
  have HR1 : Hid (w1.heap[w.heap.size]? = some (.cells #[.string ⟨#[]⟩, .int .i64 0, .string ⟨#[]⟩, .int .i64 0, .int .i64 0, .slice none 0 0, .int .i64 0, .int .i64 0, .int .i64 0, .int .i64 0] 80 (0, 0))) := (hg.block w.heap.size (by simp) (by simp; omega)).trans HR0.out
  clear hc hg H0 HG0 HR0 HCT
  go_wp2_with fail
  refine (HCN.out _ HC1.out).mono ?_
  rintro e w2 ⟨rfl, hc, hg⟩
  have HC2' := hid hc
  have HG2' := hid (grown_trans HG1.out hg)
  have HC2 := hid (hc.alloc (.cells #[.string T1, .int .i64 d, .string ⟨#[]⟩, .int .i64 0, .int .i64 0, .slice none 0 0, .int .i64 0, .int .i64 0, .int .i64 0, .int .i64 0] 80))
  have HG2 := hid (grown_new (grown_trans HG1.out hg) (.cells #[.string T1, .int .i64 d, .string ⟨#[]⟩, .int .i64 0, .int .i64 0, .slice none 0 0, .int .i64 0, .int .i64 0, .int .i64 0, .int .i64 0] 80))
  have hR2' : w2.heap[w.heap.size]? = some (.cells #[.string ⟨#[]⟩, .int .i64 0, .string ⟨#[]⟩, .int .i64 0, .int .i64 0, .slice none 0 0, .int .i64 0, .int .i64 0, .int .i64 0, .int .i64 0] 80 (0, 0)) := (hg.block w.heap.size (by have := (Array.getElem?_eq_some_iff.1 HR1.out).1; omega) (by simp; omega)).trans HR1.out
  have HR2 : Hid ((w2.alloc (.cells #[.string T1, .int .i64 d, .string ⟨#[]⟩, .int .i64 0, .int .i64 0, .slice none 0 0, .int .i64 0, .int .i64 0, .int .i64 0, .int .i64 0] 80)).heap[w.heap.size]? = some (.cells #[.string ⟨#[]⟩, .int .i64 0, .string ⟨#[]⟩, .int .i64 0, .int .i64 0, .slice none 0 0, .int .i64 0, .int .i64 0, .int .i64 0, .int .i64 0] 80 (0, 0))) := (Below.heap_alloc _ _ _ (Array.getElem?_eq_some_iff.1 hR2').1).trans hR2'
  have HR2' := hid hR2'
  have HP2 := hid (heap_newL w2 (.cells #[.string T1, .int .i64 d, .string ⟨#[]⟩, .int .i64 0, .int .i64 0, .slice none 0 0, .int .i64 0, .int .i64 0, .int .i64 0, .int .i64 0] 80))
  have hszP : w.heap.size < w2.heap.size := (Array.getElem?_eq_some_iff.1 hR2').1
  clear hc hg HC1 HG1 HR1 HCN hR2'
  generalize hPdef : w2.heap.size = P at *
  by_cases h1 : d = 1
  · subst h1
    go_wp2_with fail
    refine (ctext_any b rb s2 _ HC2.out).mono ?_
    rintro e w3 ⟨rfl, hc, hg⟩
    have HC := hid hc
    have HG := hid (grown_trans HG2.out hg)
    have hPw3 : w3.heap[P]? = some (.cells #[.string T1, .int .i64 1, .string ⟨#[]⟩, .int .i64 0, .int .i64 0, .slice none 0 0, .int .i64 0, .int .i64 0, .int .i64 0, .int .i64 0] 80 (0, 0)) := (hg.block P (by have := (Array.getElem?_eq_some_iff.1 HP2.out).1; omega) (by simp; omega)).trans HP2.out
    have hRw3 : w3.heap[w.heap.size]? = some (.cells #[.string ⟨#[]⟩, .int .i64 0, .string ⟨#[]⟩, .int .i64 0, .int .i64 0, .slice none 0 0, .int .i64 0, .int .i64 0, .int .i64 0, .int .i64 0] 80 (0, 0)) := (hg.block w.heap.size (by have := (Array.getElem?_eq_some_iff.1 HR2.out).1; omega) (by simp; omega)).trans HR2.out
    have cP := cell_rowL hPw3
    have cR := cell_rowL hRw3
    have fP := frozen_rowL hPw3
    have fR := frozen_rowL hRw3
    clear hc hg HC2 HG2 HP2 HR2
    have hXV : XV = { noItem with key := T1, kind := 1, val := tV s2 } := by rw [HV.out]; simp
    have hXS : XS = tS s2 := by rw [HS.out]; simp
    clear HV HS
    subst hXV hXS
    clear hPw3 hRw3
    go_wp2
    refine bodyPost_ret (v := .agg #[.string T1, .int .i64 1, .string (tV s2), .int .i64 0, .int .i64 0, .slice none 0 0, .int .i64 0, .int .i64 0, .int .i64 0, .int .i64 0]) (by simp [results, Try.results57, go_sem, cR]) rfl ⟨.slice none 0 0, rfl, ownStrs_nil _ _, ?_, ?_⟩
    · repeat (refine AtSt.set ?_ (by omega) (by omega) _ _)
      exact HC.out
    · repeat (refine grown_set ?_ _ _ (by omega) _)
      exact HG.out
  by_cases h2 : d = 2
  · subst h2
    go_wp2_with fail
    refine (takeNum_any b rb s2 _ HC2.out).mono ?_
    rintro e w3 ⟨rfl, hc, hg⟩
    have HC3 := hid hc
    have HG3 := hid (grown_trans HG2.out hg)
    have hPw3 : w3.heap[P]? = some (.cells #[.string T1, .int .i64 2, .string ⟨#[]⟩, .int .i64 0, .int .i64 0, .slice none 0 0, .int .i64 0, .int .i64 0, .int .i64 0, .int .i64 0] 80 (0, 0)) := (hg.block P (by have := (Array.getElem?_eq_some_iff.1 HP2.out).1; omega) (by simp; omega)).trans HP2.out
    have hRw3 : w3.heap[w.heap.size]? = some (.cells #[.string ⟨#[]⟩, .int .i64 0, .string ⟨#[]⟩, .int .i64 0, .int .i64 0, .slice none 0 0, .int .i64 0, .int .i64 0, .int .i64 0, .int .i64 0] 80 (0, 0)) := (hg.block w.heap.size (by have := (Array.getElem?_eq_some_iff.1 HR2.out).1; omega) (by simp; omega)).trans HR2.out
    have cP := cell_rowL hPw3
    have fP := frozen_rowL hPw3
    have HC4 := hid (HC3.out.set (p := P) (by omega) (by omega) 3 (.int .i64 (iV s2)))
    have HG4 := hid (grown_set HG3.out P 3 (by omega) (.int .i64 (iV s2)))
    have HP4 : Hid ((w3.setCell ⟨P, 3, none⟩ (.int .i64 (iV s2))).heap[P]? = some (.cells #[.string T1, .int .i64 2, .string ⟨#[]⟩, .int .i64 (iV s2), .int .i64 0, .slice none 0 0, .int .i64 0, .int .i64 0, .int .i64 0, .int .i64 0] 80 (0, 0))) := by
      show _ = _
      rw [heap_setCell_same w3 P 3 _ _ _ hPw3]
      rfl
    have HR4 : Hid ((w3.setCell ⟨P, 3, none⟩ (.int .i64 (iV s2))).heap[w.heap.size]? = some (.cells #[.string ⟨#[]⟩, .int .i64 0, .string ⟨#[]⟩, .int .i64 0, .int .i64 0, .slice none 0 0, .int .i64 0, .int .i64 0, .int .i64 0, .int .i64 0] 80 (0, 0))) := (Below.heap_setCell _ _ _ _ (by simp; omega)).trans hRw3
    clear hc hg HC2 HG2 HP2 HR2 HC3 HG3 hPw3 hRw3
    go_wp2_with fail
    clear cP fP
    generalize w3.setCell ⟨P, 3, none⟩ (.int .i64 (iV s2)) = W4 at *
    refine (takeNum_any b rb (nS s2) _ HC4.out).mono ?_
    rintro e w5 ⟨rfl, hc, hg⟩
    have HC := hid hc
    have HG := hid (grown_trans HG4.out hg)
    have hPw5 : w5.heap[P]? = some (.cells #[.string T1, .int .i64 2, .string ⟨#[]⟩, .int .i64 (iV s2), .int .i64 0, .slice none 0 0, .int .i64 0, .int .i64 0, .int .i64 0, .int .i64 0] 80 (0, 0)) := (hg.block P (by have := (Array.getElem?_eq_some_iff.1 HP4.out).1; omega) (by simp; omega)).trans HP4.out
    have hRw5 : w5.heap[w.heap.size]? = some (.cells #[.string ⟨#[]⟩, .int .i64 0, .string ⟨#[]⟩, .int .i64 0, .int .i64 0, .slice none 0 0, .int .i64 0, .int .i64 0, .int .i64 0, .int .i64 0] 80 (0, 0)) := (hg.block w.heap.size (by have := (Array.getElem?_eq_some_iff.1 HR4.out).1; omega) (by simp; omega)).trans HR4.out
    have cP := cell_rowL hPw5
    have cR := cell_rowL hRw5
    have fP := frozen_rowL hPw5
    have fR := frozen_rowL hRw5
    clear hc hg HC4 HG4 HP4 HR4
    have hXV : XV = { noItem with key := T1, kind := 2, run := iV s2, len := iV (nS s2) } := by rw [HV.out]; simp
    have hXS : XS = nS (nS s2) := by rw [HS.out]; simp
    clear HV HS
    subst hXV hXS
    clear hPw5 hRw5
    go_wp2
    refine bodyPost_ret (v := .agg #[.string T1, .int .i64 2, .string ⟨#[]⟩, .int .i64 (iV s2), .int .i64 (iV (nS s2)), .slice none 0 0, .int .i64 0, .int .i64 0, .int .i64 0, .int .i64 0]) (by simp [results, Try.results57, go_sem, cR]) rfl ⟨.slice none 0 0, rfl, ownStrs_nil _ _, ?_, ?_⟩
    · repeat (refine AtSt.set ?_ (by omega) (by omega) _ _)
      exact HC.out
    · repeat (refine grown_set ?_ _ _ (by omega) _)
      exact HG.out
  by_cases h3 : d = 3
  · subst h3
    have hXV : XV = { noItem with key := T1, kind := 3, vals := textsV (min (nV s2) 3) (nS s2), dup := iV (tSn (min (nV s2) 3) (nS s2)) } := by rw [HV.out]; simp
    have hXS : XS = nS (tSn (min (nV s2) 3) (nS s2)) := by rw [HS.out]; simp
    have HTT := hid (takeTexts_any b rb s2 3 _ HC2.out (by omega))
    generalize textsV (min (nV s2) 3) (nS s2) = VL at *
    generalize tSn (min (nV s2) 3) (nS s2) = s3 at *
    go_wp2_with fail
    refine HTT.out.mono ?_
    rintro e w3 ⟨v, rfl, hov, hc, hg⟩
    have hbase : P ≤ (w2.alloc (.cells #[.string T1, .int .i64 3, .string ⟨#[]⟩, .int .i64 0, .int .i64 0, .slice none 0 0, .int .i64 0, .int .i64 0, .int .i64 0, .int .i64 0] 80)).heap.size := by simp; omega
    have HC3 := hid hc
    have HG3 := hid (grown_trans HG2.out hg)
    have hPw3 : w3.heap[P]? = some (.cells #[.string T1, .int .i64 3, .string ⟨#[]⟩, .int .i64 0, .int .i64 0, .slice none 0 0, .int .i64 0, .int .i64 0, .int .i64 0, .int .i64 0] 80 (0, 0)) := (hg.block P (by have := (Array.getElem?_eq_some_iff.1 HP2.out).1; omega) (by simp; omega)).trans HP2.out
    have hRw3 : w3.heap[w.heap.size]? = some (.cells #[.string ⟨#[]⟩, .int .i64 0, .string ⟨#[]⟩, .int .i64 0, .int .i64 0, .slice none 0 0, .int .i64 0, .int .i64 0, .int .i64 0, .int .i64 0] 80 (0, 0)) := (hg.block w.heap.size (by have := (Array.getElem?_eq_some_iff.1 HR2.out).1; omega) (by simp; omega)).trans HR2.out
    have cP := cell_rowL hPw3
    have fP := frozen_rowL hPw3
    have HOV := hid ((hov.mono hbase).setNe hPw3 (by decide) 5 v)
    obtain ⟨av, nv, cv, rfl⟩ := hov.slice
    have HC4 := hid (HC3.out.set (p := P) (by omega) (by omega) 5 (.slice av nv cv))
    have HG4 := hid (grown_set HG3.out P 5 (by omega) (.slice av nv cv))
    have HP4 : Hid ((w3.setCell ⟨P, 5, none⟩ (.slice av nv cv)).heap[P]? = some (.cells #[.string T1, .int .i64 3, .string ⟨#[]⟩, .int .i64 0, .int .i64 0, .slice av nv cv, .int .i64 0, .int .i64 0, .int .i64 0, .int .i64 0] 80 (0, 0))) := by
      show _ = _
      rw [heap_setCell_same w3 P 5 _ _ _ hPw3]
      rfl
    have HR4 : Hid ((w3.setCell ⟨P, 5, none⟩ (.slice av nv cv)).heap[w.heap.size]? = some (.cells #[.string ⟨#[]⟩, .int .i64 0, .string ⟨#[]⟩, .int .i64 0, .int .i64 0, .slice none 0 0, .int .i64 0, .int .i64 0, .int .i64 0, .int .i64 0] 80 (0, 0))) := (Below.heap_setCell _ _ _ _ (by simp; omega)).trans hRw3
    clear hc hg hov HC2 HG2 HP2 HR2 HC3 HG3 hPw3 hRw3 HTT hbase
    go_wp2_with fail
    clear cP fP
    generalize w3.setCell ⟨P, 5, none⟩ (.slice av nv cv) = W4 at *
    refine (takeNum_any b rb s3 _ HC4.out).mono ?_
    rintro e w5 ⟨rfl, hc, hg⟩
    have HC := hid hc
    have HG := hid (grown_trans HG4.out hg)
    have HOV5 := hid (HOV.out.kept hg (fun k hk => by cases hk; omega))
    have hPw5 : w5.heap[P]? = some (.cells #[.string T1, .int .i64 3, .string ⟨#[]⟩, .int .i64 0, .int .i64 0, .slice av nv cv, .int .i64 0, .int .i64 0, .int .i64 0, .int .i64 0] 80 (0, 0)) := (hg.block P (by have := (Array.getElem?_eq_some_iff.1 HP4.out).1; omega) (by simp; omega)).trans HP4.out
    have hRw5 : w5.heap[w.heap.size]? = some (.cells #[.string ⟨#[]⟩, .int .i64 0, .string ⟨#[]⟩, .int .i64 0, .int .i64 0, .slice none 0 0, .int .i64 0, .int .i64 0, .int .i64 0, .int .i64 0] 80 (0, 0)) := (hg.block w.heap.size (by have := (Array.getElem?_eq_some_iff.1 HR4.out).1; omega) (by simp; omega)).trans HR4.out
    have cP := cell_rowL hPw5
    have cR := cell_rowL hRw5
    have fP := frozen_rowL hPw5
    have fR := frozen_rowL hRw5
    have HOV6 := hid (HOV5.out.setNe hPw5 (by decide) 6 (.int .i64 (iV s3)))
    clear hc hg HC4 HG4 HP4 HR4 HOV HOV5
    clear HV HS
    subst hXV hXS
    clear hPw5 hRw5
    go_wp2
    refine bodyPost_ret (v := .agg #[.string T1, .int .i64 3, .string ⟨#[]⟩, .int .i64 0, .int .i64 0, .slice av nv cv, .int .i64 (iV s3), .int .i64 0, .int .i64 0, .int .i64 0]) (by simp [results, Try.results57, go_sem, cR]) rfl ⟨.slice av nv cv, rfl, ?_, ?_, ?_⟩
    · refine OwnStrs.mono ?_ (Nat.le_of_lt hszP)
      repeat (refine OwnStrs.setLt ?_ (by omega) _ _)
      exact HOV6.out
    · repeat (refine AtSt.set ?_ (by omega) (by omega) _ _)
      exact HC.out
    · repeat (refine grown_set ?_ _ _ (by omega) _)
      exact HG.out
  by_cases h4 : d = 4
  · subst h4
    go_wp2_with fail
    refine (takeRoot_any b rb s2 _ HC2.out).mono ?_
    rintro e w3 ⟨rfl, hc, hg⟩
    have HC := hid hc
    have HG := hid (grown_trans HG2.out hg)
    have hPw3 : w3.heap[P]? = some (.cells #[.string T1, .int .i64 4, .string ⟨#[]⟩, .int .i64 0, .int .i64 0, .slice none 0 0, .int .i64 0, .int .i64 0, .int .i64 0, .int .i64 0] 80 (0, 0)) := (hg.block P (by have := (Array.getElem?_eq_some_iff.1 HP2.out).1; omega) (by simp; omega)).trans HP2.out
    have hRw3 : w3.heap[w.heap.size]? = some (.cells #[.string ⟨#[]⟩, .int .i64 0, .string ⟨#[]⟩, .int .i64 0, .int .i64 0, .slice none 0 0, .int .i64 0, .int .i64 0, .int .i64 0, .int .i64 0] 80 (0, 0)) := (hg.block w.heap.size (by have := (Array.getElem?_eq_some_iff.1 HR2.out).1; omega) (by simp; omega)).trans HR2.out
    have cP := cell_rowL hPw3
    have cR := cell_rowL hRw3
    have fP := frozen_rowL hPw3
    have fR := frozen_rowL hRw3
    clear hc hg HC2 HG2 HP2 HR2
    have hXV : XV = { noItem with key := T1, kind := 4, root := rootV s2 } := by rw [HV.out]; simp
    have hXS : XS = rootS s2 := by rw [HS.out]; simp
    clear HV HS
    subst hXV hXS
    clear hPw3 hRw3
    go_wp2
    refine bodyPost_ret (v := .agg #[.string T1, .int .i64 4, .string ⟨#[]⟩, .int .i64 0, .int .i64 0, .slice none 0 0, .int .i64 0, .int .i64 (rootV s2).page, .int .i64 (rootV s2).count, .int .i64 (rootV s2).flags]) (by simp [results, Try.results57, go_sem, cR]) rfl ⟨.slice none 0 0, rfl, ownStrs_nil _ _, ?_, ?_⟩
    · repeat (refine AtSt.set ?_ (by omega) (by omega) _ _)
      exact HC.out
    · repeat (refine grown_set ?_ _ _ (by omega) _)
      exact HG.out
  · have e1 : (d == 1) = false := by simpa using h1
    have e2 : (d == 2) = false := by simpa using h2
    have e3 : (d == 3) = false := by simpa using h3
    have e4 : (d == 4) = false := by simpa using h4
    have hXV : XV = { noItem with key := T1, kind := d } := by rw [HV.out]; simp [h1, h2, h3, h4]
    have hXS : XS = s2 := by rw [HS.out]; simp [h1, h2, h3, h4]
    clear HV HS
    subst hXV hXS
    have cR := cell_rowL HR2'.out
    have fR := frozen_rowL HR2'.out
    clear HC2 HG2 HR2 HP2
    go_wp2
    have HC3 : Hid (AtSt ((((((((((w2.setCell ⟨w.heap.size, 0, none⟩ (.string T1)).setCell ⟨w.heap.size, 1, none⟩ (.int .i64 d)).setCell ⟨w.heap.size, 2, none⟩ (.string ⟨#[]⟩)).setCell ⟨w.heap.size, 3, none⟩ (.int .i64 0)).setCell ⟨w.heap.size, 4, none⟩ (.int .i64 0)).setCell ⟨w.heap.size, 5, none⟩ (.slice none 0 0)).setCell ⟨w.heap.size, 6, none⟩ (.int .i64 0)).setCell ⟨w.heap.size, 7, none⟩ (.int .i64 0)).setCell ⟨w.heap.size, 8, none⟩ (.int .i64 0)).setCell ⟨w.heap.size, 9, none⟩ (.int .i64 0)) b rb XS) := by
      show AtSt _ _ _ _
      repeat (refine AtSt.set ?_ (by omega) (by omega) _ _)
      exact HC2'.out
    have HG3 : Hid (w.grownBy ((((((((((w2.setCell ⟨w.heap.size, 0, none⟩ (.string T1)).setCell ⟨w.heap.size, 1, none⟩ (.int .i64 d)).setCell ⟨w.heap.size, 2, none⟩ (.string ⟨#[]⟩)).setCell ⟨w.heap.size, 3, none⟩ (.int .i64 0)).setCell ⟨w.heap.size, 4, none⟩ (.int .i64 0)).setCell ⟨w.heap.size, 5, none⟩ (.slice none 0 0)).setCell ⟨w.heap.size, 6, none⟩ (.int .i64 0)).setCell ⟨w.heap.size, 7, none⟩ (.int .i64 0)).setCell ⟨w.heap.size, 8, none⟩ (.int .i64 0)).setCell ⟨w.heap.size, 9, none⟩ (.int .i64 0)) (some b)) := by
      show World.grownBy _ _ _
      repeat (refine grown_set ?_ _ _ (by omega) _)
      exact HG2'.out
    have hY2 : ((((((((((w2.setCell ⟨w.heap.size, 0, none⟩ (.string T1)).setCell ⟨w.heap.size, 1, none⟩ (.int .i64 d)).setCell ⟨w.heap.size, 2, none⟩ (.string ⟨#[]⟩)).setCell ⟨w.heap.size, 3, none⟩ (.int .i64 0)).setCell ⟨w.heap.size, 4, none⟩ (.int .i64 0)).setCell ⟨w.heap.size, 5, none⟩ (.slice none 0 0)).setCell ⟨w.heap.size, 6, none⟩ (.int .i64 0)).setCell ⟨w.heap.size, 7, none⟩ (.int .i64 0)).setCell ⟨w.heap.size, 8, none⟩ (.int .i64 0)).setCell ⟨w.heap.size, 9, none⟩ (.int .i64 0)).heap[w.heap.size]? = some (.cells #[.string T1, .int .i64 d, .string ⟨#[]⟩, .int .i64 0, .int .i64 0, .slice none 0 0, .int .i64 0, .int .i64 0, .int .i64 0, .int .i64 0] 80 (0, 0)) := by
      simp [World.setCell, Array.getElem?_modify, HR2'.out]
    generalize ((((((((((w2.setCell ⟨w.heap.size, 0, none⟩ (.string T1)).setCell ⟨w.heap.size, 1, none⟩ (.int .i64 d)).setCell ⟨w.heap.size, 2, none⟩ (.string ⟨#[]⟩)).setCell ⟨w.heap.size, 3, none⟩ (.int .i64 0)).setCell ⟨w.heap.size, 4, none⟩ (.int .i64 0)).setCell ⟨w.heap.size, 5, none⟩ (.slice none 0 0)).setCell ⟨w.heap.size, 6, none⟩ (.int .i64 0)).setCell ⟨w.heap.size, 7, none⟩ (.int .i64 0)).setCell ⟨w.heap.size, 8, none⟩ (.int .i64 0)).setCell ⟨w.heap.size, 9, none⟩ (.int .i64 0)) = Y at *
    have hY3 : ∀ o j, (Y.alloc o).cell? ⟨w.heap.size, j, none⟩ = (#[.string T1, .int .i64 d, .string ⟨#[]⟩, .int .i64 0, .int .i64 0, .slice none 0 0, .int .i64 0, .int .i64 0, .int .i64 0, .int .i64 0] : Array Value)[j]? := fun o j => by
      rw [← cell_rowL hY2 j]
      exact World.cell?_of_block (a := ⟨w.heap.size, j, none⟩) (Below.heap_alloc _ _ _ (Array.getElem?_eq_some_iff.1 hY2).1)
    refine bodyPost_ret (v := .agg #[.string T1, .int .i64 d, .string ⟨#[]⟩, .int .i64 0, .int .i64 0, .slice none 0 0, .int .i64 0, .int .i64 0, .int .i64 0, .int .i64 0]) (by simp [results, Try.results57, go_sem, hY3]) rfl ⟨.slice none 0 0, rfl, ownStrs_nil _ _, AtSt.alloc HC3.out _, grown_new HG3.out _⟩
end Go.Proofs.Ytgnmjdcmaahlnaa
