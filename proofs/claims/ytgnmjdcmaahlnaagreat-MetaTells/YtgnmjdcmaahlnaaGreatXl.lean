/- Contracts of the reference Cut's Int, root and texts. Contract of the reference Cut's item. Contract of the reference Cut's frees. -/
import Derived.Test.YtgnmjdcmaahlnaaGreatXg
import Derived.Test.YtgnmjdcmaahlnaaGreatXj
import Derived.Test.YtgnmjdcmaahlnaaGreatXNd
namespace Go.Proofs.YtgnmjdcmaahlnaaGreat
open Go.RowKit Go.Sort

/-- In block b lies a Cut of the reference. -/
def RSt (w : World) (b : Nat) (s : St) : Prop := RefAt w b s.1 s.2 ∧ s.1.length ≤ maxLen
theorem RSt.lt {w : World} {b : Nat} {s : St} (h : RSt w b s) : b < w.heap.size := (Array.getElem?_eq_some_iff.1 h.1).1
theorem RSt.kept {w w' : World} {b : Nat} {s : St} (h : RSt w b s) (hb : w'.heap[b]? = w.heap[b]?) : RSt w' b s := ⟨hb.trans h.1, h.2⟩
theorem RSt.below {w w' : World} {b : Nat} {s : St} (h : RSt w b s) (hb : Below w.heap.size w w') : RSt w' b s := h.kept (hb.block b h.lt)
theorem RSt.alloc {w : World} {b : Nat} {s : St} (h : RSt w b s) (o : Obj) : RSt (w.alloc o) b s := h.kept (Below.heap_alloc _ _ _ h.lt)
theorem RSt.grown {w w' : World} {b : Nat} {s : St} {row : Option Nat} (h : RSt w b s) (hg : w.grownBy w' row) (h1 : row ≠ some b) : RSt w' b s := h.kept (hg.block b h.lt (fun e => h1 e.symm))
theorem RSt.set {w : World} {b : Nat} {s : St} {p : Nat} (h : RSt w b s) (h1 : p ≠ b) (o : Nat) (u : Value) : RSt (w.setCell ⟨p, o, none⟩ u) b s := h.grown (grown_setCell w p o u) (by simpa using h1)
theorem RSt.drew {w : World} {b : Nat} {s : St} (h : RSt w b s) : RSt w.drew b s := h.kept rfl
theorem numL_le (l : List UInt8) (sh : Bool) : (numL l sh).length ≤ l.length := by unfold numL; split <;> simp
theorem textL_le (l : List UInt8) (sh : Bool) : (textL l sh).length ≤ l.length := by unfold textL; split <;> simp
theorem rnumC_any (b : Nat) (s : St) (w : World) (h : RSt w b s) :
    Calls Tryz.prog 22 #[.pointer (some ⟨b, 0, none⟩)] w fun e w' => e = .returned (.int .u64 (nV s)) ∧ RSt w' b (nS s) ∧ w.grownBy w' (some b) := by
  refine (refNum_any b s.1 s.2 w h.1 h.2).mono ?_
  rintro e w' ⟨rfl, h1, h2⟩
  exact ⟨rfl, ⟨h1, Nat.le_trans (numL_le _ _) h.2⟩, h2⟩
theorem rtextC_any (b : Nat) (s : St) (w : World) (h : RSt w b s) :
    Calls Tryz.prog 42 #[.pointer (some ⟨b, 0, none⟩)] w fun e w' => e = .returned (.string (tV s)) ∧ RSt w' b (tS s) ∧ w.grownBy w' (some b) := by
  refine (refText_any b s.1 s.2 w h.1 h.2).mono ?_
  rintro e w' ⟨rfl, h1, h2⟩
  exact ⟨rfl, ⟨h1, Nat.le_trans (textL_le _ _) h.2⟩, h2⟩

/-- A number that is no more than so much; else none, and it is bad. -/
def iR (m : Nat) (s : St) : Nat := if nV s ≤ m then nV s else 0
def jS (m : Nat) (s : St) : St := if nV s ≤ m then nS s else ((nS s).1, true)
theorem iR_le (m : Nat) (s : St) : iR m s ≤ m := by unfold iR; split <;> omega
set_option maxHeartbeats 1000000 in
theorem rint_any (b m : Nat) (s : St) (w : World) (h : RSt w b s) (hm : m ≤ 1000000) :
    Calls Tryz.prog 40 #[.pointer (some ⟨b, 0, none⟩), .int .i64 m] w fun e w' => e = .returned (.int .i64 (iR m s)) ∧ RSt w' b (jS m s) ∧ w.grownBy w' (some b) := by
  have H := hid (rnumC_any b s w h)
  have hlt := nV_lt s
  have hwm : IntKind.u64.wrap (m : Int) = (m : Int) := by rw [IntKind.wrap_u64]; omega
  clear h
  by_cases hn : nV s ≤ m
  · have e1 : iR m s = nV s := if_pos hn
    have e2 : jS m s = nS s := if_pos hn
    rw [e1, e2]
    clear e1 e2
    generalize nV s = n at *
    go_enter Tryz.func40, Tryz.ntmps40
    go_wp2_with (go_at_call 22; refine H.out.mono ?_; rintro e w' ⟨rfl, hc, hg⟩)
    go_ret
    refine ⟨ret_int ?_, hc, hg⟩
    go_num
  · have e1 : iR m s = 0 := if_neg hn
    have e2 : jS m s = ((nS s).1, true) := if_neg hn
    rw [e1, e2]
    clear e1 e2
    generalize nV s = n at *
    go_enter Tryz.func40, Tryz.ntmps40
    go_wp2_with (go_at_call 22; refine H.out.mono ?_; rintro e w' ⟨rfl, hc, hg⟩; obtain ⟨hc0, hc1, hf0, hf1⟩ := cells_ref hc.1; have HC := hid hc; have HG := hid hg; have hbl := hc.lt; clear hc hg)
    go_ret
    exact ⟨rfl, ⟨ref_short HC.out.1, HC.out.2⟩, grown_trans HG.out (grown_setCell _ _ _ _)⟩

/-- Block P is one of the call's own; b's Cut stands at s. -/
structure RIn (w W : World) (b P : Nat) (T : TypeId) (cs : Array Value) (s : St) : Prop where
  own : W.heap[P]? = some (.cells cs T (0, 0))
  st : RSt W b s
  gr : w.grownBy W (some b)
  lt : b < w.heap.size
  le : w.heap.size ≤ P
theorem RIn.call {w W W' : World} {b P : Nat} {T : TypeId} {cs : Array Value} {s s' : St} (h : RIn w W b P T cs s) (hs : RSt W' b s') (hg : W.grownBy W' (some b)) : RIn w W' b P T cs s' :=
  ⟨(hg.block P (Array.getElem?_eq_some_iff.1 h.own).1 (by have := h.lt; have := h.le; simp; omega)).trans h.own, hs, grown_trans h.gr hg, h.lt, h.le⟩
theorem RIn.set {w W : World} {b P : Nat} {T : TypeId} {cs : Array Value} {s : St} (h : RIn w W b P T cs s) (i : Nat) (u : Value) : RIn w (W.setCell ⟨P, i, none⟩ u) b P T (cs.setIfInBounds i u) s :=
  ⟨heap_setCell_same W P i _ _ _ h.own, h.st.set (by have := h.lt; have := h.le; omega) i u, grown_set h.gr P i h.le u, h.lt, h.le⟩
theorem RIn.cell {w W : World} {b P : Nat} {T : TypeId} {cs : Array Value} {s : St} (h : RIn w W b P T cs s) (j : Nat) : W.cell? ⟨P, j, none⟩ = cs[j]? := cell_rowL h.own j
theorem RIn.frozen {w W : World} {b P : Nat} {T : TypeId} {cs : Array Value} {s : St} (h : RIn w W b P T cs s) (j : Nat) : W.frozen? ⟨P, j, none⟩ = false := frozen_rowL h.own j
theorem RIn.plt {w W : World} {b P : Nat} {T : TypeId} {cs : Array Value} {s : St} (h : RIn w W b P T cs s) : P < W.heap.size := (Array.getElem?_eq_some_iff.1 h.own).1

theorem RIn.alloc {w W : World} {b P : Nat} {T : TypeId} {cs : Array Value} {s : St} (h : RIn w W b P T cs s) (o : Obj) : RIn w (W.alloc o) b P T cs s :=
  ⟨(Below.heap_alloc _ _ _ h.plt).trans h.own, h.st.alloc o, grown_new h.gr o, h.lt, h.le⟩
/-- A store into another block of the call's own. -/
theorem RIn.other {w W : World} {b P : Nat} {T : TypeId} {cs : Array Value} {s : St} (h : RIn w W b P T cs s) (Q i : Nat) (u : Value) (h1 : Q ≠ P) (h2 : w.heap.size ≤ Q) : RIn w (W.setCell ⟨Q, i, none⟩ u) b P T cs s :=
  ⟨(Below.heap_setCell _ _ _ _ (by simpa using h1.symm)).trans h.own, h.st.set (by have := h.lt; omega) i u, grown_set h.gr Q i h2 u, h.lt, h.le⟩
/-- The result's place, laid first. -/
theorem RIn.first {w : World} {b : Nat} {s : St} (h : RSt w b s) (T : TypeId) (cs : Array Value) : RIn w (w.alloc (.cells cs T)) b w.heap.size T cs s :=
  ⟨heap_newL w _, h.alloc _, grown_new (grown_refl w (some b)) _, h.lt, Nat.le_refl _⟩
/-- A struct of the call's own, laid beside it. -/
theorem RIn.beside {w W : World} {b P : Nat} {T : TypeId} {cs : Array Value} {s : St} (h : RIn w W b P T cs s) (ds : Array Value) : RIn w (W.alloc (.cells ds T)) b W.heap.size T ds s :=
  ⟨heap_newL W _, h.st.alloc _, grown_new h.gr _, h.lt, h.gr.size⟩

def rootR (s : St) : RootD := ⟨iR 400 s, iR 1000000 (jS 400 s), iR 1 (jS 1000000 (jS 400 s))⟩
def rootT (s : St) : St := jS 1 (jS 1000000 (jS 400 s))
set_option maxRecDepth 10000 in
set_option maxHeartbeats 1000000 in
theorem rrootC_any (b : Nat) (s : St) (w : World) (h : RSt w b s) :
    Calls Tryz.prog 45 #[.pointer (some ⟨b, 0, none⟩)] w fun e w' => e = .returned (.agg #[.int .i64 (rootR s).page, .int .i64 (rootR s).count, .int .i64 (rootR s).flags]) ∧ RSt w' b (rootT s) ∧ w.grownBy w' (some b) := by
  have R0 := hid (RIn.first h 24 #[.int .i64 0, .int .i64 0, .int .i64 0])
  have H1 := hid (fun W (hW : RSt W b s) => rint_any b 400 s W hW (by omega))
  have H2 := hid (fun W (hW : RSt W b (jS 400 s)) => rint_any b 1000000 _ W hW (by omega))
  have H3 := hid (fun W (hW : RSt W b (jS 1000000 (jS 400 s))) => rint_any b 1 _ W hW (by omega))
  clear h
  unfold rootR rootT
  simp only
  generalize iR 400 s = n1 at *
  generalize iR 1000000 (jS 400 s) = n2 at *
  generalize iR 1 (jS 1000000 (jS 400 s)) = n3 at *
  generalize jS 1 (jS 1000000 (jS 400 s)) = s3 at *
  generalize jS 1000000 (jS 400 s) = s2 at *
  generalize jS 400 s = s1 at *
  go_enter Tryz.func45, Tryz.ntmps45
  go_wp2_with fail
  refine (H1.out _ R0.out.st).mono ?_
  rintro e w1 ⟨rfl, hc, hg⟩
  have R1 := hid (R0.out.call hc hg)
  clear hc hg R0
  have P2 := hid (R1.out.beside #[.int .i64 n1, .int .i64 0, .int .i64 0])
  have R2 := hid (R1.out.alloc (.cells #[.int .i64 n1, .int .i64 0, .int .i64 0] 24))
  have hne : w1.heap.size ≠ w.heap.size := by have := R1.out.plt; omega
  have hle := R1.out.gr.size
  clear R1
  go_wp2_with fail
  generalize (w1.alloc (.cells #[.int .i64 n1, .int .i64 0, .int .i64 0] 24)) = W2 at *
  generalize w1.heap.size = P at *
  refine (H2.out _ P2.out.st).mono ?_
  rintro e w3 ⟨rfl, hc, hg⟩
  have P3 := hid (P2.out.call hc hg)
  have R3 := hid (R2.out.call hc hg)
  clear hc hg P2 R2
  have cP := P3.out.cell
  have fP := P3.out.frozen
  have P4 := hid (P3.out.set 1 (.int .i64 n2))
  have R4 := hid (R3.out.other P 1 (.int .i64 n2) hne hle)
  clear P3 R3
  go_wp2_with fail
  clear cP fP
  generalize (w3.setCell ⟨P, 1, none⟩ (.int .i64 n2)) = W4 at *
  refine (H3.out _ P4.out.st).mono ?_
  rintro e w5 ⟨rfl, hc, hg⟩
  have P5 := hid (P4.out.call hc hg)
  have R5 := hid (R4.out.call hc hg)
  clear hc hg P4 R4
  have cP := P5.out.cell
  have fP := P5.out.frozen
  have cR := R5.out.cell
  have fR := R5.out.frozen
  have P6 := P5.out.set 2 (.int .i64 n3)
  have R6 := R5.out.other P 2 (.int .i64 n3) hne hle
  have R7 := hid (((R6.set 0 (.int .i64 n1)).set 1 (.int .i64 n2)).set 2 (.int .i64 n3))
  simp only [List.setIfInBounds_toArray, List.set_cons_zero, List.set_cons_succ] at cP cR
  clear P5 R5 P6 R6
  go_wp2
  refine bodyPost_ret (v := .agg #[.int .i64 n1, .int .i64 n2, .int .i64 n3]) (by simp [results, Tryz.results45, go_sem, cR]) rfl ⟨rfl, R7.out.st, R7.out.gr⟩

/-- Texts one by one, as long as nothing has lacked. -/
def textsGo : Nat → St → List ByteArray × St
  | 0, s => ([], s)
  | k + 1, s => if s.2 then ([], s) else (tV s :: (textsGo k (tS s)).1, (textsGo k (tS s)).2)
theorem textsGo_le : ∀ k s, (textsGo k s).1.length ≤ k
  | 0, s => by simp [textsGo]
  | k + 1, s => by
    unfold textsGo
    split
    · simp
    · have := textsGo_le k (tS s)
      simp
      omega
theorem textsGo_sizes : ∀ k s, ∀ x ∈ (textsGo k s).1, x.size ≤ 65535
  | 0, s, x, h => by simp [textsGo] at h
  | k + 1, s, x, h => by
    unfold textsGo at h
    split at h
    · simp at h
    · rcases List.mem_cons.1 h with rfl | h
      · exact tV_size _
      · exact textsGo_sizes k _ x h
set_option maxRecDepth 10000 in
set_option maxHeartbeats 2000000 in
theorem rtextsC_any (b m : Nat) (s : St) (w : World) (h : RSt w b s) (hm : m ≤ 1000) :
    Calls Tryz.prog 43 #[.pointer (some ⟨b, 0, none⟩), .int .i64 m] w fun e w' => ∃ v, e = .returned v ∧ OwnStrs w' w.heap.size v (textsGo (iR m s) (jS m s)).1 ∧ RSt w' b (textsGo (iR m s) (jS m s)).2 ∧ w.grownBy w' (some b) := by
  obtain ⟨i0, hi, hz0, hz1, hz2⟩ := info_parts Tryz.infoStr
  have H := hid (rint_any b m s w h (by omega))
  have hlt := h.lt
  have hn : iR m s ≤ 1000 := Nat.le_trans (iR_le m s) hm
  clear h
  generalize iR m s = n at *
  generalize jS m s = s1 at *
  have HV : Hid ((textsGo n s1).1.length ≤ 1000 ∧ ∀ x ∈ (textsGo n s1).1, x.size ≤ 65535) := hid ⟨Nat.le_trans (textsGo_le n s1) hn, textsGo_sizes n s1⟩
  obtain ⟨V, hV⟩ : ∃ V, (textsGo n s1).1 = V := ⟨_, rfl⟩
  obtain ⟨S, hS⟩ : ∃ S, (textsGo n s1).2 = S := ⟨_, rfl⟩
  rw [hV] at HV
  rw [hV, hS]
  replace hV := hid hV
  replace hS := hid hS
  go_enter Tryz.func43, Tryz.ntmps43
  go_wp2_with fail
  refine H.out.mono ?_
  rintro e w1 ⟨rfl, hc1, hg1⟩
  have HC1 := hid hc1
  have HG1 := hid hg1
  clear hc1 hg1 H
  go_wp2
  go_loopg [5, 7] n (fun g v i wr => ∃ (k : Nat) (acc : List ByteArray) (s2 : St), k + g = n ∧ i = .int .i64 k ∧ acc.length = k ∧ Hid (acc ++ (textsGo g s2).1 = V ∧ (textsGo g s2).2 = S) ∧ Hid (wr.ownsRow w.heap.size 9 1 v k (strCellsL acc)) ∧ Hid (RSt wr b s2) ∧ Hid (w.grownBy wr (some b)))
  case atStart => exact ⟨0, [], s1, by omega, rfl, rfl, hid ⟨hV.out, hS.out⟩, World.ownsRow_nil _ _ _ _, HC1, HG1⟩
  case round =>
    obtain ⟨k, acc, s2, hk, rfl, hacc, hrel, hown, hat, hgr⟩ := hrel
    clear HC1 HG1 hV hS
    obtain ⟨hc0, hc1, hf0, hf1⟩ := cells_ref hat.out.1
    have hbl := hat.out.lt
    cases gk with
    | zero =>
      have hke : k = n := by omega
      subst hke
      have e1 : acc = V := by have := hrel.out.1; simpa [textsGo] using this
      have e2 : s2 = S := by have := hrel.out.2; simpa [textsGo] using this
      have HO : Hid (OwnStrs wr w.heap.size u5 V) := hid ⟨by rw [← e1, hacc]; exact hown.out, HV.out⟩
      obtain ⟨ao, cc, hu⟩ : ∃ ao c, u5 = .slice ao k c := by
        rcases hown.out.2 with ⟨rfl, h0⟩ | ⟨g, cap, cur, rfl, _⟩
        · exact ⟨none, 0, by rw [h0]⟩
        · exact ⟨_, _, rfl⟩
      subst hu
      go_wp2
      go_ret
      exact ⟨_, rfl, HO.out, e2 ▸ hat.out, hgr.out⟩
    | succ g =>
      have hlk : k < n := by omega
      obtain ⟨l2, sh⟩ := s2
      obtain ⟨ao, cc, hu⟩ : ∃ ao c, u5 = .slice ao k c := by
        rcases hown.out.2 with ⟨rfl, h0⟩ | ⟨g, cap, cur, rfl, _⟩
        · exact ⟨none, 0, by rw [h0]⟩
        · exact ⟨_, _, rfl⟩
      subst hu
      cases sh with
      | true =>
        have e1 : acc = V := by have := hrel.out.1; simpa [textsGo] using this
        have e2 : (l2, true) = S := by have := hrel.out.2; simpa [textsGo] using this
        have HO : Hid (OwnStrs wr w.heap.size (.slice ao k cc) V) := hid ⟨by rw [← e1, hacc]; exact hown.out, HV.out⟩
        go_wp2
        go_ret
        exact ⟨_, rfl, HO.out, e2 ▸ hat.out, hgr.out⟩
      | false =>
        have e1 : Hid ((acc ++ [tV (l2, false)]) ++ (textsGo g (tS (l2, false))).1 = V ∧ (textsGo g (tS (l2, false))).2 = S) := hid (by
          have h1 := hrel.out.1
          have h2 := hrel.out.2
          simp only [textsGo] at h1 h2
          exact ⟨by simpa using h1, by simpa using h2⟩)
        have HTC := hid (rtextC_any b (l2, false) wr hat.out)
        generalize tV (l2, false) = T at *
        generalize tS (l2, false) = s3 at *
        go_wp2_with fail
        refine HTC.out.mono ?_
        rintro e w2 ⟨rfl, hc2, hg2⟩
        have hown2 := hown.out.kept hg2 (.inr (fun e => by have := (hown.out.lt b e).1; omega))
        have HC2 := hid hc2
        have HG2 := hid (grown_trans hgr.out hg2)
        have HT : Hid (strCellsL (acc ++ [T]) = strCellsL acc ++ [.string T]) := hid (by simp [strCellsL])
        clear hc2 hg2 hown hat hgr HTC hrel hc0 hc1 hf0 hf1 hbl
        go_wp2_with (at_builtin; refine wpList_append_own _ rfl _ _ 46 rfl w.heap.size 9 i0 (.string ⟨#[]⟩) 1 16 Tryz.underlying46 hi hz0 hz1 hz2 rfl (by decide) _ _ _ rfl (hown2.alloc _) ⟨w2.heap.size, 0, none⟩ 1 1 [.string T] rfl rfl (cell_one_new _ _ _) (fun x hx => by simp at hx; subst hx; rfl) (by unfold maxLen; omega) (by omega) (by have := HG2.out.size; simp; omega) ?_)
        intro v' w3 hown' hgrow _
        rw [← HT.out] at hown'
        have HG3 := hid (grown_step (grown_new HG2.out _) hgrow (fun q hq => (hown2.lt q hq).1))
        have HC3 := hid (RSt.grown (HC2.out.alloc _) hgrow (fun e => by have := (hown2.lt _ e).1; omega))
        replace hown' := hid hown'
        clear hgrow hown2 HC2 HG2
        go_wp2
        go_roundg g
        case rel => exact ⟨k + 1, acc ++ [T], s3, by omega, by go_num, by simp [hacc], e1, hown', HC3, HG3⟩
        case measure => omega
end Go.Proofs.YtgnmjdcmaahlnaaGreat

namespace Go.Proofs.YtgnmjdcmaahlnaaGreat
open Go.RowKit Go.Sort

theorem OwnStrs.kept' {w w' : World} {base : Nat} {v : Value} {l : List ByteArray} {k : Nat} {cs : Array Value} {T : TypeId} (h : OwnStrs w base v l) (hg : w.grownBy w' (some k)) (hk : w.heap[k]? = some (.cells cs T (0, 0))) (hT : T ≠ 9) : OwnStrs w' base v l := by
  refine ⟨h.1.kept hg ?_, h.2⟩
  rcases h.1.2 with ⟨rfl, _⟩ | ⟨g, cap, cur, rfl, _, hgg, _⟩
  · exact .inl rfl
  · refine .inr (fun e => ?_)
    simp only [Value.ownBlock, Option.some.injEq] at e
    subst e
    rw [hgg] at hk
    simp only [Option.some.injEq, Obj.cells.injEq] at hk
    exact hT hk.2.1.symm
def itemR (s : St) : ItemD :=
  if iR 4 (tS s) = 1 then { noItem with key := tV s, kind := 1, val := tV (jS 4 (tS s)) }
  else if iR 4 (tS s) = 2 then { noItem with key := tV s, kind := 2, run := iR 400 (jS 4 (tS s)), len := iR 1000 (jS 400 (jS 4 (tS s))) }
  else if iR 4 (tS s) = 3 then { noItem with key := tV s, kind := 3, vals := (textsGo (iR 3 (jS 4 (tS s))) (jS 3 (jS 4 (tS s)))).1, dup := iR 400 (textsGo (iR 3 (jS 4 (tS s))) (jS 3 (jS 4 (tS s)))).2 }
  else if iR 4 (tS s) = 4 then { noItem with key := tV s, kind := 4, root := rootR (jS 4 (tS s)) }
  else { noItem with key := tV s, kind := iR 4 (tS s) }
def itemT (s : St) : St :=
  if iR 4 (tS s) = 1 then tS (jS 4 (tS s))
  else if iR 4 (tS s) = 2 then jS 1000 (jS 400 (jS 4 (tS s)))
  else if iR 4 (tS s) = 3 then jS 400 (textsGo (iR 3 (jS 4 (tS s))) (jS 3 (jS 4 (tS s)))).2
  else if iR 4 (tS s) = 4 then rootT (jS 4 (tS s))
  else jS 4 (tS s)
set_option maxRecDepth 10000 in
set_option maxHeartbeats 4000000 in
theorem ritemC_any (b : Nat) (s : St) (w : World) (h : RSt w b s) :
    Calls Tryz.prog 41 #[.pointer (some ⟨b, 0, none⟩)] w fun e w' => ∃ v, e = .returned (.agg (itemCells (itemR s) v).toArray) ∧ OwnStrs w' w.heap.size v (itemR s).vals ∧ RSt w' b (itemT s) ∧ w.grownBy w' (some b) := by
  have R0 := hid (RIn.first h 72 #[.string ⟨#[]⟩, .int .i64 0, .string ⟨#[]⟩, .int .i64 0, .int .i64 0, .slice none 0 0, .int .i64 0, .int .i64 0, .int .i64 0, .int .i64 0])
  have H1 := hid (fun W (hW : RSt W b s) => rtextC_any b s W hW)
  have H2 := hid (fun W (hW : RSt W b (tS s)) => rint_any b 4 _ W hW (by omega))
  have hlt := h.lt
  obtain ⟨XV, hXV⟩ : ∃ X, itemR s = X := ⟨_, rfl⟩
  obtain ⟨XS, hXS⟩ : ∃ X, itemT s = X := ⟨_, rfl⟩
  rw [hXV, hXS]
  unfold itemR at hXV
  unfold itemT at hXS
  have hd4 := iR_le 4 (tS s)
  clear h
  generalize tV s = T1 at *
  generalize tS s = s1 at *
  generalize iR 4 s1 = d at *
  generalize jS 4 s1 = s2 at *
  replace hXV := hid hXV
  replace hXS := hid hXS
  go_enter Tryz.func41, Tryz.ntmps41
  go_wp2_with fail
  refine (H1.out _ R0.out.st).mono ?_
  rintro e w1 ⟨rfl, hc, hg⟩
  have R1 := hid (R0.out.call hc hg)
  clear hc hg R0 H1
  have P2 := hid (R1.out.beside #[.string T1, .int .i64 0, .string ⟨#[]⟩, .int .i64 0, .int .i64 0, .slice none 0 0, .int .i64 0, .int .i64 0, .int .i64 0, .int .i64 0])
  have R2 := hid (R1.out.alloc (.cells #[.string T1, .int .i64 0, .string ⟨#[]⟩, .int .i64 0, .int .i64 0, .slice none 0 0, .int .i64 0, .int .i64 0, .int .i64 0, .int .i64 0] 72))
  have hne : w1.heap.size ≠ w.heap.size := by have := R1.out.plt; omega
  have hle := R1.out.gr.size
  clear R1
  go_wp2_with fail
  generalize (w1.alloc (.cells #[.string T1, .int .i64 0, .string ⟨#[]⟩, .int .i64 0, .int .i64 0, .slice none 0 0, .int .i64 0, .int .i64 0, .int .i64 0, .int .i64 0] 72)) = W2 at *
  generalize w1.heap.size = P at *
  refine (H2.out _ P2.out.st).mono ?_
  rintro e w3 ⟨rfl, hc, hg⟩
  have P3 := hid (P2.out.call hc hg)
  have R3 := hid (R2.out.call hc hg)
  clear hc hg P2 R2 H2
  have cP := P3.out.cell
  have fP := P3.out.frozen
  have P4 : Hid (RIn w (w3.setCell ⟨P, 1, none⟩ (.int .i64 d)) b P 72 #[.string T1, .int .i64 d, .string ⟨#[]⟩, .int .i64 0, .int .i64 0, .slice none 0 0, .int .i64 0, .int .i64 0, .int .i64 0, .int .i64 0] s2) := hid (P3.out.set 1 (.int .i64 d))
  have R4 := hid (R3.out.other P 1 (.int .i64 d) hne hle)
  have hPlt := P3.out.plt
  clear P3
  by_cases h1 : d = 1
  · subst h1
    simp only [↓reduceIte] at hXV hXS
    replace hXV : Hid (XV = _) := hid hXV.out.symm
    replace hXS : Hid (XS = _) := hid hXS.out.symm
    have H3 := hid (fun W (hW : RSt W b s2) => rtextC_any b s2 W hW)
    generalize tV s2 = T2 at *
    generalize tS s2 = s3 at *
    go_wp2_with fail
    clear cP fP
    generalize (w3.setCell ⟨P, 1, none⟩ (.int .i64 ((1 : Nat) : Int))) = W4 at *
    refine (H3.out _ P4.out.st).mono ?_
    rintro e w5 ⟨rfl, hc, hg⟩
    have P9 := hid (P4.out.call hc hg)
    have R9 := hid (R4.out.call hc hg)
    clear hc hg P4 R4
    have cP := P9.out.cell
    have fP := P9.out.frozen
    have cR := R9.out.cell
    have fR := R9.out.frozen
    have HS9 := hid R9.out.st
    have HG9 := hid R9.out.gr
    clear P9 R9
    go_wp2
    refine bodyPost_ret (v := .agg #[.string T1, .int .i64 1, .string T2, .int .i64 0, .int .i64 0, .slice none 0 0, .int .i64 0, .int .i64 0, .int .i64 0, .int .i64 0]) (by simp [results, Tryz.results41, go_sem, cR]) rfl ⟨.slice none 0 0, by rw [hXV.out]; rfl, ?_, ?_, ?_⟩
    · rw [hXV.out]
      exact ownStrs_nil _ _
    · rw [hXS.out]
      repeat (refine RSt.set ?_ (by omega) _ _)
      exact HS9.out
    · repeat (refine grown_set ?_ _ _ (by omega) _)
      exact HG9.out
  by_cases h2 : d = 2
  · subst h2
    simp only [show ¬ (2 : Nat) = 1 by omega, ↓reduceIte] at hXV hXS
    replace hXV : Hid (XV = _) := hid hXV.out.symm
    replace hXS : Hid (XS = _) := hid hXS.out.symm
    have H3 := hid (fun W (hW : RSt W b s2) => rint_any b 400 s2 W hW (by omega))
    have H4 := hid (fun W (hW : RSt W b (jS 400 s2)) => rint_any b 1000 _ W hW (by omega))
    generalize iR 400 s2 = n1 at *
    generalize iR 1000 (jS 400 s2) = n2 at *
    generalize jS 1000 (jS 400 s2) = s4 at *
    generalize jS 400 s2 = s3 at *
    go_wp2_with fail
    clear cP fP
    generalize (w3.setCell ⟨P, 1, none⟩ (.int .i64 ((2 : Nat) : Int))) = W4 at *
    refine (H3.out _ P4.out.st).mono ?_
    rintro e w5 ⟨rfl, hc, hg⟩
    have P5 := hid (P4.out.call hc hg)
    have R5 := hid (R4.out.call hc hg)
    clear hc hg P4 R4
    have cP := P5.out.cell
    have fP := P5.out.frozen
    have P6 := hid (P5.out.set 3 (.int .i64 n1))
    have R6 := hid (R5.out.other P 3 (.int .i64 n1) hne hle)
    clear P5 R5
    go_wp2_with fail
    clear cP fP
    generalize (w5.setCell ⟨P, 3, none⟩ (.int .i64 n1)) = W6 at *
    refine (H4.out _ P6.out.st).mono ?_
    rintro e w7 ⟨rfl, hc, hg⟩
    have P9 := hid (P6.out.call hc hg)
    have R9 := hid (R6.out.call hc hg)
    clear hc hg P6 R6
    have cP := P9.out.cell
    have fP := P9.out.frozen
    have cR := R9.out.cell
    have fR := R9.out.frozen
    have HS9 := hid R9.out.st
    have HG9 := hid R9.out.gr
    clear P9 R9
    go_wp2
    refine bodyPost_ret (v := .agg #[.string T1, .int .i64 2, .string ⟨#[]⟩, .int .i64 n1, .int .i64 n2, .slice none 0 0, .int .i64 0, .int .i64 0, .int .i64 0, .int .i64 0]) (by simp [results, Tryz.results41, go_sem, cR]) rfl ⟨.slice none 0 0, by rw [hXV.out]; rfl, ?_, ?_, ?_⟩
    · rw [hXV.out]
      exact ownStrs_nil _ _
    · rw [hXS.out]
      repeat (refine RSt.set ?_ (by omega) _ _)
      exact HS9.out
    · repeat (refine grown_set ?_ _ _ (by omega) _)
      exact HG9.out
  by_cases h3 : d = 3
  · subst h3
    simp only [show ¬ (3 : Nat) = 1 by omega, show ¬ (3 : Nat) = 2 by omega, ↓reduceIte] at hXV hXS
    replace hXV : Hid (XV = _) := hid hXV.out.symm
    replace hXS : Hid (XS = _) := hid hXS.out.symm
    have H3 := hid (fun W (hW : RSt W b s2) => rtextsC_any b 3 s2 W hW (by omega))
    have H4 := hid (fun W (hW : RSt W b (textsGo (iR 3 s2) (jS 3 s2)).2) => rint_any b 400 _ W hW (by omega))
    generalize iR 400 (textsGo (iR 3 s2) (jS 3 s2)).2 = n2 at *
    generalize jS 400 (textsGo (iR 3 s2) (jS 3 s2)).2 = s4 at *
    generalize (textsGo (iR 3 s2) (jS 3 s2)).1 = L at *
    generalize (textsGo (iR 3 s2) (jS 3 s2)).2 = s3 at *
    go_wp2_with fail
    clear cP fP
    generalize (w3.setCell ⟨P, 1, none⟩ (.int .i64 ((3 : Nat) : Int))) = W4 at *
    refine (H3.out _ P4.out.st).mono ?_
    rintro e w5 ⟨v, rfl, hov, hc, hg⟩
    have hbase : w.heap.size ≤ W4.heap.size := P4.out.gr.size
    have P5 := hid (P4.out.call hc hg)
    have R5 := hid (R4.out.call hc hg)
    obtain ⟨av, nv, cv, hv⟩ := hov.slice
    subst hv
    have HOV := hid ((hov.mono hbase).setNe P5.out.own (by decide) 5 (.slice av nv cv))
    clear hc hg P4 R4 hov
    have cP := P5.out.cell
    have fP := P5.out.frozen
    have P6 := hid (P5.out.set 5 (.slice av nv cv))
    have R6 := hid (R5.out.other P 5 (.slice av nv cv) hne hle)
    clear P5 R5
    go_wp2_with fail
    clear cP fP
    generalize (w5.setCell ⟨P, 5, none⟩ (.slice av nv cv)) = W6 at *
    refine (H4.out _ P6.out.st).mono ?_
    rintro e w7 ⟨rfl, hc, hg⟩
    have P9 := hid (P6.out.call hc hg)
    have R9 := hid (R6.out.call hc hg)
    have HOV5 := hid (HOV.out.kept hg (fun k hk => by cases hk; exact hlt))
    have HOV6 := hid (HOV5.out.setNe P9.out.own (by decide) 6 (.int .i64 n2))
    have hRo := (R9.out.other P 6 (.int .i64 n2) hne hle).own
    have HOV7 : Hid (∀ W', (w7.setCell ⟨P, 6, none⟩ (.int .i64 n2)).grownBy W' (some w.heap.size) → OwnStrs W' w.heap.size (.slice av nv cv) L) := hid (fun W' hg => HOV6.out.kept' hg hRo (by decide))
    clear hc hg P6 R6 HOV HOV5 HOV6
    have cP := P9.out.cell
    have fP := P9.out.frozen
    have cR := R9.out.cell
    have fR := R9.out.frozen
    have HS9 := hid R9.out.st
    have HG9 := hid R9.out.gr
    clear P9 R9
    go_wp2
    refine bodyPost_ret (v := .agg #[.string T1, .int .i64 3, .string ⟨#[]⟩, .int .i64 0, .int .i64 0, .slice av nv cv, .int .i64 n2, .int .i64 0, .int .i64 0, .int .i64 0]) (by simp [results, Tryz.results41, go_sem, cR]) rfl ⟨.slice av nv cv, by rw [hXV.out]; rfl, ?_, ?_, ?_⟩
    · rw [hXV.out]
      refine HOV7.out _ ?_
      repeat (refine grown_trans ?_ (grown_setCell _ _ _ _))
      exact grown_refl _ _
    · rw [hXS.out]
      repeat (refine RSt.set ?_ (by omega) _ _)
      exact HS9.out
    · repeat (refine grown_set ?_ _ _ (by omega) _)
      exact HG9.out
  by_cases h4 : d = 4
  · subst h4
    simp only [show ¬ (4 : Nat) = 1 by omega, show ¬ (4 : Nat) = 2 by omega, show ¬ (4 : Nat) = 3 by omega, ↓reduceIte] at hXV hXS
    replace hXV : Hid (XV = _) := hid hXV.out.symm
    replace hXS : Hid (XS = _) := hid hXS.out.symm
    have H3 := hid (fun W (hW : RSt W b s2) => rrootC_any b s2 W hW)
    generalize rootR s2 = ro at *
    obtain ⟨g1, c1, f1⟩ := ro
    simp only at H3
    generalize rootT s2 = s3 at *
    go_wp2_with fail
    clear cP fP
    generalize (w3.setCell ⟨P, 1, none⟩ (.int .i64 ((4 : Nat) : Int))) = W4 at *
    refine (H3.out _ P4.out.st).mono ?_
    rintro e w5 ⟨rfl, hc, hg⟩
    have P9 := hid (P4.out.call hc hg)
    have R9 := hid (R4.out.call hc hg)
    clear hc hg P4 R4
    have cP := P9.out.cell
    have fP := P9.out.frozen
    have cR := R9.out.cell
    have fR := R9.out.frozen
    have HS9 := hid R9.out.st
    have HG9 := hid R9.out.gr
    clear P9 R9
    go_wp2
    refine bodyPost_ret (v := .agg #[.string T1, .int .i64 4, .string ⟨#[]⟩, .int .i64 0, .int .i64 0, .slice none 0 0, .int .i64 0, .int .i64 g1, .int .i64 c1, .int .i64 f1]) (by simp [results, Tryz.results41, go_sem, cR]) rfl ⟨.slice none 0 0, by rw [hXV.out]; rfl, ?_, ?_, ?_⟩
    · rw [hXV.out]
      exact ownStrs_nil _ _
    · rw [hXS.out]
      repeat (refine RSt.set ?_ (by omega) _ _)
      exact HS9.out
    · repeat (refine grown_set ?_ _ _ (by omega) _)
      exact HG9.out
  · have hd0 : d = 0 := by omega
    subst hd0
    simp only [show ¬ (0 : Nat) = 1 by omega, show ¬ (0 : Nat) = 2 by omega, show ¬ (0 : Nat) = 3 by omega, show ¬ (0 : Nat) = 4 by omega, ↓reduceIte] at hXV hXS
    replace hXV : Hid (XV = _) := hid hXV.out.symm
    replace hXS : Hid (XS = _) := hid hXS.out.symm
    have cR4 := R3.out.cell
    have fR4 := R3.out.frozen
    have HS9 := hid R3.out.st
    have HG9 := hid R3.out.gr
    clear R4 P4 R3
    go_wp2
    refine bodyPost_ret (v := .agg #[.string T1, .int .i64 0, .string ⟨#[]⟩, .int .i64 0, .int .i64 0, .slice none 0 0, .int .i64 0, .int .i64 0, .int .i64 0, .int .i64 0]) (by simp [results, Tryz.results41, go_sem, cR4]) rfl ⟨.slice none 0 0, by rw [hXV.out]; rfl, ?_, ?_, ?_⟩
    · rw [hXV.out]
      exact ownStrs_nil _ _
    · rw [hXS.out]
      repeat (refine RSt.set ?_ (by omega) _ _)
      exact HS9.out
    · repeat (refine grown_set ?_ _ _ (by omega) _)
      exact HG9.out
end Go.Proofs.YtgnmjdcmaahlnaaGreat

namespace Go.Proofs.YtgnmjdcmaahlnaaGreat
open Go.RowKit Go.Sort

/-- Numbers one by one, as long as nothing is bad. -/
def intsGo : Nat → St → List Int × St
  | 0, s => ([], s)
  | k + 1, s => if s.2 then ([], s) else ((iR 400 s : Int) :: (intsGo k (jS 400 s)).1, (intsGo k (jS 400 s)).2)
def freesR : Nat → St → List FreeD × St
  | 0, s => ([], s)
  | k + 1, s => if s.2 then ([], s) else
    (⟨nV s, (intsGo (iR 20 (nS s)) (jS 20 (nS s))).1⟩ :: (freesR k (intsGo (iR 20 (nS s)) (jS 20 (nS s))).2).1, (freesR k (intsGo (iR 20 (nS s)) (jS 20 (nS s))).2).2)
def FreesRow (w0 w : World) (b : Nat) (v : Value) (acc : List FreeD) (s : St) : Prop := OwnFrees w w0.heap.size v acc ∧ RSt w b s ∧ w0.grownBy w (some b)
set_option maxHeartbeats 4000000 in
set_option maxRecDepth 10000 in
theorem rfreesC_any (b : Nat) (s : St) (w : World) (h : RSt w b s) :
    Calls Tryz.prog 44 #[.pointer (some ⟨b, 0, none⟩)] w fun e w' => ∃ v, e = .returned v ∧ FreesRow w w' b v (freesR (iR 20 s) (jS 20 s)).1 (freesR (iR 20 s) (jS 20 s)).2 := by
  obtain ⟨i0, hi, hz0, hz1, hz2⟩ := info_parts Tryz.infoInt
  obtain ⟨j0, hj, hy0, hy1, hy2⟩ := info_parts Tryz.infoFree
  have H := hid (rint_any b 20 s w h (by omega))
  have hlt := h.lt
  have hn := iR_le 20 s
  clear h
  generalize iR 20 s = n at *
  generalize jS 20 s = s1 at *
  generalize hRV : (freesR n s1).1 = RV at *
  generalize hRS : (freesR n s1).2 = RS at *
  have HRV := hid hRV
  have HRS := hid hRS
  clear hRV hRS
  go_enter Tryz.func44, Tryz.ntmps44
  go_wp2_with fail
  refine H.out.mono ?_
  rintro e w1 ⟨rfl, hc1, hg1⟩
  have HC1 := hid hc1
  have HG1 := hid hg1
  clear hc1 hg1 H
  go_wp2
  go_loopg [3, 5] n (fun g v i wr => ∃ (k : Nat) (acc : List FreeD) (sx : St), k + g = n ∧ i = .int .i64 k ∧ acc.length = k ∧ Hid (FreesRow w wr b v acc sx) ∧ Hid (RV = acc ++ (freesR g sx).1 ∧ RS = (freesR g sx).2))
  case atStart => exact ⟨0, [], s1, by omega, rfl, rfl, ⟨ownFrees_nil _ _, HC1.out, HG1.out⟩, hid ⟨by rw [HRV.out]; rfl, HRS.out.symm⟩⟩
  case round =>
    obtain ⟨k, acc, sx, hk, rfl, hacc, hnow, hrv⟩ := hrel
    clear HC1 HG1 HRV HRS
    obtain ⟨hfr, hat, hgr⟩ := hnow.out
    obtain ⟨hc0, hc1, hf0, hf1⟩ := cells_ref hat.1
    have hbl := hat.lt
    obtain ⟨fo, fn, fc, hu3⟩ : ∃ ao n c, u3 = .slice ao n c := by
      obtain ⟨ao, cap, hv, _⟩ := hfr.frees
      exact ⟨_, _, _, hv⟩
    subst hu3
    cases gk with
    | zero =>
      have hke : k = n := by omega
      subst hke
      clear hfr hat hgr
      go_wp2
      go_ret
      refine ⟨_, rfl, ?_⟩
      have e1 : RV = acc := by rw [hrv.out.1]; simp [freesR]
      have e2 : RS = sx := by rw [hrv.out.2]; rfl
      rw [e1, e2]
      exact hnow.out
    | succ g =>
      have hlk : k < n := by omega
      have hszw := hgr.size
      obtain ⟨lx, sh⟩ := sx
      cases sh with
      | true =>
        clear hfr hat hgr
        go_wp2
        go_ret
        refine ⟨_, rfl, ?_⟩
        have e1 : RV = acc := by rw [hrv.out.1]; simp [freesR]
        have e2 : RS = (lx, true) := by rw [hrv.out.2]; simp [freesR]
        rw [e1, e2]
        exact hnow.out
      | false =>
        have HN1 := hid (rnumC_any b (lx, false) wr hat)
        have HN2 := hid (fun W (hW : RSt W b (nS (lx, false))) => rint_any b 20 _ W hW (by omega))
        have hm := iR_le 20 (nS (lx, false))
        have hrv2 : RV = acc ++ (⟨nV (lx, false), (intsGo (iR 20 (nS (lx, false))) (jS 20 (nS (lx, false)))).1⟩ :: (freesR g (intsGo (iR 20 (nS (lx, false))) (jS 20 (nS (lx, false)))).2).1) ∧ RS = (freesR g (intsGo (iR 20 (nS (lx, false))) (jS 20 (nS (lx, false)))).2).2 := by
          have h1 := hrv.out.1
          have h2 := hrv.out.2
          simp only [freesR] at h1 h2
          exact ⟨by simpa using h1, by simpa using h2⟩
        generalize nV (lx, false) = t at *
        generalize nS (lx, false) = sn at *
        generalize iR 20 sn = m at *
        generalize jS 20 sn = s2 at *
        obtain ⟨IV, hIV⟩ : ∃ X, (intsGo m s2).1 = X := ⟨_, rfl⟩
        obtain ⟨IS, hIS⟩ : ∃ X, (intsGo m s2).2 = X := ⟨_, rfl⟩
        rw [hIV, hIS] at hrv2
        replace hIV := hid hIV
        replace hIS := hid hIS
        replace hrv2 := hid hrv2
        have HFR := hid hfr
        have HGR := hid hgr
        clear hfr hgr hnow hrv hat
        go_wp2_with fail
        refine HN1.out.mono ?_
        rintro e w2 ⟨rfl, hc2, hg2⟩
        have HC2 := hid (hc2.alloc (.cells #[.int .u64 t, .slice none 0 0] 76))
        have HQ2 := hid (grown_new hg2 (.cells #[.int .u64 t, .slice none 0 0] 76))
        have HF2 := hid (heap_newL w2 (.cells #[.int .u64 t, .slice none 0 0] 76))
        have hszF := hg2.size
        clear hc2 hg2 HN1 hc0 hc1 hf0 hf1 hbl
        go_wp2_with fail
        refine (HN2.out _ HC2.out).mono ?_
        rintro e w3 ⟨rfl, hc3, hg3⟩
        have HC3 := hid hc3
        have HQ3 := hid (grown_trans HQ2.out hg3)
        have HF3 : Hid (w3.heap[w2.heap.size]? = some (.cells #[.int .u64 t, .slice none 0 0] 76 (0, 0))) := (hg3.block w2.heap.size (by simp) (by simp; omega)).trans HF2.out
        clear hc3 hg3 HC2 HQ2 HF2 HN2
        generalize w2.heap.size = F at *
        obtain ⟨W0, hW0⟩ : ∃ W0, W0 = wr := ⟨_, rfl⟩
        subst hW0
        have hbW : b < W0.heap.size := by omega
        go_wp2
        go_loopg [8] m (fun g2 i wq => ∃ (j : Nat) (ids : List Int) (s3 : St) (vid : Value), j + g2 = m ∧ i = .int .i64 j ∧ ids.length = j ∧ Hid (IV = ids ++ (intsGo g2 s3).1 ∧ IS = (intsGo g2 s3).2) ∧ Hid (wq.heap[F]? = some (.cells #[.int .u64 t, vid] 76 (0, 0))) ∧ Hid (OwnInts wq W0.heap.size vid ids) ∧ Hid (RSt wq b s3) ∧ Hid (W0.grownBy wq (some b)))
        case atStart => exact ⟨0, [], s2, .slice none 0 0, by omega, rfl, rfl, hid ⟨hIV.out.symm, hIS.out.symm⟩, HF3, ownInts_nil _ _, HC3, HQ3⟩
        case round =>
          obtain ⟨j, ids, s3, vid, hj2, rfl, hidl, hiv, hF, hids, hat, hq⟩ := hrel
          clear HF3 HC3 HQ3 hIV hIS
          have hFlt := (Array.getElem?_eq_some_iff.1 hF.out).1
          have hsq := hq.out.size
          obtain ⟨hc0, hc1, hf0, hf1⟩ := cells_ref hat.out.1
          have hbl := hat.out.lt
          obtain ⟨av, nv, cv, hvid⟩ := hids.out.slice
          subst hvid
          obtain ⟨l3, sh3⟩ := s3
          have hend : Hid (gk = 0 ∨ sh3 = true → IV = ids ∧ IS = (l3, sh3)) := hid (by
            intro hor
            have h1 := hiv.out.1
            have h2 := hiv.out.2
            rcases hor with rfl | rfl
            · exact ⟨by rw [h1]; simp [intsGo], by rw [h2]; rfl⟩
            · cases gk with
              | zero => exact ⟨by rw [h1]; simp [intsGo], by rw [h2]; rfl⟩
              | succ q => exact ⟨by rw [h1]; simp [intsGo], by rw [h2]; simp [intsGo]⟩)
          have hgo : Hid (gk = 0 ∨ sh3 = true) ∨ ∃ g2, gk = g2 + 1 ∧ sh3 = false := by
            cases gk with
            | zero => exact .inl (hid (.inl rfl))
            | succ g2 =>
              cases sh3 with
              | true => exact .inl (hid (.inr rfl))
              | false => exact .inr ⟨g2, rfl, rfl⟩
          rcases hgo with hgo | ⟨g2, rfl, rfl⟩
          · obtain ⟨e1, e2⟩ := hend.out hgo.out
            have hatE : Hid (RSt wr b IS) := hid (by rw [e2]; exact hat.out)
            have hE : Hid (RV = acc ++ (⟨t, ids⟩ :: (freesR g IS).1) ∧ RS = (freesR g IS).2) := hid (by rw [← e1]; exact hrv2.out)
            have cF := cell_rowL hF.out
            have HFN := hid (HFR.out.lt hq.out (fun k hk => by cases hk; omega))
            have HGN := hid (grown_trans HGR.out hq.out)
            obtain ⟨hal, us, hus, hown, hidsA⟩ := HFN.out
            have HIA := hid hidsA
            have hjm : (gk = 0 ∧ j = m) ∨ (sh3 = true ∧ j < m) ∨ (sh3 = true ∧ j = m) := by
              rcases hgo.out with h | h
              · exact .inl ⟨h, by omega⟩
              · by_cases hj3 : j < m
                · exact .inr (.inl ⟨h, hj3⟩)
                · exact .inr (.inr ⟨h, by omega⟩)
            clear e1 e2 hidsA HFN hend hiv
            rcases hjm with ⟨hg0, rfl⟩ | ⟨rfl, hjm⟩ | ⟨rfl, rfl⟩
            all_goals
              go_wp2_with (at_builtin; refine wpList_append_own _ rfl _ _ 48 rfl w.heap.size 76 j0 (.agg #[.int .u64 0, .slice none 0 0]) 2 32 Tryz.underlying48 hj hy0 hy1 hy2 rfl (by decide) _ _ _ rfl (hown.alloc _) ⟨wr.heap.size, 0, none⟩ 1 1 [.int .u64 t, .slice av nv cv] rfl rfl (World.news_of_block (cs := #[.int .u64 t, .slice av nv cv]) (t := 76) (fr := (0, 0)) (heap_newL wr _)) (fun x hx => by simp at hx; rcases hx with rfl | rfl <;> rfl) (by unfold maxLen; omega) (by omega) (by have := HGN.out.size; simp; omega) ?_)
              intro v' w5 hown' hgrow _
              have hrow : ∀ k, (Value.slice fo fn fc).ownBlock = some k → w.heap.size ≤ k ∧ k < wr.heap.size := hown.lt
              have hblk := owns_block hown
              have hne3 : ∀ k, (Value.slice fo fn fc).ownBlock = some k → ∃ cs T fr, (wr.alloc (.cells #[.int .u64 t, .slice av nv cv] 76)).heap[k]? = some (.cells cs T fr) ∧ T ≠ 3 := fun k hk => by
                obtain ⟨cs, fr, h1⟩ := hblk k hk
                exact ⟨cs, _, fr, (Below.heap_alloc _ _ _ (hrow k hk).2).trans h1, by decide⟩
              have HNOW : Hid (FreesRow w w5 b v' (acc ++ [⟨t, ids⟩]) IS) := by
                refine ⟨⟨by simp; omega, us ++ [.slice av nv cv], by simp [hus], ?_, fun i h1 h2 => ?_⟩, ?_, ?_⟩
                · rw [freeCells_snoc acc us _ _ hus]
                  simpa [hacc] using hown'
                · by_cases hi2 : i < acc.length
                  · have h3 : i < us.length := by omega
                    rw [List.getElem_append_left hi2, List.getElem_append_left h3]
                    exact ((HIA.out i hi2 h3).alloc _).ty hgrow hne3
                  · have hi3 : i = acc.length := by simp at h1; omega
                    subst hi3
                    rw [List.getElem_append_right (Nat.le_refl _), List.getElem_append_right (by omega)]
                    simp only [hus, Nat.sub_self, List.getElem_cons_zero]
                    exact ((hids.out.mono hszw).alloc _).ty hgrow hne3
                · exact RSt.grown (hatE.out.alloc _) hgrow (fun e => by have := (hrow _ e).1; omega)
                · exact grown_step (grown_new HGN.out _) hgrow (fun q hq => (hrow q hq).1)
              clear hown' hgrow hown hrow hblk hne3 cF
              go_wp2
              go_roundg g
              case measure => omega
              case rel => exact ⟨k + 1, acc ++ [⟨t, ids⟩], IS, by omega, by go_num, by simp [hacc], HNOW, hid ⟨by rw [hE.out.1]; simp, hE.out.2⟩⟩
          · have hjm : j < m := by omega
            have cF : wr.cell? ⟨F, 1, none⟩ = some (.slice av nv cv) := by rw [cell_rowL hF.out]; rfl
            have fF : wr.frozen? ⟨F, 1, none⟩ = false := frozen_rowL hF.out 1
            have HTN := hid (fun W (hW : RSt W b (l3, false)) => rint_any b 400 (l3, false) W hW (by omega))
            have hiv2 : Hid (IV = (ids ++ [(iR 400 (l3, false) : Int)]) ++ (intsGo g2 (jS 400 (l3, false))).1 ∧ IS = (intsGo g2 (jS 400 (l3, false))).2) := hid (by
              have h1 := hiv.out.1
              have h2 := hiv.out.2
              simp only [intsGo] at h1 h2
              exact ⟨by simpa using h1, by simpa using h2⟩)
            generalize iR 400 (l3, false) = NV at *
            generalize jS 400 (l3, false) = s4 at *
            clear hiv hend
            go_wp2_with fail
            go_region_law (first
                | (refine step_append_lies _ (by rfl) _ _ _ (by rfl) W0.heap.size 3 i0 _ 1 8 Tryz.underlying47 hi hz0 hz1 hz2 rfl (by omega) (.slice av nv cv) j (intCells ids) (by rfl) (by have := hI4.1.alloc (.cells #[.int .i64 NV] 3); rw [hidl] at this; exact this) ⟨w4.heap.size, 0, none⟩ 1 1 [.int .i64 NV] (by rfl) (by rfl) (World.news_of_block (cs := #[.int .i64 NV]) (t := 3) (fr := (0, 0)) (heap_newL w4 _)) (by simp [Value.oneCell']) (by omega) (by unfold maxLen; omega) (by omega) (by have := hq4.size; simp; omega) (w4.heap.size + 1) (by simp) ?_
                   intro g5 cap5 w5 hown5 hgrow5 hat5 hlt5
                   have hneF : (Value.slice av nv cv).ownBlock ≠ some F := fun e => by
                     obtain ⟨cs, fr, h1⟩ := owns_block hI4.1 F e
                     rw [hF4] at h1
                     simp at h1
                   have hF5 : w5.heap[F]? = some (.cells #[.int .u64 t, .slice av nv cv] 76 (0, 0)) := (hgrow5.block F (by have := (Array.getElem?_eq_some_iff.1 hF4).1; simp; omega) (fun e => hneF e.symm)).trans ((Below.heap_alloc _ _ _ (Array.getElem?_eq_some_iff.1 hF4).1).trans hF4)
                   have cF5 : w5.cell? ⟨F, 1, none⟩ = some (.slice av nv cv) := by rw [cell_rowL hF5]; rfl
                   have fF5 : w5.frozen? ⟨F, 1, none⟩ = false := frozen_rowL hF5 1)
                | (go_simp
                   go_at_call 40
                   refine (HTN.out _ (RSt.drew hat.out)).mono ?_
                   rintro e w4 ⟨rfl, hc4, hg4'⟩
                   have hg4 := grown_drew hg4'
                   have hF4 : w4.heap[F]? = some (.cells #[.int .u64 t, .slice av nv cv] 76 (0, 0)) := (hg4.block F hFlt (by simp; omega)).trans hF.out
                   have cF4 : w4.cell? ⟨F, 1, none⟩ = some (.slice av nv cv) := by rw [cell_rowL hF4]; rfl
                   have cFo4 : ∀ o, (w4.alloc o).cell? ⟨F, 1, none⟩ = some (.slice av nv cv) := fun o => (cell_rowL ((Below.heap_alloc _ _ _ (Array.getElem?_eq_some_iff.1 hF4).1).trans hF4) 1).trans rfl
                   have hI4 := OwnInts.lt hids.out hg4 (fun k hk => by cases hk; omega)
                   have hq4 := grown_trans hq.out hg4))
            all_goals
              have HF6 : Hid ((w5.setCell ⟨F, 1, none⟩ (.slice (some ⟨g5, 0, none⟩) (j + 1) cap5)).heap[F]? = some (.cells #[.int .u64 t, .slice (some ⟨g5, 0, none⟩) (j + 1) cap5] 76 (0, 0))) := by
                show _ = _
                rw [heap_setCell_same w5 F 1 _ _ _ hF5]
                rfl
              have HI6 : Hid (OwnInts (w5.setCell ⟨F, 1, none⟩ (.slice (some ⟨g5, 0, none⟩) (j + 1) cap5)) W0.heap.size (.slice (some ⟨g5, 0, none⟩) (j + 1) cap5) (ids ++ [(NV : Int)])) := by
                refine OwnInts.ty ⟨?_, by simp; omega⟩ (grown_setCell w5 F 1 _) (fun k hk => by cases hk; exact ⟨_, _, _, hF5, by decide⟩)
                have := hown5
                rw [List.length_append, hidl]
                simpa [intCells] using hown5
              have hrow5 : ∀ k, (Value.slice av nv cv).ownBlock = some k → W0.heap.size ≤ k := fun k hk => (hI4.1.lt k hk).1
              have HA6 : Hid (RSt (w5.setCell ⟨F, 1, none⟩ (.slice (some ⟨g5, 0, none⟩) (j + 1) cap5)) b s4) :=
                (RSt.grown (hc4.alloc _) hgrow5 (fun e => by have := hrow5 _ e; omega)).set (by omega) _ _
              have HQ6 : Hid (W0.grownBy (w5.setCell ⟨F, 1, none⟩ (.slice (some ⟨g5, 0, none⟩) (j + 1) cap5)) (some b)) :=
                grown_set (grown_step (grown_new hq4 _) hgrow5 hrow5) F 1 hszF _
              clear hown5 hgrow5 hat5 hlt5 hneF hF5 cF5 fF5 hrow5 hc4 hg4 hg4' hF4 cF4 cFo4 hI4 hq4
              generalize (w5.setCell ⟨F, 1, none⟩ (.slice (some ⟨g5, 0, none⟩) (j + 1) cap5)) = W6 at *
              go_wp2
              go_roundg g2
              case measure => omega
              case rel => exact ⟨j + 1, ids ++ [(NV : Int)], s4, _, by omega, by go_num, by simp [hidl], hiv2, HF6, HI6, HA6, HQ6⟩
end Go.Proofs.YtgnmjdcmaahlnaaGreat
