/- Contract of package page's rightItems. -/
import Derived.Test.YtgnmjdcmaahlnaaLc
import Derived.Test.YtgnmjdcmaahlnaaLe
import Derived.Test.YtgnmjdcmaahlnaaLf
namespace Go.Proofs.Ytgnmjdcmaahlnaa
open Go.RowKit Go.Sort

def goodItemB (x : ItemD) : Bool := shortB x.key && rightItemB x && sameItemB x (ownItemD x)
def rightItemsB (l : List ItemD) : Bool := withinB l.length 1 4 && l.all goodItemB && upS (l.map fun x => x.key)
theorem Try.infoStr : (Try.prog.info? 9).map (fun i => (i.zero, i.size, i.bytes)) = some (some (.string ⟨#[]⟩), 1, 16) := by kernel_rfl
theorem regrown_same {X : World} {f : FuncId} {args : Array Value} {v : Value} (h : ∀ W, Calls Try.prog f args W fun e w' => e = .returned v ∧ w' = W) :
    ∀ d os, Calls Try.prog f args (grow (redrawn X d) os) fun e w'' => e = .returned v ∧ ∃ p : Regrown, w'' = grow (redrawn X p.d) p.os := fun d os =>
  (h _).mono fun _ _ he => ⟨he.1, ⟨d, os⟩, he.2⟩
/-- A row of texts that the call owns is a slice of texts. -/
theorem strs_own {w : World} {base : Nat} {v : Value} {l : List ByteArray} (h : w.ownsRow base 9 1 v l.length (l.map Value.string)) (hz : ∀ x ∈ l, x.size ≤ maxLen) (hl : l.length ≤ maxLen) : StrsAt w v l := by
  rcases h.2 with ⟨rfl, h0⟩ | ⟨g, cap, cur, rfl, hb, hg, hnc, hcm, hcs, htake⟩
  · have : l = [] := List.eq_nil_of_length_eq_zero h0
    subst this
    exact ⟨none, 0, rfl, ⟨Nat.zero_le _, Nat.le_refl _⟩, fun i hi => absurd hi (by simp)⟩
  · refine ⟨some ⟨g, 0, none⟩, cap, rfl, ⟨hl, hnc⟩, fun i hi => ⟨⟨g, 0, none⟩, rfl, ?_, hz _ (List.getElem_mem hi)⟩⟩
    exact h.cells (g := g) rfl i _ (by simp [hi])
def keyCells (l : List ItemD) : List Value := l.map fun x => Value.string x.key
theorem keys_snoc (l : List ItemD) (k : Nat) (h : k < l.length) : keyCells (l.take (k + 1)) = keyCells (l.take k) ++ [Value.string l[k].key] := by
  unfold keyCells
  rw [List.take_succ_eq_append_getElem h, List.map_append]
  rfl
theorem heap_newL (w : World) (o : Obj) : (w.alloc o).heap[w.heap.size]? = some o := by
  show (w.heap.push o)[w.heap.size]? = _
  exact Array.getElem?_push_size
theorem cell_rowL {w : World} {b : Nat} {cs : Array Value} {T : TypeId} {fr : Nat × Nat} (hb : w.heap[b]? = some (.cells cs T fr)) (j : Nat) : w.cell? ⟨b, j, none⟩ = cs[j]? := by
  simp [World.cell?, hb]
theorem owns_below {w w' : World} {base : Nat} {e : TypeId} {size n : Nat} {v : Value} {xs : List Value} (h : w.ownsRow base e size v n xs) (hb : Below w.heap.size w w') : w'.ownsRow base e size v n xs := by
  refine ⟨h.1, ?_⟩
  rcases h.2 with hn | ⟨g, cap, cur, hv, hg, hh, rest⟩
  · exact .inl hn
  · exact .inr ⟨g, cap, cur, hv, hg, (hb.block g (Array.getElem?_eq_some_iff.1 hh).1).trans hh, rest⟩
theorem strs_nil (w : World) : StrsAt w (.slice none 0 0) [] := ⟨none, 0, rfl, ⟨Nat.zero_le _, Nat.le_refl _⟩, fun i hi => absurd hi (by simp)⟩
theorem strs_ownItem {w : World} {v : Value} {x : ItemD} (h : StrsAt w v x.vals) : StrsAt w (onKind x.kind 3 v) (ownItemD x).vals := by
  unfold onKind ownItemD
  by_cases h3 : x.kind = 3
  · simpa [h3] using h
  · rw [if_neg h3]
    have : ((if x.kind = 1 then { noItem with key := x.key, kind := x.kind, val := x.val }
      else if x.kind = 2 then { noItem with key := x.key, kind := x.kind, run := x.run, len := x.len }
      else if x.kind = 3 then { noItem with key := x.key, kind := x.kind, vals := x.vals, dup := x.dup }
      else if x.kind = 4 then { noItem with key := x.key, kind := x.kind, root := x.root }
      else noItem : ItemD)).vals = [] := by
      by_cases h1 : x.kind = 1
      · simp [h1, noItem]
      · by_cases h2 : x.kind = 2
        · simp [h2, noItem]
        · by_cases h4 : x.kind = 4
          · simp [h4, noItem]
          · simp [h1, h2, h3, h4, noItem]
    rw [this]
    exact strs_nil w

set_option maxHeartbeats 2000000 in
theorem rightItems_any (l : List ItemD) (v : Value) (w : World) (hv : ItemsAt w v l) :
    Calls Try.prog 37 #[v] w fun e w' => e = .returned (.bool (rightItemsB l)) ∧ Below w.heap.size w w' := by
  obtain ⟨ao, cap, rfl, hlm, hc⟩ := hv
  obtain ⟨i0, hi, hz0, hz1, hz2⟩ := info_parts Try.infoStr
  unfold maxLen at hlm
  have HC := hid hc
  clear hc
  cases hw : withinB l.length 1 4
  · go_enter Try.func37, Try.ntmps37
    go_wp2_with (go_at_call 44; refine Calls.mono (within_any _ _ _ _) ?_; rintro e w2 ⟨rfl, rfl⟩)
    go_ret
    refine ⟨ret_bool ?_, Below.refl _ _⟩
    simp [rightItemsB, hw]
  have hwi : l.length ≤ 4 := by simp [withinB] at hw; omega
  go_enter Try.func37, Try.ntmps37
  go_wp2_with (go_at_call 44; refine Calls.mono (within_any _ _ _ _) ?_; rintro e w2 ⟨rfl, hw2⟩; subst w2)
  have hown0 : (w.alloc (Obj.cells #[] 9)).ownsRow w.heap.size 9 1 (.slice (some ⟨w.heap.size, 0, none⟩) 0 0) 0 [] :=
    ⟨rfl, .inr ⟨w.heap.size, 0, #[], rfl, Nat.le_refl _, heap_newL w _, Nat.le_refl _, Nat.zero_le _, rfl, rfl⟩⟩
  go_loopw [3, 13] (fun v i wr => ∃ k : Nat, k ≤ l.length ∧ i = .int .i64 k ∧ wr.ownsRow w.heap.size 9 1 v k (keyCells (l.take k)) ∧ Hid ((l.take k).all goodItemB = true) ∧ Below w.heap.size w wr) (fun _ i _ => l.length - (intOf i).toNat)
  case atStart => exact ⟨0, Nat.zero_le _, rfl, hown0, rfl, (Below.refl _ _).alloc (Nat.le_refl _) _⟩
  case round =>
    obtain ⟨k, hk, rfl, hown, hall, hbel⟩ := hrel
    clear hown0
    by_cases hlt : k < l.length
    · obtain ⟨b, o, x, hao, hbl, hr, hx, hkm, hvm⟩ := HC.out k hlt
      have hia := atItems (ao := ao) l.length cap k hao hlt
      have hl1 := range10 (range_below hr hbel hbl)
      have HX : Hid (∀ W, Below w.heap.size w W → StrsAt W x l[k].vals) := fun W hW => hx.below hW
      have HTK := hid (List.take_succ_eq_append_getElem hlt)
      have HKS := hid (keys_snoc l k hlt)
      have HM : Hid (l[k] ∈ l) := List.getElem_mem hlt
      have HKM := hid hkm
      have HVM := hid hvm
      obtain ⟨ax, cx, hxe, hxl, -⟩ := hx
      subst hxe
      clear hr hao hbl hkm hvm hxl
      generalize l[k] = Y at *
      obtain ⟨k1, d1, l1, r1, n1, s1, p1, ⟨g1, c1, f1⟩⟩ := Y
      simp only at hl1
      have HB1 : Hid (Below w.heap.size w (wr.alloc (.cells #[.string k1, .int .i64 d1, .string l1, .int .i64 r1, .int .i64 n1, .slice ax s1.length cx, .int .i64 p1, .int .i64 g1, .int .i64 c1, .int .i64 f1] 80))) := hbel.alloc hbel.size _
      have HO1 : Hid ((wr.alloc (.cells #[.string k1, .int .i64 d1, .string l1, .int .i64 r1, .int .i64 n1, .slice ax s1.length cx, .int .i64 p1, .int .i64 g1, .int .i64 c1, .int .i64 f1] 80)).ownsRow w.heap.size 9 1 u3 k (keyCells (l.take k))) := hown.alloc _
      have hXr : (wr.alloc (.cells #[.string k1, .int .i64 d1, .string l1, .int .i64 r1, .int .i64 n1, .slice ax s1.length cx, .int .i64 p1, .int .i64 g1, .int .i64 c1, .int .i64 f1] 80)).rangeAt wr.heap.size 0 (itemCells ⟨k1, d1, l1, r1, n1, s1, p1, ⟨g1, c1, f1⟩⟩ (.slice ax s1.length cx)) := by
        intro j u hj
        rw [Nat.zero_add, cell_rowL (heap_newL wr _)]
        simpa [itemCells] using hj
      have hXs : wr.heap.size < (wr.alloc (.cells #[.string k1, .int .i64 d1, .string l1, .int .i64 r1, .int .i64 n1, .slice ax s1.length cx, .int .i64 p1, .int .i64 g1, .int .i64 c1, .int .i64 f1] 80)).heap.size := by simp
      go_wp2_with fail
      clear hl1 hia hown
      generalize (wr.alloc (.cells #[.string k1, .int .i64 d1, .string l1, .int .i64 r1, .int .i64 n1, .slice ax s1.length cx, .int .i64 p1, .int .i64 g1, .int .i64 c1, .int .i64 f1] 80)) = X at *
      generalize wr.heap.size = B at *
      have hl2 := fun d os => range10 (range_below hXr (below_regrown X d os) hXs)
      simp only [Nat.zero_add] at hl2
      have HSH : Hid (∀ d os, Calls Try.prog 62 #[.string k1] (grow (redrawn X d) os) fun e w'' => e = .returned (.bool (shortB k1)) ∧ ∃ p : Regrown, w'' = grow (redrawn X p.d) p.os) := regrown_same (fun W => short_any k1 W HKM.out)
      have HRI : Hid (∀ d os, Calls Try.prog 63 #[.agg #[.string k1, .int .i64 d1, .string l1, .int .i64 r1, .int .i64 n1, .slice ax s1.length cx, .int .i64 p1, .int .i64 g1, .int .i64 c1, .int .i64 f1]] (grow (redrawn X d) os) fun e w'' => e = .returned (.bool (rightItemB ⟨k1, d1, l1, r1, n1, s1, p1, ⟨g1, c1, f1⟩⟩)) ∧ ∃ p : Regrown, w'' = grow (redrawn X p.d) p.os) := fun d os =>
        Calls.regrown_of (rightItem_any ⟨k1, d1, l1, r1, n1, s1, p1, ⟨g1, c1, f1⟩⟩ _ _ (HX.out _ (HB1.out.trans ((below_regrown X d os).mono HB1.out.size))) HVM.out)
      have HOI : Hid (∀ d os, Calls Try.prog 64 #[.agg #[.string k1, .int .i64 d1, .string l1, .int .i64 r1, .int .i64 n1, .slice ax s1.length cx, .int .i64 p1, .int .i64 g1, .int .i64 c1, .int .i64 f1]] (grow (redrawn X d) os) fun e w'' => e = .returned (.agg (itemCells (ownItemD ⟨k1, d1, l1, r1, n1, s1, p1, ⟨g1, c1, f1⟩⟩) (onKind d1 3 (.slice ax s1.length cx))).toArray) ∧ ∃ p : Regrown, w'' = grow (redrawn X p.d) p.os) := fun d os =>
        Calls.regrown_of (ownItem_any ⟨k1, d1, l1, r1, n1, s1, p1, ⟨g1, c1, f1⟩⟩ _ _ ⟨_, _, _, rfl⟩)
      have HSI : Hid (∀ d os, Calls Try.prog 46 #[.agg #[.string k1, .int .i64 d1, .string l1, .int .i64 r1, .int .i64 n1, .slice ax s1.length cx, .int .i64 p1, .int .i64 g1, .int .i64 c1, .int .i64 f1], .agg (itemCells (ownItemD ⟨k1, d1, l1, r1, n1, s1, p1, ⟨g1, c1, f1⟩⟩) (onKind d1 3 (.slice ax s1.length cx))).toArray] (grow (redrawn X d) os) fun e w'' => e = .returned (.bool (sameItemB ⟨k1, d1, l1, r1, n1, s1, p1, ⟨g1, c1, f1⟩⟩ (ownItemD ⟨k1, d1, l1, r1, n1, s1, p1, ⟨g1, c1, f1⟩⟩))) ∧ ∃ p : Regrown, w'' = grow (redrawn X p.d) p.os) := fun d os =>
        Calls.regrown_of (sameItem_any ⟨k1, d1, l1, r1, n1, s1, p1, ⟨g1, c1, f1⟩⟩ _ _ _ _ (HX.out _ (HB1.out.trans ((below_regrown X d os).mono HB1.out.size))) (strs_ownItem (x := ⟨k1, d1, l1, r1, n1, s1, p1, ⟨g1, c1, f1⟩⟩) (HX.out _ (HB1.out.trans ((below_regrown X d os).mono HB1.out.size)))))
      generalize (itemCells (ownItemD ⟨k1, d1, l1, r1, n1, s1, p1, ⟨g1, c1, f1⟩⟩) (onKind d1 3 (.slice ax s1.length cx))).toArray = OA at *
      cases hb1 : shortB k1
      · refine wp_region_quiet_below (by kernel_rfl) (by kernel_rfl) ?_
        repeat (go_big_quiet_step (first | exact HSH.out _ _ | exact HRI.out _ _ | exact HOI.out _ _ | exact HSI.out _ _))
        refine wpQuiet_nil ?_
        intro _ hw'
        obtain ⟨⟨dq, osq⟩, hw''⟩ := hw'
        subst hw''
        have HBE := hid (HB1.out.trans ((below_regrown X dq osq).mono HB1.out.size))
        clear hl2
        go_wp2
        go_ret
        refine ⟨ret_bool ?_, HBE.out⟩
        have hall2 : l.all goodItemB = false := by
          rw [List.all_eq_false]
          exact ⟨_, HM.out, by simp [goodItemB, hb1]⟩
        simp [rightItemsB, hall2]
      cases hb2 : rightItemB ⟨k1, d1, l1, r1, n1, s1, p1, ⟨g1, c1, f1⟩⟩
      · refine wp_region_quiet_below (by kernel_rfl) (by kernel_rfl) ?_
        repeat (go_big_quiet_step (first | exact HSH.out _ _ | exact HRI.out _ _ | exact HOI.out _ _ | exact HSI.out _ _))
        refine wpQuiet_nil ?_
        intro _ hw'
        obtain ⟨⟨dq, osq⟩, hw''⟩ := hw'
        subst hw''
        have HBE := hid (HB1.out.trans ((below_regrown X dq osq).mono HB1.out.size))
        clear hl2
        go_wp2
        go_ret
        refine ⟨ret_bool ?_, HBE.out⟩
        have hall2 : l.all goodItemB = false := by
          rw [List.all_eq_false]
          exact ⟨_, HM.out, by simp [goodItemB, hb2]⟩
        simp [rightItemsB, hall2]
      cases hb3 : sameItemB ⟨k1, d1, l1, r1, n1, s1, p1, ⟨g1, c1, f1⟩⟩ (ownItemD ⟨k1, d1, l1, r1, n1, s1, p1, ⟨g1, c1, f1⟩⟩)
      · refine wp_region_quiet_below (by kernel_rfl) (by kernel_rfl) ?_
        repeat (go_big_quiet_step (first | exact HSH.out _ _ | exact HRI.out _ _ | exact HOI.out _ _ | exact HSI.out _ _))
        refine wpQuiet_nil ?_
        intro _ hw'
        obtain ⟨⟨dq, osq⟩, hw''⟩ := hw'
        subst hw''
        have HBE := hid (HB1.out.trans ((below_regrown X dq osq).mono HB1.out.size))
        clear hl2
        go_wp2
        go_ret
        refine ⟨ret_bool ?_, HBE.out⟩
        have hall2 : l.all goodItemB = false := by
          rw [List.all_eq_false]
          exact ⟨_, HM.out, by simp [goodItemB, hb3]⟩
        simp [rightItemsB, hall2]
      · have HGD : Hid (goodItemB ⟨k1, d1, l1, r1, n1, s1, p1, ⟨g1, c1, f1⟩⟩ = true) := by show _ = _; simp [goodItemB, hb1, hb2, hb3]
        refine wp_region_quiet_below (by kernel_rfl) (by kernel_rfl) ?_
        repeat (go_big_quiet_step (first | exact HSH.out _ _ | exact HRI.out _ _ | exact HOI.out _ _ | exact HSI.out _ _))
        refine wpQuiet_nil ?_
        intro _ hw'
        obtain ⟨⟨dq, osq⟩, hw''⟩ := hw'
        subst hw''
        have HBE := hid (HB1.out.trans ((below_regrown X dq osq).mono HB1.out.size))
        have hownY := owns_below HO1.out (below_regrown X dq osq)
        have hcY := (hl2 dq osq).1
        clear hl2 hXr hXs
        generalize grow (redrawn X dq) osq = Y at *
        go_wp2_with (at_builtin; refine wpList_append_own _ rfl _ _ 45 rfl w.heap.size 9 i0 (.string ⟨#[]⟩) 1 16 Try.underlying45 hi hz0 hz1 hz2 rfl (by decide) _ _ _ rfl (hownY.alloc _) ⟨Y.heap.size, 0, none⟩ 1 1 [.string k1] rfl rfl (cell_one_new _ _ _) (fun x hx => by simp at hx; subst hx; rfl) (by unfold maxLen; omega) (by omega) (by have := HBE.out.size; simp; omega) ?_)
        intro v' w3 hown' hgrow _
        rw [← HKS.out] at hown'
        have hbel3 : Below w.heap.size w w3 := (HBE.out.alloc HBE.out.size _).grown hgrow (by have := HBE.out.size; simp; omega) (fun q hq => (hownY.lt q hq).1)
        clear hgrow hownY hcY
        go_wp2
        go_roundw
        case rel => exact ⟨k + 1, by omega, by go_num, hown', by show _ = _; rw [HTK.out, List.all_append, hall.out]; simp [HGD.out], hbel3⟩
        case measure => simp [intOf]; omega
    · have hke : k = l.length := by omega
      subst hke
      rw [List.take_length] at hown
      have hst : StrsAt wr u3 (l.map fun x => x.key) := by
        refine strs_own (base := w.heap.size) ?_ ?_ ?_
        · simpa [keyCells, Function.comp_def] using hown
        · intro x hx
          obtain ⟨y, hy, rfl⟩ := List.mem_map.1 hx
          obtain ⟨j, hj, rfl⟩ := List.mem_iff_getElem.1 hy
          obtain ⟨_, _, _, _, _, _, _, hz, _⟩ := HC.out j hj
          exact hz
        · unfold maxLen; simp; omega
      have HR := hid (risingS_any _ _ _ hst)
      clear hst hown
      go_wp2_with (go_at_call 65; refine Calls.mono HR.out ?_; rintro e w2 ⟨rfl, hb2⟩)
      go_ret
      refine ⟨ret_bool ?_, hbel.trans (hb2.mono hbel.size)⟩
      have h := hall.out
      rw [List.take_length] at h
      simp [rightItemsB, hw, h]
end Go.Proofs.Ytgnmjdcmaahlnaa
