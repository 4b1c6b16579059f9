/- StoreKeeps: whatever is done in a store, the file stays as it is, and pages that were free or new alone become dirty. -/
import Derived.Test.YtpionokcabjokaaGreatZEv
namespace Go.Proofs.YtpionokcabjokaaGreat
open Go.RowKit Go.Sort Go.Conc
open H (Up up_ext mergeL dropL Fit RunI RunIs RowAt)

theorem Tryz.elemPages : Tryz.prog.underlying 22 = some (.slice (Tryz.prog.elem 22)) := by kernel_rfl
theorem Tryz.sizePages (w : World) : (Go.sizeOf (Tryz.prog.elem 22)).run Tryz.prog w = .ok 14 w := by kernel_rfl
theorem atPages (b o len cap k : Nat) (h : k < len) (w : World) : (Instr.indexAt 22 (.slice (some ⟨b, o, none⟩) len cap) (.int .i64 (k : Int))).run Tryz.prog w = .ok (.pointer (some ⟨b, o + k * 14, none⟩)) w := by
  rw [run_indexAt_slice (P := Tryz.prog) w 22 ⟨b, o, none⟩ len cap .i64 k Tryz.elemPages, if_pos (by omega), Tryz.sizePages]
  simp only [Result.andThen, Int.toNat_natCast, Addr.add_mid]
theorem Tryz.elemSteps8 : Tryz.prog.underlying 24 = some (.slice (Tryz.prog.elem 24)) := by kernel_rfl
theorem Tryz.sizeSteps8 (w : World) : (Go.sizeOf (Tryz.prog.elem 24)).run Tryz.prog w = .ok 16 w := by kernel_rfl
theorem atSteps8 (b o len cap k : Nat) (h : k < len) (w : World) : (Instr.indexAt 24 (.slice (some ⟨b, o, none⟩) len cap) (.int .i64 (k : Int))).run Tryz.prog w = .ok (.pointer (some ⟨b, o + k * 16, none⟩)) w := by
  rw [run_indexAt_slice (P := Tryz.prog) w 24 ⟨b, o, none⟩ len cap .i64 k Tryz.elemSteps8, if_pos (by omega), Tryz.sizeSteps8]
  simp only [Result.andThen, Int.toNat_natCast, Addr.add_mid]
/-- A page of the row, wherever the call stands. -/
theorem PagesAt.get {w : World} {ao : Option Addr} {cap : Nat} {l : List PageD} (h : PagesAt w (.slice ao l.length cap) l) (k : Nat) (hk : k < l.length) :
    ∃ b z ai mi ci ak mk ck ad md cd av mv cv af mf cf, (∀ W, (Instr.indexAt 22 (.slice ao l.length cap) (.int .i64 (k : Int))).run Tryz.prog W = .ok (.pointer (some ⟨b, z, none⟩)) W) ∧
      (∀ W, Below w.heap.size w W → W.rangeAt b z (pageCells l[k] (.slice ai mi ci) (.slice ak mk ck) (.slice ad md cd) (.slice av mv cv) (.slice af mf cf))) ∧ Hangs w l[k] (.slice ai mi ci) (.slice ak mk ck) (.slice ad md cd) (.slice av mv cv) (.slice af mf cf) ∧ TxnOk l[k] ∧ l[k].free.length ≤ 140737488355328 := by
  obtain ⟨ao', cap', e, hc⟩ := h
  simp only [Value.slice.injEq, true_and] at e
  obtain ⟨rfl, rfl⟩ := e
  obtain ⟨b, o, vi, vk, vd, vv, vg, rfl, hb, hr, hg, ht, hf⟩ := hc k hk
  obtain ⟨ai, mi, ci, rfl⟩ := hg.items.slice
  obtain ⟨ak, mk, ck, rfl⟩ := hg.keys.slice
  obtain ⟨ad, md, cd, rfl⟩ := hg.kids.slice
  obtain ⟨av, mv, cv, rfl⟩ := hg.vals.slice
  obtain ⟨af, mf, cf, rfl⟩ := hg.free.slice
  exact ⟨b, o + k * 14, ai, mi, ci, ak, mk, ck, ad, md, cd, av, mv, cv, af, mf, cf, fun W => atPages b o _ _ k hk W, fun W hW => range_below hr hW hb, hg, ht, hf⟩
theorem StepsAt8.get {w : World} {ao : Option Addr} {cap : Nat} {l : List StepD8} (h : StepsAt8 w (.slice ao l.length cap) l) (k : Nat) (hk : k < l.length) :
    ∃ b z ai mi ci ak mk ck ad md cd av mv cv af mf cf, (∀ W, (Instr.indexAt 24 (.slice ao l.length cap) (.int .i64 (k : Int))).run Tryz.prog W = .ok (.pointer (some ⟨b, z, none⟩)) W) ∧
      (∀ W, Below w.heap.size w W → W.rangeAt b z (.int .i64 l[k].what :: .int .i64 l[k].id :: pageCells l[k].p (.slice ai mi ci) (.slice ak mk ck) (.slice ad md cd) (.slice av mv cv) (.slice af mf cf))) ∧ Hangs w l[k].p (.slice ai mi ci) (.slice ak mk ck) (.slice ad md cd) (.slice av mv cv) (.slice af mf cf) ∧ TxnOk l[k].p ∧ InI l[k].id := by
  obtain ⟨ao', cap', e, hc⟩ := h
  simp only [Value.slice.injEq, true_and] at e
  obtain ⟨rfl, rfl⟩ := e
  obtain ⟨b, o, vi, vk, vd, vv, vg, rfl, hb, hr, hg, ht, hf⟩ := hc k hk
  obtain ⟨ai, mi, ci, rfl⟩ := hg.items.slice
  obtain ⟨ak, mk, ck, rfl⟩ := hg.keys.slice
  obtain ⟨ad, md, cd, rfl⟩ := hg.kids.slice
  obtain ⟨av, mv, cv, rfl⟩ := hg.vals.slice
  obtain ⟨af, mf, cf, rfl⟩ := hg.free.slice
  exact ⟨b, o + k * 16, ai, mi, ci, ak, mk, ck, ad, md, cd, av, mv, cv, af, mf, cf, fun W => atSteps8 b o _ _ k hk W, fun W hW => range_below hr hW hb, hg, ht, hf⟩
theorem PagesAt.slice {w : World} {v : Value} {l : List PageD} (h : PagesAt w v l) : ∃ ao cap, v = .slice ao l.length cap := by
  obtain ⟨ao, cap, rfl, _⟩ := h
  exact ⟨ao, cap, rfl⟩
theorem StepsAt8.slice {w : World} {v : Value} {l : List StepD8} (h : StepsAt8 w v l) : ∃ ao cap, v = .slice ao l.length cap := by
  obtain ⟨ao, cap, rfl, _⟩ := h
  exact ⟨ao, cap, rfl⟩
theorem PagesAt.txn {w : World} {v : Value} {l : List PageD} (h : PagesAt w v l) : ∀ p ∈ l, TxnOk p := by
  intro p hp
  obtain ⟨i, hi, rfl⟩ := List.getElem_of_mem hp
  obtain ⟨ao, cap, _, hc⟩ := h
  obtain ⟨b, o, vi, vk, vd, vv, vg, _, _, _, _, ht, _⟩ := hc i hi
  exact ht

theorem tx_two {W : World} {B b : Nat} (h : W.heap[b]? = some (.cells #[.string ⟨#[]⟩, .string ⟨#[]⟩] 9 (0, 0))) (hB : B ≤ b) : OwnTx W B (.slice (some ⟨b, 0, none⟩) 2 2) [⟨#[]⟩, ⟨#[]⟩] :=
  ⟨rfl, .inr ⟨b, 2, #[.string ⟨#[]⟩, .string ⟨#[]⟩], rfl, hB, h, by simp, by unfold maxLen; omega, rfl, rfl⟩⟩
theorem range16 {w : World} {b o : Nat} {a c : Int} {p : PageD} {vi vk vd vv vf : Value} (h : w.rangeAt b o (.int .i64 a :: .int .i64 c :: pageCells p vi vk vd vv vf)) :
    w.cell? ⟨b, o, none⟩ = some (.int .i64 a) ∧ w.cell? ⟨b, o + 1, none⟩ = some (.int .i64 c) ∧ w.cell? ⟨b, o + 2, none⟩ = some (.int .i64 p.kind) ∧ w.cell? ⟨b, o + 3, none⟩ = some vi ∧ w.cell? ⟨b, o + 4, none⟩ = some vk ∧ w.cell? ⟨b, o + 5, none⟩ = some vd ∧ w.cell? ⟨b, o + 6, none⟩ = some (.string p.text) ∧
    w.cell? ⟨b, o + 7, none⟩ = some vv ∧ w.cell? ⟨b, o + 8, none⟩ = some vf ∧ w.cell? ⟨b, o + 9, none⟩ = some (.int .i64 p.next) ∧ w.cell? ⟨b, o + 10, none⟩ = some (.int .u64 p.mt.txn) ∧ w.cell? ⟨b, o + 11, none⟩ = some (.int .i64 p.mt.main.page) ∧
    w.cell? ⟨b, o + 12, none⟩ = some (.int .i64 p.mt.main.count) ∧ w.cell? ⟨b, o + 13, none⟩ = some (.int .i64 p.mt.main.flags) ∧ w.cell? ⟨b, o + 14, none⟩ = some (.int .i64 p.mt.free) ∧ w.cell? ⟨b, o + 15, none⟩ = some (.int .i64 p.mt.last) :=
  ⟨h 0 _ rfl, h 1 _ rfl, h 2 _ rfl, h 3 _ rfl, h 4 _ rfl, h 5 _ rfl, h 6 _ rfl, h 7 _ rfl, h 8 _ rfl, h 9 _ rfl, h 10 _ rfl, h 11 _ rfl, h 12 _ rfl, h 13 _ rfl, h 14 _ rfl, h 15 _ rfl⟩
set_option maxRecDepth 100000 in
set_option maxHeartbeats 8000000 in
theorem keeps_law (ps : List PageD) (av0 : List Int) (l : List StepD8) (v0 v1 v2 : Value) (w : World) (o0 : PagesAt w v0 ps) (o1 : RowsV w v1 av0) (o2 : StepsAt8 w v2 l) :
    Calls Tryz.prog 3 #[v0, v1, v2] w fun e w' => e = .returned (.bool true) ∧ Below w.heap.size w w' := by
  have HT := hidS o0.txn
  obtain ⟨pa, pc, rfl⟩ := o0.slice
  obtain ⟨sa, sc, rfl⟩ := o2.slice
  obtain ⟨va, vc, rfl, hva⟩ := o1
  have HP := hidS o0
  have HS := hidS o2
  have HV := hidS hva
  clear o0 o2 hva
  have hnn := neqNN
  have hnil := Tryz.eqNilNil
  obtain ⟨i0, hi, hz0, hz1, hz2⟩ := info_parts Tryz.infoTx
  by_cases hbig : ps.length ≤ 20 ∧ av0.length ≤ 40 ∧ l.length ≤ 60
  · obtain ⟨hbA, hbB, hbC⟩ := hbig
    have d1 : decide ((ps.length : Int) > 20) = false := decide_eq_false (by omega)
    have d2 : decide ((av0.length : Int) > 40) = false := decide_eq_false (by omega)
    have d3 : decide ((l.length : Int) > 60) = false := decide_eq_false (by omega)
    replace hbA := hidS hbA
    replace hbB := hidS hbB
    replace hbC := hidS hbC
    go_enter Tryz.func3, Tryz.ntmps3
    go_wp2_with fail
    refine (known_st w).mono ?_
    rintro e w0 ⟨rfl, B0⟩
    have HB5 := hidS ((Below.refl w0.heap.size w0).alloc (Nat.le_refl _) (.cells #[.string ⟨#[]⟩, .string ⟨#[]⟩] 9))
    have HO5 := hidS (tx_two (B := w0.heap.size) (heap_newL w0 (.cells #[.string ⟨#[]⟩, .string ⟨#[]⟩] 9)) (Nat.le_refl _))
    replace B0 := hidS B0
    go_wp2
    clear d1 d2 d3
    go_loopg [7, 8] ps.length (fun g bv i wr => ∃ (k nb : Nat) (ro : Option Addr) (cr : Nat), k + g = ps.length ∧ bv = .slice ro nb cr ∧ i = .int .i64 (k : Int) ∧ Hid (nb = k + 2) ∧ Hid (OwnTx wr w0.heap.size (.slice ro nb cr) (textsB ps k)) ∧ Hid (Below w0.heap.size w0 wr))
    case atStart => exact ⟨0, 2, some ⟨w0.heap.size, 0, none⟩, 2, by omega, rfl, rfl, hidS rfl, HO5, HB5⟩
    case round =>
      obtain ⟨k, nb, ro, cr, hk, rfl, rfl, hnb, hR, hbel⟩ := hrel
      clear HO5 HB5
      cases gk with
      | succ g =>
        have hkl : k < ps.length := by omega
        have dk : decide ((k : Int) < (ps.length : Int)) = true := decide_eq_true (by omega)
        have hbw := hidS (B0.out.trans (hbel.out.mono B0.out.size))
        obtain ⟨b, z, ai, mi, ci, ak, mk, ck, ad, md, cd, av, mv, cv, af, mf, cf, hix, hr, hg, ht, hf⟩ := HP.out.get k hkl
        have hc := range14 (hr wr hbw.out)
        have hsu := hidS (textsB_succ ps k hkl)
        have hwk : IntKind.i64.wrap ((k : Int) + 1) = (k : Int) + 1 := by have := hbA.out; rw [IntKind.wrap_i64]; omega
        have CR : Hid (Calls Tryz.prog 8 #[.agg #[.int .i64 ps[k].kind, .slice ai mi ci, .slice ak mk ck, .slice ad md cd, .string ps[k].text, .slice av mv cv, .slice af mf cf, .int .i64 ps[k].next, .int .u64 ps[k].mt.txn, .int .i64 ps[k].mt.main.page, .int .i64 ps[k].mt.main.count, .int .i64 ps[k].mt.main.flags, .int .i64 ps[k].mt.free, .int .i64 ps[k].mt.last]] wr fun e w' => e = .returned (.string (bs (bytesD ps[k]))) ∧ Below wr.heap.size wr w') := hidS (rbytes_any ps[k] _ _ _ _ _ wr (hg.below hbw.out) hf ht)
        have hts : Hid (ps[k].text.size ≤ maxLen) := hidS hg.text
        generalize ps[k] = p at *
        clear hr hg ht hf hkl
        by_cases hbig : p.text.size > 500
        · have dt : decide ((p.text.size : Int) > 500) = true := decide_eq_true (by omega)
          clear hbig CR hsu
          go_wp2
          go_ret
          exact ⟨rfl, hbw.out⟩
        · have dt : decide ((p.text.size : Int) > 500) = false := decide_eq_false (by omega)
          clear hbig
          go_wp2_with fail
          refine CR.out.mono ?_
          rintro e w3 ⟨rfl, hb3⟩
          have hB3 := hidS (hbel.out.trans (hb3.mono hbel.out.size))
          have hR3 := hR.out.below hb3
          generalize bs (bytesD p) = BX at *
          have bA := hidS (hB3.out.alloc hB3.out.size (.cells #[.string BX] 9))
          have A1 := hidS (push_text i0 hi hz0 hz1 hz2 (w0 := w0) _ (textsB ps k) BX (hR3.below ((Below.refl _ w3).alloc (Nat.le_refl _) (.cells #[.string BX] 9))) _ (heap_newL w3 _) bA.out (by have := hB3.out.size; simp; omega) (by have := textsB_len ps (k := k) (by omega); have := hbA.out; omega))
          have hlen := hidS (textsB_len ps (k := k) (by omega))
          clear CR hc hb3 hR hR3
          go_wp2_with (first
            | (at_builtin; refine H.wpList_append_any rfl (.tmp 47) (.tmp 53) 26 rfl _ _ rfl rfl (A1.out _) ?_; rintro v1 w4 ⟨⟨ra, rc, rfl⟩, h1, b1⟩; replace h1 := hidS h1; replace b1 := hidS b1)
            | fail)
          go_roundg g
          case rel => exact ⟨k + 1, _, ra, rc, by omega, rfl, by go_num, hidS (by have := hlen.out; omega), by rw [hsu.out]; exact h1, b1⟩
          case measure => omega
      | zero =>
        have hke : k = ps.length := by omega
        subst hke
        have dk : decide ((ps.length : Int) < (ps.length : Int)) = false := by simp
        have hlen := hidS (textsB_len ps (k := ps.length) (Nat.le_refl _))
        have hsm := hidS (textsB_small ps ps.length HT.out)
        generalize textsB ps ps.length = TB at *
        have hbw := hidS (B0.out.trans (hbel.out.mono B0.out.size))
        have hnb2 : Hid (nb = TB.length) := hidS (by have := hlen.out; have := hnb.out; omega)
        have hn22 : Hid (2 ≤ nb ∧ nb ≤ 22) := hidS (by have := hbA.out; have := hnb.out; omega)
        have CF := hidS (F.new_any TB (.slice ro nb cr) wr (hR.out.texts hsm.out (by have := hlen.out; have := hbA.out; omega)) (by have := hlen.out; have := hbA.out; omega))
        clear hi hz0 hz1 hz2 hk hnb hlen
        go_wp2_with fail
        refine CF.out.mono ?_
        rintro e w1 ⟨rfl, u1, hf1, hb1⟩
        have hX1 := hidS (hbw.out.trans (hb1.mono hbw.out.size))
        have hT1 := hidS (hR.out.below hb1)
        have CN := hidS (new_sf2 (w := w) (X := w1) (L := F.newL TB) wr.heap.size (nb : Int) 400 av0 va vc av0.length rfl hX1.out (file_mono hf1 hbw.out.size) (HV.out.below hX1.out (Nat.le_refl _)) (by have := hbB.out; omega))
        have hk0 := hidS (keep_new nb av0 hn22.out.1 (by have := hn22.out; omega))
        clear CF hf1 hb1 hR hbel hbw
        generalize wr.heap.size = fb at *
        generalize newD (nb : Int) 400 av0 = s0 at *
        go_wp2_with fail
        refine CN.out.mono ?_
        rintro e w2 ⟨sb, mb, rfl, S2, hb2⟩
        have hT2 := hT1.out.below hb2
        have L2 := S2.lt
        have CA := hidS (avail_sf2 S2)
        replace S2 := hidS S2
        clear CN hb2 hT1 hX1
        go_wp2_with fail
        refine CA.out.mono ?_
        rintro e w3 ⟨aw, cw, rfl, hr3, hb3⟩
        have HWK3 : Hid (RowK w3 sb mb aw cw s0.avail) := hidS (fun V hV => hr3 V (agree_so (refl_agree _ _) hV L2.1 L2.2))
        have S3 := hidS (S2.out.below hb3)
        have HTX3 := hidS (hT2.below hb3)
        have HAW : Hid (s0.avail.length ≤ 1000) := hidS (by have := S3.out.ok.lenA; omega)
        generalize s0.avail = AW at *
        clear CA hr3 hb3 S2 hT2 L2
        go_wp2
        go_loopg [12] l.length (fun g i wr => ∃ (k : Nat) (s : StD), k + g = l.length ∧ i = .int .i64 (k : Int) ∧ Hid (KeepI s nb AW) ∧ Hid (Sf w wr sb mb fb s (F.newL TB)) ∧ Hid (RowK wr sb mb aw cw AW) ∧ Hid (OwnTx wr w0.heap.size (.slice ro nb cr) TB))
        case atStart => exact ⟨0, s0, by omega, rfl, hk0, S3, HWK3, HTX3⟩
        case round =>
          obtain ⟨k, s, hk, rfl, hI, hSf, HWK, hTX⟩ := hrel
          clear hk0 S3 HWK3 HTX3
          cases gk with
          | succ g =>
            have hkl : k < l.length := by omega
            have dk2 : decide ((k : Int) < (l.length : Int)) = true := decide_eq_true (by omega)
            have hwk : IntKind.i64.wrap ((k : Int) + 1) = (k : Int) + 1 := by have := hbC.out; rw [IntKind.wrap_i64]; omega
            obtain ⟨b, z, ai, mi, ci, ak, mk, ck, ad, md, cd, av, mv, cv, af, mf, cf, hix, hr, hg, ht, hid0⟩ := HS.out.get k hkl
            have hc := range16 (hr wr hSf.out.bel)
            have HG := hidS hg
            have HTN := hidS ht
            have HID := hidS hid0
            generalize l[k] = x at *
            obtain ⟨wh, id, p⟩ := x
            simp only at hc HG HTN HID
            clear hr hg ht hid0
            have HKO := hidS (fun ob => HangsK.old (sb := sb) (mb := mb) HG.out ((hSf.out.alloc ob).bel) hSf.out.lo.1 hSf.out.lo.2)
            by_cases h0 : wh = 0
            · as_aux_lemma =>
                subst h0
                have C5 := hidS (fun ob => add_sf (hSf.out.alloc ob) (HKO.out ob) HTN.out)
                clear HG HTN HKO
                go_wp2_with fail
                refine (C5.out _).mono ?_
                rintro e w5 ⟨rfl, S5, So5⟩
                have hK5 := hidS (keep_add hI.out p)
                have hS5 := hidS ((So.of_below ((Below.refl _ wr).alloc (Nat.le_refl _) _)).trans So5)
                have hW5 := hidS (HWK.out.so hS5.out)
                have hT5 := hidS (texts_stay hSf.out hTX.out hS5.out)
                replace S5 := hidS S5
                clear C5 hSf hI HWK hTX So5 hS5 hc
                go_wp2
                go_roundg g
                case rel => exact ⟨k + 1, _, by omega, by go_num, hK5, S5, hW5, hT5⟩
                case measure => omega
            by_cases h1 : wh = 1
            · as_aux_lemma =>
                subst h1
                have C5 := hidS (fun ob => add_sf (hSf.out.alloc ob) (HKO.out ob) HTN.out)
                clear HG HTN HKO
                go_wp2_with fail
                refine (C5.out _).mono ?_
                rintro e w5 ⟨rfl, S5, So5⟩
                have hK5 := hidS (keep_add hI.out p)
                have hS5 := hidS ((So.of_below ((Below.refl _ wr).alloc (Nat.le_refl _) _)).trans So5)
                have hW5 := hidS (HWK.out.so hS5.out)
                have hT5 := hidS (texts_stay hSf.out hTX.out hS5.out)
                replace S5 := hidS S5
                clear C5 hSf hI HWK hTX So5 hS5 hc
                go_wp2
                go_roundg g
                case rel => exact ⟨k + 1, _, by omega, by go_num, hK5, S5, hW5, hT5⟩
                case measure => omega
            by_cases h2 : wh = 2
            · as_aux_lemma =>
                subst h2
                have C5 := hidS (fun ob => set_sf (hSf.out.alloc ob) id HID.out (HKO.out ob) HTN.out)
                clear HG HTN HKO
                go_wp2_with fail
                refine (C5.out _).mono ?_
                rintro e w5 ⟨rfl, S5, So5⟩
                have hK5 := hidS (keep_set hI.out id p)
                have hS5 := hidS ((So.of_below ((Below.refl _ wr).alloc (Nat.le_refl _) _)).trans So5)
                have hW5 := hidS (HWK.out.so hS5.out)
                have hT5 := hidS (texts_stay hSf.out hTX.out hS5.out)
                replace S5 := hidS S5
                clear C5 hSf hI HWK hTX So5 hS5 hc
                go_wp2
                go_roundg g
                case rel => exact ⟨k + 1, _, by omega, by go_num, hK5, S5, hW5, hT5⟩
                case measure => omega
            by_cases h3 : wh = 3
            · as_aux_lemma =>
                subst h3
                have C5 := hidS (fun ob => touch_sf (hSf.out.alloc ob) (newL_small hsm.out) id HID.out)
                clear HG HTN HKO
                go_wp2_with fail
                refine (C5.out _).mono ?_
                rintro e w5 ⟨rfl, S5, So5⟩
                have hK5 := hidS (keep_touch hI.out (F.newL TB) id)
                have hS5 := hidS ((So.of_below ((Below.refl _ wr).alloc (Nat.le_refl _) _)).trans So5)
                have hW5 := hidS (HWK.out.so hS5.out)
                have hT5 := hidS (texts_stay hSf.out hTX.out hS5.out)
                replace S5 := hidS S5
                clear C5 hSf hI HWK hTX So5 hS5 hc
                go_wp2
                go_roundg g
                case rel => exact ⟨k + 1, _, by omega, by go_num, hK5, S5, hW5, hT5⟩
                case measure => omega
            by_cases h4 : wh = 4
            · as_aux_lemma =>
                subst h4
                have C5 := hidS (fun ob => drop_sf (hSf.out.alloc ob) id HID.out)
                clear HG HTN HKO
                go_wp2_with fail
                refine (C5.out _).mono ?_
                rintro e w5 ⟨rfl, S5, So5⟩
                have hK5 := hidS (keep_drop hI.out id)
                have hS5 := hidS ((So.of_below ((Below.refl _ wr).alloc (Nat.le_refl _) _)).trans So5)
                have hW5 := hidS (HWK.out.so hS5.out)
                have hT5 := hidS (texts_stay hSf.out hTX.out hS5.out)
                replace S5 := hidS S5
                clear C5 hSf hI HWK hTX So5 hS5 hc
                go_wp2
                go_roundg g
                case rel => exact ⟨k + 1, _, by omega, by go_num, hK5, S5, hW5, hT5⟩
                case measure => omega
            by_cases h5 : wh = 5
            · as_aux_lemma =>
                subst h5
                have C5 := hidS (fun ob => run_sf (hSf.out.alloc ob) id HID.out)
                clear HG HTN HKO
                go_wp2_with fail
                refine (C5.out _).mono ?_
                rintro e w5 ⟨rfl, S5, So5⟩
                have hK5 := hidS (keep_run hI.out id)
                have hS5 := hidS ((So.of_below ((Below.refl _ wr).alloc (Nat.le_refl _) _)).trans So5)
                have hW5 := hidS (HWK.out.so hS5.out)
                have hT5 := hidS (texts_stay hSf.out hTX.out hS5.out)
                replace S5 := hidS S5
                clear C5 hSf hI HWK hTX So5 hS5 hc
                go_wp2
                go_roundg g
                case rel => exact ⟨k + 1, _, by omega, by go_num, hK5, S5, hW5, hT5⟩
                case measure => omega
            have n0 : (wh == 0) = false := by simpa using h0
            have n1 : (wh == 1) = false := by simpa using h1
            have n2 : (wh == 2) = false := by simpa using h2
            have n3 : (wh == 3) = false := by simpa using h3
            have n4 : (wh == 4) = false := by simpa using h4
            have n5 : (wh == 5) = false := by simpa using h5
            clear h0 h1 h2 h3 h4 h5 HG HTN HKO
            have S5 := hidS (fun ob => hSf.out.alloc ob)
            have hW5 := hidS (fun ob => HWK.out.so (So.of_below ((Below.refl _ wr).alloc (Nat.le_refl _) ob)))
            have hT5 := hidS (fun ob => hTX.out.below ((Below.refl _ wr).alloc (Nat.le_refl _) ob))
            clear hSf HWK hTX
            go_wp2
            go_roundg g
            case rel => exact ⟨k + 1, s, by omega, by go_num, hI, hidS (S5.out _), hidS (hW5.out _), hidS (hT5.out _)⟩
            case measure => omega
          | zero =>
            have hke : k = l.length := by omega
            subst hke
            have dk2 : decide ((l.length : Int) < (l.length : Int)) = false := by simp
            clear HP HS HV HT
            go_wp2_with fail
            refine (dirty_sf hSf.out).mono ?_
            rintro e w4 ⟨da, dc, rfl, hr4, hb4⟩
            have S4 := hidS (hSf.out.below hb4)
            have HD4 := hidS hr4
            have HW4 := hidS (HWK.out.here.below hb4 (Nat.le_refl _))
            have HT4 := hidS (hTX.out.below hb4)
            clear hr4 hb4 hSf HWK hTX
            go_wp2_with fail
            refine (freed_sf S4.out).mono ?_
            rintro e w5 ⟨fa, fc, rfl, hr5, hb5⟩
            have S5 := hidS (S4.out.below hb5)
            have HD5 := hidS (HD4.out.below hb5 (Nat.le_refl _))
            have HF5 := hidS hr5
            have HW5 := hidS (HW4.out.below hb5 (Nat.le_refl _))
            have HT5 := hidS (HT4.out.below hb5)
            clear hr5 hb5 S4 HD4 HW4 HT4
            have HQ : Hid (∀ i, i < s.dirty.length → (s.dirty.getD i 0 < (nb : Int) → AW.contains (s.dirty.getD i 0) = true) ∧ s.freed.contains (s.dirty.getD i 0) = false ∧ s.avail.contains (s.dirty.getD i 0) = false) := hidS (fun i hi => by
              have hm := H.get_mem (l := s.dirty) hi
              refine ⟨fun hn => by simpa using hI.out.mem _ (.inl hm) hn, ?_, ?_⟩
              · simpa using S5.out.ok.noDF _ hm
              · simpa using S5.out.ok.noDA _ hm)
            have HL : Hid (s.dirty.length ≤ 120 ∧ s.freed.length ≤ 400 ∧ s.avail.length ≤ 400) := hidS ⟨S5.out.ok.few, S5.out.ok.lenF, S5.out.ok.lenA⟩
            clear hI
            go_wp2
            go_loopg [16] s.dirty.length (fun g i wr => ∃ k : Nat, k + g = s.dirty.length ∧ i = .int .i64 (k : Int) ∧ Hid (Below w5.heap.size w5 wr))
            case atStart => exact ⟨0, by omega, rfl, hidS (Below.refl _ _)⟩
            case round =>
              obtain ⟨k, hk, rfl, hbel⟩ := hrel
              cases gk with
              | succ g =>
                have hkl : k < s.dirty.length := by omega
                have dk3 : decide ((k : Int) < (s.dirty.length : Int)) = true := decide_eq_true (by omega)
                have hwk : IntKind.i64.wrap ((k : Int) + 1) = (k : Int) + 1 := by have := HL.out; rw [IntKind.wrap_i64]; omega
                obtain ⟨q1, q2, q3⟩ := HQ.out k hkl
                obtain ⟨xa, hix, hcx0, hxl⟩ := HD5.out.get k hkl
                have hcx := (hbel.out.cell (p := xa) hxl).trans hcx0
                clear hcx0
                generalize s.dirty.getD k 0 = x at *
                have CHG : Hid (∀ (q : List Int) (ao : Option Addr) (ca : Nat) (Y : World) (bq : Bool), RowAt Y ao ca q → q.length ≤ 1000 → q.contains x = bq → Calls Tryz.prog 19 #[.slice ao q.length ca, .int .i64 x] Y fun e w' => e = .returned (.bool bq) ∧ w' = Y) := hidS (fun q ao ca Y bq hY hq hb => hb ▸ H.rhas_any7 q x ao ca q.length rfl Y hY hq)
                have CAV := hidS (fun W (hW : Below w5.heap.size w5 W) => avail_sf (S5.out.below hW))
                have HXL : Hid (xa.block < w5.heap.size) := hidS hxl
                have HCX : Hid (wr.drew.cell? xa = some (.int .i64 x)) := hidS hcx
                have hbZ := hidS (H.below_drew hbel.out)
                replace q2 := hidS q2
                replace q3 := hidS q3
                clear hkl hxl hcx
                by_cases hxn : x < (nb : Int)
                · as_aux_lemma =>
                    have dx : decide (x < (nb : Int)) = true := decide_eq_true hxn
                    have q1' := hidS (q1 hxn)
                    clear q1 hxn
                    go_upto_region 35 with fail
                    refine wp_region_held_drew (S := fun w' => w'.cell? xa = some (.int .i64 x)) (by kernel_rfl) HCX.out (fun hHeld => ?_)
                    refine wpAnyH_take (i := 0) (v := ?_) rfl (by kernel_rfl) (by kernel_rfl) (by kernel_rfl) (fun _ _ _ h => h) (Or.inl ⟨by rfl, ?_⟩) (by assumption) ?_
                    rotate_left
                    · intro w' hSw; go_simp; try with_reducible rfl
                    simp only [Act.put, List.getElem_toArray, List.getElem_cons_zero, List.setIfInBounds_toArray, List.set_cons_zero, List.set_cons_succ]
                    refine wpAnyH_take (i := 1) (v := ?_) rfl (by kernel_rfl) (by kernel_rfl) (by kernel_rfl) (fun _ _ _ h => h) (Or.inl ⟨by rfl, ?_⟩) (by assumption) ?_
                    rotate_left
                    · intro w' hSw; go_simp; try with_reducible rfl
                    simp only [Act.put, List.getElem_toArray, List.getElem_cons_zero, List.getElem_cons_succ, List.setIfInBounds_toArray, List.set_cons_zero, List.set_cons_succ]
                    refine wpAnyH_take (i := 2) (v := ?_) rfl (by kernel_rfl) (by kernel_rfl) (by kernel_rfl) (fun _ _ _ h => h) (Or.inl ⟨by rfl, ?_⟩) (by assumption) ?_
                    rotate_left
                    · intro w' hSw; go_simp; try with_reducible rfl
                    simp only [Act.put, List.getElem_toArray, List.getElem_cons_zero, List.getElem_cons_succ, List.setIfInBounds_toArray, List.set_cons_zero, List.set_cons_succ]
                    refine wpAnyH_take (i := 3) (v := ?_) rfl (by kernel_rfl) (by kernel_rfl) (by kernel_rfl) (fun _ _ _ h => h) (Or.inl ⟨by rfl, ?_⟩) (by assumption) ?_
                    rotate_left
                    · intro w' hSw; go_simp; try with_reducible rfl
                    simp only [Act.put, List.getElem_toArray, List.getElem_cons_zero, List.getElem_cons_succ, List.setIfInBounds_toArray, List.set_cons_zero, List.set_cons_succ]
                    refine wpAnyH_take (i := 4) (v := ?_) rfl (by kernel_rfl) (by kernel_rfl) (by kernel_rfl) (fun _ _ _ h => h) (Or.inl ⟨by rfl, ?_⟩) (by assumption) ?_
                    rotate_left
                    · intro w' hSw; go_simp; try with_reducible rfl
                    simp only [Act.put, List.getElem_toArray, List.getElem_cons_zero, List.getElem_cons_succ, List.setIfInBounds_toArray, List.set_cons_zero, List.set_cons_succ]
                    refine wpAnyH_take (i := 5) (v := ?_) rfl (by kernel_rfl) (by kernel_rfl) (by kernel_rfl) (fun _ _ _ h => h) (Or.inl ⟨by rfl, ?_⟩) (by assumption) ?_
                    rotate_left
                    · intro w' hSw; go_simp; try with_reducible rfl
                    simp only [Act.put, List.getElem_toArray, List.getElem_cons_zero, List.getElem_cons_succ, List.setIfInBounds_toArray, List.set_cons_zero, List.set_cons_succ]
                    refine wpAnyH_take (i := 6) (v := ?_) rfl (by kernel_rfl) (by kernel_rfl) (by kernel_rfl) (fun _ _ _ h => h) (Or.inl ⟨by rfl, ?_⟩) (by assumption) ?_
                    rotate_left
                    · intro w' hSw; go_simp; try with_reducible rfl
                    simp only [Act.put, List.getElem_toArray, List.getElem_cons_zero, List.getElem_cons_succ, List.setIfInBounds_toArray, List.set_cons_zero, List.set_cons_succ]
                    refine wpAnyH_take (i := 7) (v := ?_) rfl (by kernel_rfl) (by kernel_rfl) (by kernel_rfl) (fun _ _ _ h => h) (Or.inl ⟨by rfl, ?_⟩) (by assumption) ?_
                    rotate_left
                    · intro w' hSw; go_simp; try with_reducible rfl
                    simp only [Act.put, List.getElem_toArray, List.getElem_cons_zero, List.getElem_cons_succ, List.setIfInBounds_toArray, List.set_cons_zero, List.set_cons_succ]
                    refine wpAnyH_take (i := 8) (v := ?_) rfl (by kernel_rfl) (by kernel_rfl) (by kernel_rfl) (fun _ _ _ h => h) (Or.inl ⟨by rfl, ?_⟩) (by assumption) ?_
                    rotate_left
                    · intro w' hSw; go_simp; try with_reducible rfl
                    simp only [Act.put, List.getElem_toArray, List.getElem_cons_zero, List.getElem_cons_succ, List.setIfInBounds_toArray, List.set_cons_zero, List.set_cons_succ]
                    refine wpAnyH_take (i := 9) (v := ?_) rfl (by kernel_rfl) (by kernel_rfl) (by kernel_rfl) (fun _ _ _ h => h) (Or.inl ⟨by rfl, ?_⟩) (by assumption) ?_
                    rotate_left
                    · intro w' hSw; go_simp; try with_reducible rfl
                    simp only [Act.put, List.getElem_toArray, List.getElem_cons_zero, List.getElem_cons_succ, List.setIfInBounds_toArray, List.set_cons_zero, List.set_cons_succ]
                    refine wpAnyH_take (i := 10) (v := ?_) rfl (by kernel_rfl) (by kernel_rfl) (by kernel_rfl) (fun _ _ _ h => h) (Or.inl ⟨by rfl, ?_⟩) (by assumption) ?_
                    rotate_left
                    · intro w' hSw; go_simp; try with_reducible rfl
                    simp only [Act.put, List.getElem_toArray, List.getElem_cons_zero, List.getElem_cons_succ, List.setIfInBounds_toArray, List.set_cons_zero, List.set_cons_succ]
                    refine wpAnyH_take (i := 11) (v := ?_) rfl (by kernel_rfl) (by kernel_rfl) (by kernel_rfl) (fun _ _ _ h => h) (Or.inl ⟨by rfl, ?_⟩) (by assumption) ?_
                    rotate_left
                    · intro w' hSw; go_simp; try with_reducible rfl
                    simp only [Act.put, List.getElem_toArray, List.getElem_cons_zero, List.getElem_cons_succ, List.setIfInBounds_toArray, List.set_cons_zero, List.set_cons_succ]
                    refine wpAnyH_take (i := 12) (v := ?_) rfl (by kernel_rfl) (by kernel_rfl) (by kernel_rfl) (fun _ _ _ h => h) (Or.inl ⟨by rfl, ?_⟩) (by assumption) ?_
                    rotate_left
                    · intro w' hSw; go_simp; try with_reducible rfl
                    simp only [Act.put, List.getElem_toArray, List.getElem_cons_zero, List.getElem_cons_succ, List.setIfInBounds_toArray, List.set_cons_zero, List.set_cons_succ]
                    refine wpAnyH_ready (rs := [13]) (by kernel_rfl) (by simp) ?_
                    refine AllReadyH.cons rfl (fun K hK => ?_) AllReadyH.nil
                    go_simp
                    go_wp2_with (go_at_call 19; refine Calls.mono (CHG.out _ _ _ _ _ (HW5.out.below hbZ.out (Nat.le_refl _)) (by have := HL.out; have := HAW.out; omega) q1'.out) ?_; rintro e Z ⟨rfl, rfl⟩)
                    refine hK.out _ _ HCX.out (fun hHeld => ?_)
                    clear hK
                    refine wpAnyH_take (i := 14) (v := ?_) rfl (by kernel_rfl) (by kernel_rfl) (by kernel_rfl) (fun _ _ _ h => h) (Or.inl ⟨by rfl, ?_⟩) (by assumption) ?_
                    rotate_left
                    · intro w' hSw; go_simp; try with_reducible rfl
                    simp only [Act.put, List.getElem_toArray, List.getElem_cons_zero, List.getElem_cons_succ, List.setIfInBounds_toArray, List.set_cons_zero, List.set_cons_succ]
                    refine wpAnyH_take (i := 15) (v := ?_) rfl (by kernel_rfl) (by kernel_rfl) (by kernel_rfl) (fun _ _ _ h => h) (Or.inl ⟨by rfl, ?_⟩) (by assumption) ?_
                    rotate_left
                    · intro w' hSw; go_simp; try with_reducible rfl
                    simp only [Act.put, List.getElem_toArray, List.getElem_cons_zero, List.getElem_cons_succ, List.setIfInBounds_toArray, List.set_cons_zero, List.set_cons_succ]
                    refine wpAnyH_take (i := 16) (v := ?_) rfl (by kernel_rfl) (by kernel_rfl) (by kernel_rfl) (fun _ _ _ h => h) (Or.inl ⟨by rfl, ?_⟩) (by assumption) ?_
                    rotate_left
                    · intro w' hSw; go_simp; try with_reducible rfl
                    simp only [Act.put, List.getElem_toArray, List.getElem_cons_zero, List.getElem_cons_succ, List.setIfInBounds_toArray, List.set_cons_zero, List.set_cons_succ]
                    refine wpAnyH_take (i := 17) (v := ?_) rfl (by kernel_rfl) (by kernel_rfl) (by kernel_rfl) (fun _ _ _ h => h) (Or.inl ⟨by rfl, ?_⟩) (by assumption) ?_
                    rotate_left
                    · intro w' hSw; go_simp; try with_reducible rfl
                    simp only [Act.put, List.getElem_toArray, List.getElem_cons_zero, List.getElem_cons_succ, List.setIfInBounds_toArray, List.set_cons_zero, List.set_cons_succ]
                    refine wpAnyH_take (i := 18) (v := ?_) rfl (by kernel_rfl) (by kernel_rfl) (by kernel_rfl) (fun _ _ _ h => h) (Or.inl ⟨by rfl, ?_⟩) (by assumption) ?_
                    rotate_left
                    · intro w' hSw; go_simp; try with_reducible rfl
                    simp only [Act.put, List.getElem_toArray, List.getElem_cons_zero, List.getElem_cons_succ, List.setIfInBounds_toArray, List.set_cons_zero, List.set_cons_succ]
                    refine wpAnyH_take (i := 19) (v := ?_) rfl (by kernel_rfl) (by kernel_rfl) (by kernel_rfl) (fun _ _ _ h => h) (Or.inl ⟨by rfl, ?_⟩) (by assumption) ?_
                    rotate_left
                    · intro w' hSw; go_simp; try with_reducible rfl
                    simp only [Act.put, List.getElem_toArray, List.getElem_cons_zero, List.getElem_cons_succ, List.setIfInBounds_toArray, List.set_cons_zero, List.set_cons_succ]
                    refine wpAnyH_take (i := 20) (v := ?_) rfl (by kernel_rfl) (by kernel_rfl) (by kernel_rfl) (fun _ _ _ h => h) (Or.inl ⟨by rfl, ?_⟩) (by assumption) ?_
                    rotate_left
                    · intro w' hSw; go_simp; try with_reducible rfl
                    simp only [Act.put, List.getElem_toArray, List.getElem_cons_zero, List.getElem_cons_succ, List.setIfInBounds_toArray, List.set_cons_zero, List.set_cons_succ]
                    refine wpAnyH_take (i := 21) (v := ?_) rfl (by kernel_rfl) (by kernel_rfl) (by kernel_rfl) (fun _ _ _ h => h) (Or.inl ⟨by rfl, ?_⟩) (by assumption) ?_
                    rotate_left
                    · intro w' hSw; go_simp; try with_reducible rfl
                    simp only [Act.put, List.getElem_toArray, List.getElem_cons_zero, List.getElem_cons_succ, List.setIfInBounds_toArray, List.set_cons_zero, List.set_cons_succ]
                    refine wpAnyH_ready (rs := [22]) (by kernel_rfl) (by simp) ?_
                    refine AllReadyH.cons rfl (fun K hK => ?_) AllReadyH.nil
                    go_simp
                    go_wp2_with (go_at_call 19; refine Calls.mono (CHG.out _ _ _ _ _ (HF5.out.below hbZ.out (Nat.le_refl _)) (by have := HL.out; have := HAW.out; omega) q2.out) ?_; rintro e Z ⟨rfl, rfl⟩)
                    refine hK.out _ _ HCX.out (fun hHeld => ?_)
                    clear hK
                    refine wpAnyH_take (i := 23) (v := ?_) rfl (by kernel_rfl) (by kernel_rfl) (by kernel_rfl) (fun _ _ _ h => h) (Or.inl ⟨by rfl, ?_⟩) (by assumption) ?_
                    rotate_left
                    · intro w' hSw; go_simp; try with_reducible rfl
                    simp only [Act.put, List.getElem_toArray, List.getElem_cons_zero, List.getElem_cons_succ, List.setIfInBounds_toArray, List.set_cons_zero, List.set_cons_succ]
                    refine wpAnyH_take (i := 24) (v := ?_) rfl (by kernel_rfl) (by kernel_rfl) (by kernel_rfl) (fun _ _ _ h => h) (Or.inl ⟨by rfl, ?_⟩) (by assumption) ?_
                    rotate_left
                    · intro w' hSw; go_simp; try with_reducible rfl
                    simp only [Act.put, List.getElem_toArray, List.getElem_cons_zero, List.getElem_cons_succ, List.setIfInBounds_toArray, List.set_cons_zero, List.set_cons_succ]
                    refine wpAnyH_take (i := 25) (v := ?_) rfl (by kernel_rfl) (by kernel_rfl) (by kernel_rfl) (fun _ _ _ h => h) (Or.inl ⟨by rfl, ?_⟩) (by assumption) ?_
                    rotate_left
                    · intro w' hSw; go_simp; try with_reducible rfl
                    simp only [Act.put, List.getElem_toArray, List.getElem_cons_zero, List.getElem_cons_succ, List.setIfInBounds_toArray, List.set_cons_zero, List.set_cons_succ]
                    refine wpAnyH_take (i := 27) (v := ?_) rfl (by kernel_rfl) (by kernel_rfl) (by kernel_rfl) (fun _ _ _ h => h) (Or.inl ⟨by rfl, ?_⟩) (by assumption) ?_
                    rotate_left
                    · intro w' hSw; go_simp; try with_reducible rfl
                    simp only [Act.put, List.getElem_toArray, List.getElem_cons_zero, List.getElem_cons_succ, List.setIfInBounds_toArray, List.set_cons_zero, List.set_cons_succ]
                    refine wpAnyH_take (i := 28) (v := ?_) rfl (by kernel_rfl) (by kernel_rfl) (by kernel_rfl) (fun _ _ _ h => h) (Or.inl ⟨by rfl, ?_⟩) (by assumption) ?_
                    rotate_left
                    · intro w' hSw; go_simp; try with_reducible rfl
                    simp only [Act.put, List.getElem_toArray, List.getElem_cons_zero, List.getElem_cons_succ, List.setIfInBounds_toArray, List.set_cons_zero, List.set_cons_succ]
                    refine wpAnyH_take (i := 29) (v := ?_) rfl (by kernel_rfl) (by kernel_rfl) (by kernel_rfl) (fun _ _ _ h => h) (Or.inl ⟨by rfl, ?_⟩) (by assumption) ?_
                    rotate_left
                    · intro w' hSw; go_simp; try with_reducible rfl
                    simp only [Act.put, List.getElem_toArray, List.getElem_cons_zero, List.getElem_cons_succ, List.setIfInBounds_toArray, List.set_cons_zero, List.set_cons_succ]
                    refine wpAnyH_take (i := 30) (v := ?_) rfl (by kernel_rfl) (by kernel_rfl) (by kernel_rfl) (fun _ _ _ h => h) (Or.inl ⟨by rfl, ?_⟩) (by assumption) ?_
                    rotate_left
                    · intro w' hSw; go_simp; try with_reducible rfl
                    simp only [Act.put, List.getElem_toArray, List.getElem_cons_zero, List.getElem_cons_succ, List.setIfInBounds_toArray, List.set_cons_zero, List.set_cons_succ]
                    refine wpAnyH_ready (rs := [26]) (by kernel_rfl) (by simp) ?_
                    refine AllReadyH.cons rfl (fun K hK => ?_) AllReadyH.nil
                    go_simp
                    go_wp2_with (go_at_call 11; refine (CAV.out _ hbZ.out).mono ?_; rintro e Y ⟨ya, yc, rfl, hrY, hbY⟩; have hrY := hidS hrY; have HCX := hidS (show Y.cell? xa = some (.int .i64 x) from (hbY.cell (p := xa) (Nat.lt_of_lt_of_le HXL.out hbZ.out.size)).trans HCX.out); have hbZ := hidS (hbZ.out.trans (hbY.mono hbZ.out.size)); clear hbY)
                    refine hK.out _ _ HCX.out (fun hHeld => ?_)
                    clear hK
                    refine wpAnyH_ready (rs := [31]) (by kernel_rfl) (by simp) ?_
                    refine AllReadyH.cons rfl (fun K hK => ?_) AllReadyH.nil
                    go_simp
                    go_wp2_with (go_at_call 19; refine Calls.mono (CHG.out _ _ _ _ _ hrY.out (by have := HL.out; have := HAW.out; omega) q3.out) ?_; rintro e Z ⟨rfl, rfl⟩)
                    refine hK.out _ _ HCX.out (fun hHeld => ?_)
                    clear hK
                    refine wpAnyH_take (i := 32) (v := ?_) rfl (by kernel_rfl) (by kernel_rfl) (by kernel_rfl) (fun _ _ _ h => h) (Or.inl ⟨by rfl, ?_⟩) (by assumption) ?_
                    rotate_left
                    · intro w' hSw; go_simp; try with_reducible rfl
                    simp only [Act.put, List.getElem_toArray, List.getElem_cons_zero, List.getElem_cons_succ, List.setIfInBounds_toArray, List.set_cons_zero, List.set_cons_succ]
                    refine wpAnyH_done (by kernel_rfl) ?_ _
                    go_wp2
                    go_roundg g
                    case rel => exact ⟨k + 1, by omega, by go_num, hbZ⟩
                    case measure => omega
                · as_aux_lemma =>
                    have dx : decide (x < (nb : Int)) = false := decide_eq_false hxn
                    clear q1 hxn
                    go_upto_region 35 with fail
                    refine wp_region_held_drew (S := fun w' => w'.cell? xa = some (.int .i64 x)) (by kernel_rfl) HCX.out (fun hHeld => ?_)
                    refine wpAnyH_take (i := 0) (v := ?_) rfl (by kernel_rfl) (by kernel_rfl) (by kernel_rfl) (fun _ _ _ h => h) (Or.inl ⟨by rfl, ?_⟩) (by assumption) ?_
                    rotate_left
                    · intro w' hSw; go_simp; try with_reducible rfl
                    simp only [Act.put, List.getElem_toArray, List.getElem_cons_zero, List.setIfInBounds_toArray, List.set_cons_zero, List.set_cons_succ]
                    refine wpAnyH_take (i := 1) (v := ?_) rfl (by kernel_rfl) (by kernel_rfl) (by kernel_rfl) (fun _ _ _ h => h) (Or.inl ⟨by rfl, ?_⟩) (by assumption) ?_
                    rotate_left
                    · intro w' hSw; go_simp; try with_reducible rfl
                    simp only [Act.put, List.getElem_toArray, List.getElem_cons_zero, List.getElem_cons_succ, List.setIfInBounds_toArray, List.set_cons_zero, List.set_cons_succ]
                    refine wpAnyH_take (i := 2) (v := ?_) rfl (by kernel_rfl) (by kernel_rfl) (by kernel_rfl) (fun _ _ _ h => h) (Or.inl ⟨by rfl, ?_⟩) (by assumption) ?_
                    rotate_left
                    · intro w' hSw; go_simp; try with_reducible rfl
                    simp only [Act.put, List.getElem_toArray, List.getElem_cons_zero, List.getElem_cons_succ, List.setIfInBounds_toArray, List.set_cons_zero, List.set_cons_succ]
                    refine wpAnyH_take (i := 3) (v := ?_) rfl (by kernel_rfl) (by kernel_rfl) (by kernel_rfl) (fun _ _ _ h => h) (Or.inl ⟨by rfl, ?_⟩) (by assumption) ?_
                    rotate_left
                    · intro w' hSw; go_simp; try with_reducible rfl
                    simp only [Act.put, List.getElem_toArray, List.getElem_cons_zero, List.getElem_cons_succ, List.setIfInBounds_toArray, List.set_cons_zero, List.set_cons_succ]
                    refine wpAnyH_take (i := 4) (v := ?_) rfl (by kernel_rfl) (by kernel_rfl) (by kernel_rfl) (fun _ _ _ h => h) (Or.inl ⟨by rfl, ?_⟩) (by assumption) ?_
                    rotate_left
                    · intro w' hSw; go_simp; try with_reducible rfl
                    simp only [Act.put, List.getElem_toArray, List.getElem_cons_zero, List.getElem_cons_succ, List.setIfInBounds_toArray, List.set_cons_zero, List.set_cons_succ]
                    refine wpAnyH_take (i := 5) (v := ?_) rfl (by kernel_rfl) (by kernel_rfl) (by kernel_rfl) (fun _ _ _ h => h) (Or.inl ⟨by rfl, ?_⟩) (by assumption) ?_
                    rotate_left
                    · intro w' hSw; go_simp; try with_reducible rfl
                    simp only [Act.put, List.getElem_toArray, List.getElem_cons_zero, List.getElem_cons_succ, List.setIfInBounds_toArray, List.set_cons_zero, List.set_cons_succ]
                    refine wpAnyH_take (i := 6) (v := ?_) rfl (by kernel_rfl) (by kernel_rfl) (by kernel_rfl) (fun _ _ _ h => h) (Or.inl ⟨by rfl, ?_⟩) (by assumption) ?_
                    rotate_left
                    · intro w' hSw; go_simp; try with_reducible rfl
                    simp only [Act.put, List.getElem_toArray, List.getElem_cons_zero, List.getElem_cons_succ, List.setIfInBounds_toArray, List.set_cons_zero, List.set_cons_succ]
                    refine wpAnyH_take (i := 7) (v := ?_) rfl (by kernel_rfl) (by kernel_rfl) (by kernel_rfl) (fun _ _ _ h => h) (Or.inl ⟨by rfl, ?_⟩) (by assumption) ?_
                    rotate_left
                    · intro w' hSw; go_simp; try with_reducible rfl
                    simp only [Act.put, List.getElem_toArray, List.getElem_cons_zero, List.getElem_cons_succ, List.setIfInBounds_toArray, List.set_cons_zero, List.set_cons_succ]
                    refine wpAnyH_take (i := 8) (v := undef) rfl (by kernel_rfl) (by kernel_rfl) (by kernel_rfl) (fun _ _ _ h => h) (Or.inr ⟨by rfl, rfl⟩) (by assumption) ?_
                    simp only [Act.put, List.getElem_toArray, List.getElem_cons_zero, List.getElem_cons_succ, List.setIfInBounds_toArray, List.set_cons_zero, List.set_cons_succ]
                    refine wpAnyH_take (i := 9) (v := undef) rfl (by kernel_rfl) (by kernel_rfl) (by kernel_rfl) (fun _ _ _ h => h) (Or.inr ⟨by rfl, rfl⟩) (by assumption) ?_
                    simp only [Act.put, List.getElem_toArray, List.getElem_cons_zero, List.getElem_cons_succ, List.setIfInBounds_toArray, List.set_cons_zero, List.set_cons_succ]
                    refine wpAnyH_take (i := 10) (v := undef) rfl (by kernel_rfl) (by kernel_rfl) (by kernel_rfl) (fun _ _ _ h => h) (Or.inr ⟨by rfl, rfl⟩) (by assumption) ?_
                    simp only [Act.put, List.getElem_toArray, List.getElem_cons_zero, List.getElem_cons_succ, List.setIfInBounds_toArray, List.set_cons_zero, List.set_cons_succ]
                    refine wpAnyH_take (i := 11) (v := undef) rfl (by kernel_rfl) (by kernel_rfl) (by kernel_rfl) (fun _ _ _ h => h) (Or.inr ⟨by rfl, rfl⟩) (by assumption) ?_
                    simp only [Act.put, List.getElem_toArray, List.getElem_cons_zero, List.getElem_cons_succ, List.setIfInBounds_toArray, List.set_cons_zero, List.set_cons_succ]
                    refine wpAnyH_take (i := 12) (v := undef) rfl (by kernel_rfl) (by kernel_rfl) (by kernel_rfl) (fun _ _ _ h => h) (Or.inr ⟨by rfl, rfl⟩) (by assumption) ?_
                    simp only [Act.put, List.getElem_toArray, List.getElem_cons_zero, List.getElem_cons_succ, List.setIfInBounds_toArray, List.set_cons_zero, List.set_cons_succ]
                    refine wpAnyH_take (i := 13) (v := undef) rfl (by kernel_rfl) (by kernel_rfl) (by kernel_rfl) (fun _ _ _ h => h) (Or.inr ⟨by rfl, rfl⟩) (by assumption) ?_
                    simp only [Act.put, List.getElem_toArray, List.getElem_cons_zero, List.getElem_cons_succ, List.setIfInBounds_toArray, List.set_cons_zero, List.set_cons_succ]
                    refine wpAnyH_take (i := 14) (v := undef) rfl (by kernel_rfl) (by kernel_rfl) (by kernel_rfl) (fun _ _ _ h => h) (Or.inr ⟨by rfl, rfl⟩) (by assumption) ?_
                    simp only [Act.put, List.getElem_toArray, List.getElem_cons_zero, List.getElem_cons_succ, List.setIfInBounds_toArray, List.set_cons_zero, List.set_cons_succ]
                    refine wpAnyH_take (i := 15) (v := ?_) rfl (by kernel_rfl) (by kernel_rfl) (by kernel_rfl) (fun _ _ _ h => h) (Or.inl ⟨by rfl, ?_⟩) (by assumption) ?_
                    rotate_left
                    · intro w' hSw; go_simp; try with_reducible rfl
                    simp only [Act.put, List.getElem_toArray, List.getElem_cons_zero, List.getElem_cons_succ, List.setIfInBounds_toArray, List.set_cons_zero, List.set_cons_succ]
                    refine wpAnyH_take (i := 16) (v := ?_) rfl (by kernel_rfl) (by kernel_rfl) (by kernel_rfl) (fun _ _ _ h => h) (Or.inl ⟨by rfl, ?_⟩) (by assumption) ?_
                    rotate_left
                    · intro w' hSw; go_simp; try with_reducible rfl
                    simp only [Act.put, List.getElem_toArray, List.getElem_cons_zero, List.getElem_cons_succ, List.setIfInBounds_toArray, List.set_cons_zero, List.set_cons_succ]
                    refine wpAnyH_take (i := 17) (v := ?_) rfl (by kernel_rfl) (by kernel_rfl) (by kernel_rfl) (fun _ _ _ h => h) (Or.inl ⟨by rfl, ?_⟩) (by assumption) ?_
                    rotate_left
                    · intro w' hSw; go_simp; try with_reducible rfl
                    simp only [Act.put, List.getElem_toArray, List.getElem_cons_zero, List.getElem_cons_succ, List.setIfInBounds_toArray, List.set_cons_zero, List.set_cons_succ]
                    refine wpAnyH_take (i := 18) (v := ?_) rfl (by kernel_rfl) (by kernel_rfl) (by kernel_rfl) (fun _ _ _ h => h) (Or.inl ⟨by rfl, ?_⟩) (by assumption) ?_
                    rotate_left
                    · intro w' hSw; go_simp; try with_reducible rfl
                    simp only [Act.put, List.getElem_toArray, List.getElem_cons_zero, List.getElem_cons_succ, List.setIfInBounds_toArray, List.set_cons_zero, List.set_cons_succ]
                    refine wpAnyH_take (i := 19) (v := ?_) rfl (by kernel_rfl) (by kernel_rfl) (by kernel_rfl) (fun _ _ _ h => h) (Or.inl ⟨by rfl, ?_⟩) (by assumption) ?_
                    rotate_left
                    · intro w' hSw; go_simp; try with_reducible rfl
                    simp only [Act.put, List.getElem_toArray, List.getElem_cons_zero, List.getElem_cons_succ, List.setIfInBounds_toArray, List.set_cons_zero, List.set_cons_succ]
                    refine wpAnyH_take (i := 20) (v := ?_) rfl (by kernel_rfl) (by kernel_rfl) (by kernel_rfl) (fun _ _ _ h => h) (Or.inl ⟨by rfl, ?_⟩) (by assumption) ?_
                    rotate_left
                    · intro w' hSw; go_simp; try with_reducible rfl
                    simp only [Act.put, List.getElem_toArray, List.getElem_cons_zero, List.getElem_cons_succ, List.setIfInBounds_toArray, List.set_cons_zero, List.set_cons_succ]
                    refine wpAnyH_take (i := 21) (v := ?_) rfl (by kernel_rfl) (by kernel_rfl) (by kernel_rfl) (fun _ _ _ h => h) (Or.inl ⟨by rfl, ?_⟩) (by assumption) ?_
                    rotate_left
                    · intro w' hSw; go_simp; try with_reducible rfl
                    simp only [Act.put, List.getElem_toArray, List.getElem_cons_zero, List.getElem_cons_succ, List.setIfInBounds_toArray, List.set_cons_zero, List.set_cons_succ]
                    refine wpAnyH_ready (rs := [22]) (by kernel_rfl) (by simp) ?_
                    refine AllReadyH.cons rfl (fun K hK => ?_) AllReadyH.nil
                    go_simp
                    go_wp2_with (go_at_call 19; refine Calls.mono (CHG.out _ _ _ _ _ (HF5.out.below hbZ.out (Nat.le_refl _)) (by have := HL.out; have := HAW.out; omega) q2.out) ?_; rintro e Z ⟨rfl, rfl⟩)
                    refine hK.out _ _ HCX.out (fun hHeld => ?_)
                    clear hK
                    refine wpAnyH_take (i := 23) (v := ?_) rfl (by kernel_rfl) (by kernel_rfl) (by kernel_rfl) (fun _ _ _ h => h) (Or.inl ⟨by rfl, ?_⟩) (by assumption) ?_
                    rotate_left
                    · intro w' hSw; go_simp; try with_reducible rfl
                    simp only [Act.put, List.getElem_toArray, List.getElem_cons_zero, List.getElem_cons_succ, List.setIfInBounds_toArray, List.set_cons_zero, List.set_cons_succ]
                    refine wpAnyH_take (i := 24) (v := ?_) rfl (by kernel_rfl) (by kernel_rfl) (by kernel_rfl) (fun _ _ _ h => h) (Or.inl ⟨by rfl, ?_⟩) (by assumption) ?_
                    rotate_left
                    · intro w' hSw; go_simp; try with_reducible rfl
                    simp only [Act.put, List.getElem_toArray, List.getElem_cons_zero, List.getElem_cons_succ, List.setIfInBounds_toArray, List.set_cons_zero, List.set_cons_succ]
                    refine wpAnyH_take (i := 25) (v := ?_) rfl (by kernel_rfl) (by kernel_rfl) (by kernel_rfl) (fun _ _ _ h => h) (Or.inl ⟨by rfl, ?_⟩) (by assumption) ?_
                    rotate_left
                    · intro w' hSw; go_simp; try with_reducible rfl
                    simp only [Act.put, List.getElem_toArray, List.getElem_cons_zero, List.getElem_cons_succ, List.setIfInBounds_toArray, List.set_cons_zero, List.set_cons_succ]
                    refine wpAnyH_take (i := 27) (v := ?_) rfl (by kernel_rfl) (by kernel_rfl) (by kernel_rfl) (fun _ _ _ h => h) (Or.inl ⟨by rfl, ?_⟩) (by assumption) ?_
                    rotate_left
                    · intro w' hSw; go_simp; try with_reducible rfl
                    simp only [Act.put, List.getElem_toArray, List.getElem_cons_zero, List.getElem_cons_succ, List.setIfInBounds_toArray, List.set_cons_zero, List.set_cons_succ]
                    refine wpAnyH_take (i := 28) (v := ?_) rfl (by kernel_rfl) (by kernel_rfl) (by kernel_rfl) (fun _ _ _ h => h) (Or.inl ⟨by rfl, ?_⟩) (by assumption) ?_
                    rotate_left
                    · intro w' hSw; go_simp; try with_reducible rfl
                    simp only [Act.put, List.getElem_toArray, List.getElem_cons_zero, List.getElem_cons_succ, List.setIfInBounds_toArray, List.set_cons_zero, List.set_cons_succ]
                    refine wpAnyH_take (i := 29) (v := ?_) rfl (by kernel_rfl) (by kernel_rfl) (by kernel_rfl) (fun _ _ _ h => h) (Or.inl ⟨by rfl, ?_⟩) (by assumption) ?_
                    rotate_left
                    · intro w' hSw; go_simp; try with_reducible rfl
                    simp only [Act.put, List.getElem_toArray, List.getElem_cons_zero, List.getElem_cons_succ, List.setIfInBounds_toArray, List.set_cons_zero, List.set_cons_succ]
                    refine wpAnyH_take (i := 30) (v := ?_) rfl (by kernel_rfl) (by kernel_rfl) (by kernel_rfl) (fun _ _ _ h => h) (Or.inl ⟨by rfl, ?_⟩) (by assumption) ?_
                    rotate_left
                    · intro w' hSw; go_simp; try with_reducible rfl
                    simp only [Act.put, List.getElem_toArray, List.getElem_cons_zero, List.getElem_cons_succ, List.setIfInBounds_toArray, List.set_cons_zero, List.set_cons_succ]
                    refine wpAnyH_ready (rs := [26]) (by kernel_rfl) (by simp) ?_
                    refine AllReadyH.cons rfl (fun K hK => ?_) AllReadyH.nil
                    go_simp
                    go_wp2_with (go_at_call 11; refine (CAV.out _ hbZ.out).mono ?_; rintro e Y ⟨ya, yc, rfl, hrY, hbY⟩; have hrY := hidS hrY; have HCX := hidS (show Y.cell? xa = some (.int .i64 x) from (hbY.cell (p := xa) (Nat.lt_of_lt_of_le HXL.out hbZ.out.size)).trans HCX.out); have hbZ := hidS (hbZ.out.trans (hbY.mono hbZ.out.size)); clear hbY)
                    refine hK.out _ _ HCX.out (fun hHeld => ?_)
                    clear hK
                    refine wpAnyH_ready (rs := [31]) (by kernel_rfl) (by simp) ?_
                    refine AllReadyH.cons rfl (fun K hK => ?_) AllReadyH.nil
                    go_simp
                    go_wp2_with (go_at_call 19; refine Calls.mono (CHG.out _ _ _ _ _ hrY.out (by have := HL.out; have := HAW.out; omega) q3.out) ?_; rintro e Z ⟨rfl, rfl⟩)
                    refine hK.out _ _ HCX.out (fun hHeld => ?_)
                    clear hK
                    refine wpAnyH_take (i := 32) (v := ?_) rfl (by kernel_rfl) (by kernel_rfl) (by kernel_rfl) (fun _ _ _ h => h) (Or.inl ⟨by rfl, ?_⟩) (by assumption) ?_
                    rotate_left
                    · intro w' hSw; go_simp; try with_reducible rfl
                    simp only [Act.put, List.getElem_toArray, List.getElem_cons_zero, List.getElem_cons_succ, List.setIfInBounds_toArray, List.set_cons_zero, List.set_cons_succ]
                    refine wpAnyH_done (by kernel_rfl) ?_ _
                    go_wp2
                    go_roundg g
                    case rel => exact ⟨k + 1, by omega, by go_num, hbZ⟩
                    case measure => omega
              | zero =>
                have hke : k = s.dirty.length := by omega
                subst hke
                have dk3 : decide ((s.dirty.length : Int) < (s.dirty.length : Int)) = false := by simp
                obtain ⟨fv, hfa⟩ := S5.out.file
                have HFA := hidS hfa
                have SB := hidS S5.out.bel
                clear HQ HL HD5 HF5 HW5 hfa S5
                go_wp2
                go_loopg [17] nb (fun g i wR => ∃ k : Nat, k + g = nb ∧ i = .int .i64 (k : Int) ∧ Hid (Below w5.heap.size w5 wR))
                case atStart => exact ⟨0, by omega, rfl, hbel⟩
                case round =>
                  obtain ⟨k, hk, rfl, hbel2⟩ := hrel
                  clear hbel dk3
                  cases gk with
                  | succ g =>
                    have hkl : k < TB.length := by have := hnb2.out; omega
                    have dk4 : decide ((k : Int) < (nb : Int)) = true := decide_eq_true (by omega)
                    have hwk : IntKind.i64.wrap ((k : Int) + 1) = (k : Int) + 1 := by have := hn22.out; rw [IntKind.wrap_i64]; omega
                    obtain ⟨xo, xc, ex, _, hcell⟩ := (HT5.out.below hbel2.out).texts hsm.out (by have := hn22.out; have := hnb2.out; omega)
                    obtain ⟨xa, hxa, hcx, _⟩ := hcell k hkl
                    have hro : ro = some xa := by
                      simp only [Value.slice.injEq] at ex
                      rw [ex.1]
                      exact hxa
                    subst hro
                    have hix := fun W => F.index_at (ao := some xa) F.Tryz.elemStrs F.Tryz.sizeStrs nb cr k rfl (by omega) W
                    have CR := hidS (F.read_any wr.drew w.heap.size fb fv (F.newL TB) (k : Int) (HFA.out.below (H.below_drew hbel2.out)))
                    rw [newL_read TB k hkl] at CR
                    generalize TB[k] = tx at *
                    generalize xa.add k = xp at *
                    have hcx2 : wr.drew.cell? xp = some (.string tx) := hcx
                    have hneq : ∀ W, (binOp .neq 9 (.string tx) (.string tx)).run Tryz.prog W = .ok (.bool false) W := fun W => by simp [go_sem]
                    clear hcell ex hxa hkl
                    go_wp2_with fail
                    go_region_with (go_at_call 20; refine (CR.out).mono ?_; rintro e Y ⟨rfl, rfl⟩)
                    all_goals
                      go_wp2
                      go_roundg g
                      case rel => exact ⟨k + 1, by omega, by go_num, hidS (H.below_drew hbel2.out)⟩
                      case measure => omega
                  | zero =>
                    have hke : k = nb := by omega
                    subst hke
                    have dk4 : decide ((k : Int) < (k : Int)) = false := by simp
                    have CLO := hidS (F.loose_any wr w.heap.size fb fv (F.newL TB) (HFA.out.below hbel2.out))
                    rw [newL_loose] at CLO
                    have hlen : Hid ((F.newL TB).length = k) := hidS (by rw [show (F.newL TB).length = TB.length by simp [F.newL]]; exact hnb2.out.symm)
                    go_wp2_with fail
                    refine CLO.out.mono ?_
                    rintro e w6 ⟨u6, rfl, hu, hb6⟩
                    have hB6 := hidS (hbel2.out.trans (hb6.mono hbel2.out.size))
                    have CLE := hidS (F.len_any w6 w.heap.size fb fv (F.newL TB) (HFA.out.below hB6.out))
                    rw [hlen.out] at CLE
                    obtain ⟨uo, uc, rfl⟩ := hu.slice
                    clear hu hb6 CLO
                    go_wp2_with fail
                    refine CLE.out.mono ?_
                    rintro e w7 ⟨rfl, hw7⟩
                    rw [hw7]
                    clear hw7
                    go_wp2
                    go_ret
                    exact ⟨rfl, SB.out.trans (hB6.out.mono SB.out.size)⟩
  · generalize hA : ps.length = nA at *
    generalize hB : av0.length = nB at *
    generalize hC : l.length = nC at *
    clear HP HS HV
    go_enter Tryz.func3, Tryz.ntmps3
    go_wp2_with fail
    refine (known_st w).mono ?_
    rintro e w0 ⟨rfl, B0⟩
    by_cases h1 : nA ≤ 20
    · have d1 : decide ((nA : Int) > 20) = false := decide_eq_false (by omega)
      by_cases h2 : nB ≤ 40
      · have d2 : decide ((nB : Int) > 40) = false := decide_eq_false (by omega)
        have d3 : decide ((nC : Int) > 60) = true := decide_eq_true (by omega)
        replace B0 := hidS B0
        clear h1 h2 hbig
        go_wp2
        go_ret
        exact ⟨rfl, B0.out⟩
      · have d2 : decide ((nB : Int) > 40) = true := decide_eq_true (by omega)
        replace B0 := hidS B0
        clear h1 h2 hbig
        go_wp2
        go_ret
        exact ⟨rfl, B0.out⟩
    · have d1 : decide ((nA : Int) > 20) = true := decide_eq_true (by omega)
      replace B0 := hidS B0
      clear h1 hbig
      go_wp2
      go_ret
      exact ⟨rfl, B0.out⟩
end Go.Proofs.YtpionokcabjokaaGreat
