/- Contract of the reference's Power. -/
import Derived.Test.YtehfhacghfagoaaRh
import Derived.Deep.RegionWith
import Derived.Deep.RegionHeld3
namespace Go.Proofs.Ytehfhacghfagoaa
open Go.RowKit

def backR (D : List ByteArray) : List Int → List Bool → List ByteArray → List ByteArray
  | [], _, v => v
  | x :: xs, ks, v => backR D xs ks.tail (if nextL ks then v else v.set x.toNat (atL D x))
theorem backR_kept (D : List ByteArray) : ∀ (L : List Sh) (pre : List ByteArray) (ks : List Bool), (∀ i (h : i < L.length), atL D ((pre.length + i : Nat) : Int) = L[i].syn) → backR D (looseL L pre.length) ks (pre ++ nowL L) = pre ++ nowL (keptP L ks)
  | [], pre, ks, _ => by simp [looseL, backR, nowL, keptP]
  | x :: L, pre, ks, h => by
    have h0 := h 0 (by simp)
    have hs : ∀ (y : ByteArray) i (hi : i < L.length), atL D (((pre ++ [y]).length + i : Nat) : Int) = L[i].syn := by
      intro y i hi
      have := h (i + 1) (by simpa using hi)
      rw [List.length_append, List.length_singleton, show pre.length + 1 + i = pre.length + (i + 1) by omega]
      simpa using this
    have hcons : ∀ (y : ByteArray) (l : List ByteArray), pre ++ y :: l = (pre ++ [y]) ++ l := by intro y l; simp
    have hlen : ∀ y : ByteArray, (pre ++ [y]).length = pre.length + 1 := by intro y; simp
    cases hx : x.loose
    · simp only [looseL, keptP, hx, Bool.false_eq_true, if_false]
      show backR D (looseL L (pre.length + 1)) ks (pre ++ x.now :: nowL L) = pre ++ x.now :: nowL (keptP L ks)
      rw [hcons x.now (nowL L), hcons x.now (nowL (keptP L ks)), ← hlen x.now]
      exact backR_kept D L (pre ++ [x.now]) ks (hs x.now)
    · simp only [looseL, keptP, hx, if_true, backR]
      cases hn : nextL ks
      · simp only [Bool.false_eq_true, if_false, Int.toNat_natCast]
        show backR D (looseL L (pre.length + 1)) ks.tail ((pre ++ x.now :: nowL L).set pre.length (atL D (pre.length : Int))) = pre ++ x.syn :: nowL (keptP L ks.tail)
        rw [List.set_append_right _ _ (Nat.le_refl _), Nat.sub_self, List.set_cons_zero]
        rw [Nat.add_zero] at h0
        rw [h0]
        show backR D (looseL L (pre.length + 1)) ks.tail (pre ++ x.syn :: nowL L) = _
        rw [hcons x.syn (nowL L), hcons x.syn (nowL (keptP L ks.tail)), ← hlen x.syn]
        exact backR_kept D L (pre ++ [x.syn]) ks.tail (hs x.syn)
      · simp only [if_true]
        show backR D (looseL L (pre.length + 1)) ks.tail (pre ++ x.now :: nowL L) = pre ++ x.now :: nowL (keptP L ks.tail)
        rw [hcons x.now (nowL L), hcons x.now (nowL (keptP L ks.tail)), ← hlen x.now]
        exact backR_kept D L (pre ++ [x.now]) ks.tail (hs x.now)
theorem backR_step (D : List ByteArray) (Ls : List Int) (ks : List Bool) (R : List ByteArray) (q : Nat) (hq : q < Ls.length) :
    backR D (Ls.drop q) (ks.drop q) R = backR D (Ls.drop (q + 1)) (ks.drop (q + 1)) (if nextL (ks.drop q) then R else R.set (Ls[q]).toNat (atL D Ls[q])) := by
  rw [List.drop_eq_getElem_cons hq, backR, List.tail_drop]
theorem next_at (ks : List Bool) (q : Nat) : nextL (ks.drop q) = ks.getD q false := by
  simp only [nextL, List.headD_eq_head?_getD, List.head?_drop, List.getD_eq_getElem?_getD]

theorem OwnStrs.drew {w : World} {B : Nat} {v : Value} {l : List ByteArray} (h : OwnStrs w B v l) : OwnStrs w.drew B v l := h
/-- Fewer of a row. -/
theorem OwnStrs.less {w : World} {B cap n e : Nat} {ao : Option Addr} {l : List ByteArray} (h : OwnStrs w B (.slice ao n cap) l) (hn : n = l.length) (he : e ≤ n) : OwnStrs w B (.slice ao e cap) (l.take e) := by
  subst hn
  have hle : (l.take e).length = e := by rw [List.length_take]; omega
  unfold OwnStrs
  rw [hle]
  refine ⟨by rw [strC_length, hle]; omega, ?_⟩
  rcases h.2 with ⟨hv, h0⟩ | ⟨g, cap', cur, hv, hb, hg, hc, hm, hs, ht⟩
  · simp only [Value.slice.injEq] at hv
    obtain ⟨rfl, _, rfl⟩ := hv
    exact .inl ⟨by rw [show e = 0 by omega], by omega⟩
  · simp only [Value.slice.injEq, true_and] at hv
    obtain ⟨rfl, rfl⟩ := hv
    refine .inr ⟨g, cap, cur, rfl, hb, hg, by omega, hm, hs, ?_⟩
    have : (strC l).take (e * 1) = strC (l.take e) := by simp [strC, List.map_take]
    rw [← this, ← ht, List.take_take, Nat.min_eq_left (by omega)]

theorem cell_in3 {w : World} {a : Addr} {v x y z : Value} {rb : Nat} {T : TypeId} {fr : Nat × Nat} (ho : w.heap[rb]? = some (.cells #[x, y, z] T fr)) (h : w.cell? a = some v) (e : a.block = rb) : v = x ∨ v = y ∨ v = z := by
  obtain ⟨b, o, sp⟩ := a
  have e : b = rb := e
  subst e
  cases sp with
  | some s => unfold World.cell? at h; split at h <;> simp at h
  | none =>
    rw [cell_rowL ho] at h
    match o, h with
    | 0, h => simp at h; exact .inl h.symm
    | 1, h => simp at h; exact .inr (.inl h.symm)
    | 2, h => simp at h; exact .inr (.inr h.symm)
    | n + 3, h => simp at h
/-- A truth that came in, behind what the reference turns. -/
theorem bool_kept {w wr : World} {a : Addr} {x y z : Option Addr} {n1 n2 n3 c1 c2 c3 rb : Nat} {b : Bool} {T : TypeId} {fr : Nat × Nat} (ho : w.heap[rb]? = some (.cells #[.slice x n1 c1, .slice y n2 c2, .slice z n3 c3] T fr)) (h : w.cell? a = some (.bool b)) (hg : w.grownBy wr (some rb)) : wr.cell? a = some (.bool b) := by
  refine (hg.cell_far a (World.block_lt_of_cell? w _ h) (fun e => ?_)).trans h
  simp only [Option.some.injEq] at e
  rcases cell_in3 ho h e with h | h | h <;> cases h
theorem RfIn.drew {w wr : World} {B rb : Nat} {vV vD uL u : Value} {V : List ByteArray} {Ls : List Int} (h : RfIn w wr B rb vV vD uL u V Ls) : RfIn w wr.drew B rb vV vD uL u V Ls := ⟨h.obj, h.rowL, h.row, ⟨h.grown.os, h.grown.tape, h.grown.output, h.grown.size, h.grown.block⟩⟩

set_option maxRecDepth 10000 in
set_option maxHeartbeats 8000000 in
theorem rpower_any (w : World) (B rb : Nat) (vV vD vL : Value) (L : List Sh) (D : List ByteArray) (kv : Value) (ks : List Bool) (h : RfAt w B rb vV vD vL (nowL L) D (looseL L 0)) (hk : BoolsAt w kv ks) (hD : ∀ i (h : i < L.length), atL D (i : Int) = L[i].syn) :
    Calls Try.prog 16 #[.pointer (some ⟨rb, 0, none⟩), kv] w fun e w' => e = .returned (.tuple #[]) ∧ ∃ uV uD uL, RfAt w' B rb uV uD uL (nowL (cutL (keptP L ks))) (nowL (cutL (keptP L ks))) [] ∧ w.grownBy w' (some rb) := by
  obtain ⟨c0, c1, c2⟩ := cells3c h.obj
  obtain ⟨ao, cap, rfl⟩ := h.rowV.slice
  obtain ⟨dO, dC, rfl⟩ := h.rowD.slice
  obtain ⟨lO, lC, rfl⟩ := h.rowL.slice
  obtain ⟨ko, kc, rfl, ⟨hkm, _⟩, hk3⟩ := hk
  unfold maxLen at hkm
  have hlV := h.lenV
  rw [nowL_length] at hlV
  have H := hid h
  have hbl := h.baseLe
  have HC := hid (fun ty => copy_strs (C := w.heap.size) h.rowV rfl (Below.refl _ w) (Nat.le_refl _) (by rw [nowL_length]; omega) ty)
  have hll := looseL_le400 L hlV
  have HK : Hid (backR D (looseL L 0) ks (nowL L) = nowL (keptP L ks)) := hid (by
    have := backR_kept D L [] ks (by simpa using hD)
    simpa using this)
  have HM := hid (looseL_mem L 0)
  have hKl : (keptP L ks).length = L.length := keptP_length L ks
  generalize keptP L ks = K at *
  obtain ⟨Ls, hLs⟩ : ∃ Ls, looseL L 0 = Ls := ⟨_, rfl⟩
  rw [hLs] at H HK HM hll c2
  have hIL := h.rowL.at (by rw [hLs]; unfold maxLen; omega)
  rw [hLs] at hIL
  obtain ⟨lo', lc', hl', _, hl3⟩ := hIL
  simp only [Value.slice.injEq, true_and] at hl'
  obtain ⟨rfl, rfl⟩ := hl'
  rw [nowL_length] at HC c0
  replace hk3 := hid hk3
  replace hl3 := hid hl3
  clear h hLs hD
  go_enter Try.func16, Try.ntmps16
  go_wp2_with (first
    | (at_builtin; refine wpList_append_any rfl (.const (.slice none 0 0)) (.tmp 9) 22 rfl _ _ rfl rfl (HC.out _) ?_; rintro v1 w1 ⟨h1, g1⟩; have HI := RfIn.mk ((g1.block rb H.out.lt (by simp)).trans H.out.obj) (H.out.rowL.below (grown_none_below g1)) h1 (grown_weak g1 rb); replace HI := hid HI; obtain ⟨uo, uc, hv1⟩ := h1.slice; rw [nowL_length] at hv1; subst hv1; clear h1 g1)
    | fail)
  clear c0 c1 c2 HC
  go_loopg [5] Ls.length (fun g i wr => ∃ (q : Nat) (R : List ByteArray), q + g = Ls.length ∧ i = .int .i64 q ∧ Hid (R.length = L.length) ∧ Hid (RfIn w wr B rb (.slice ao (nowL L).length cap) (.slice dO D.length dC) (.slice lO Ls.length lC) (.slice uo L.length uc) R Ls) ∧ Hid (backR D (Ls.drop q) (ks.drop q) R = nowL K))
  case atStart => exact ⟨0, nowL L, by omega, rfl, hid (nowL_length L), HI, by simpa using HK⟩
  case round =>
    obtain ⟨q, R, hq, rfl, hR, hI, hB⟩ := hrel
    clear HI HK
    obtain ⟨c0, c1, c2⟩ := cells3c hI.out.obj
    have hfr := frozen_rowL hI.out.obj
    have hsz := hI.out.grown.size
    cases gk with
    | zero =>
      have hqe : q = Ls.length := by omega
      subst hqe
      have hRK : R = nowL K := by
        have := hB.out
        rw [List.drop_length] at this
        exact this
      subst hRK
      clear hB hR hl3 hk3
      have hnK : (nowL K).length = L.length := by rw [nowL_length, hKl]
      have hcells : Hid (∀ j (h : j < K.length), ∃ g0, uo = some ⟨g0, 0, none⟩ ∧ wr.cell? ⟨g0, j, none⟩ = some (.string K[j].now)) := hid (by
        intro j hj
        rcases hI.out.row.2 with ⟨hv, h0⟩ | ⟨g, cap', cur, hv, _⟩
        · rw [nowL_length] at h0; omega
        · simp only [Value.slice.injEq] at hv
          obtain ⟨rfl, h2, rfl⟩ := hv
          refine ⟨g, rfl, ?_⟩
          have hrow := hI.out.row
          unfold OwnStrs at hrow
          rw [hnK] at hrow
          have := World.ownsRow.cellAt hrow j (by omega)
          rw [this]
          simp [strC, nowL, hj])
      go_wp2
      go_loopg [4] L.length (fun ge en wq => ∃ (e : Nat), ge = e ∧ en = .slice uo e uc ∧ e ≤ L.length ∧ Hid (cutN K L.length = cutN K e) ∧ wq = wr)
      case atStart => exact ⟨_, rfl, rfl, Nat.le_refl _, hid rfl, rfl⟩
      case round =>
        obtain ⟨e, hge, rfl, hel, hcut, rfl⟩ := hrel
        replace hge := hid hge
        by_cases hgo : 0 < e ∧ (K.getD (e - 1) noSh).now = ⟨#[]⟩
        · obtain ⟨k, rfl⟩ : ∃ k, e = k + 1 := ⟨e - 1, by omega⟩
          have hk : k < K.length := by omega
          have hgo' : K[k].now = ⟨#[]⟩ := by simpa [hk] using hgo.2
          obtain ⟨g0, rfl, hcc⟩ := hcells.out k hk
          rw [hgo'] at hcc
          have hx := index_at (a := ⟨g0, 0, none⟩) (len := k + 1) (cap := uc) Try.elemStrs Try.sizeStrs k rfl (by omega)
          simp only [Addr.add_mid, Nat.zero_add] at hx
          have hucap : k ≤ uc := by
            have := (OwnStrs.src hI.out.row hnK.symm).1
            omega
          have hch := fun W => cut_head (ao := some ⟨g0, 0, none⟩) (len := k + 1) (cap := uc) (n := k) Try.elemStrs Try.sizeStrs hucap W
          have e1 : cutN K (k + 1) = cutN K k := by
            have := hgo.2
            simp only [Nat.add_sub_cancel] at this
            rw [cutN, if_pos this]
          replace e1 := hid e1
          clear hgo hgo' c0 c1 c2
          go_wp2
          go_roundg k
          case rel => exact ⟨k, rfl, rfl, by omega, hid (hcut.out.trans e1.out), rfl⟩
          case measure => have := hge.out; omega
        have e1 : cutN K e = e := by
          cases e with
          | zero => rfl
          | succ k =>
            have : ¬ (K.getD k noSh).now = ⟨#[]⟩ := fun h => hgo ⟨by omega, by simpa using h⟩
            simp only [cutN, if_neg this]
        have hcutL : cutL K = K.take e := by unfold cutL; rw [hKl, hcut.out, e1]
        have hcutN : (nowL K).take e = nowL (cutL K) := by rw [hcutL]; simp [nowL, List.map_take]
        have hcl : e = (nowL (cutL K)).length := by rw [nowL_length, hcutL, List.length_take]; omega
        have HX : OwnStrs ((wr.setCell ⟨rb, 0, none⟩ (.slice uo e uc)).setCell ⟨rb, 2, none⟩ (.slice none 0 0)) w.heap.size (.slice uo e uc) (nowL (cutL K)) := by
          have h0 := hI.out.row.less hnK.symm hel
          rw [hcutN] at h0
          refine h0.block (fun b cs fr hb => ?_)
          have hbr : b ≠ rb := by
            intro e'
            subst e'
            rw [hI.out.obj] at hb
            simp at hb
          rw [Below.heap_setCell _ _ _ _ hbr, Below.heap_setCell _ _ _ _ hbr]
        have e1 := heap_setCell_same _ rb 0 _ _ (Value.slice uo e uc) hI.out.obj
        have e2 := heap_setCell_same _ rb 2 _ _ (Value.slice none 0 0) e1
        have G2 := grown_rb (grown_rb hI.out.grown 0 (Value.slice uo e uc)) 2 (Value.slice none 0 0)
        have hxs : ((wr.setCell ⟨rb, 0, none⟩ (.slice uo e uc)).setCell ⟨rb, 2, none⟩ (.slice none 0 0)).heap.size = wr.heap.size := by simp
        have HC := hid (fun ty => copy_strs (C := w.heap.size) HX hcl (Below.refl _ _) (by omega) (by omega) ty)
        replace HX := hid HX
        replace e2 := hid e2
        replace G2 := hid G2
        clear e1
        generalize hX : (wr.setCell ⟨rb, 0, none⟩ (.slice uo e uc)).setCell ⟨rb, 2, none⟩ (.slice none 0 0) = X at *
        replace hX := hid hX
        have hcle : (nowL (cutL K)).length ≤ 400 := by omega
        replace hcl := hid hcl
        replace hcle := hid hcle
        clear hcutL hcutN
        by_cases h0 : 0 < e
        · have hk : e - 1 < K.length := by omega
          have hgo' : ¬ K[e - 1].now = ⟨#[]⟩ := by simpa [hk, h0] using hgo
          obtain ⟨g0, hg0, hcc⟩ := hcells.out (e - 1) hk
          have hx := index_at (ao := uo) (a := ⟨g0, 0, none⟩) (len := e) (cap := uc) Try.elemStrs Try.sizeStrs (e - 1) hg0 (by omega)
          simp only [Addr.add_mid, Nat.zero_add] at hx
          rw [show ((e - 1 : Nat) : Int) = (e : Int) - 1 by omega] at hx
          generalize K[e - 1].now = s at *
          have hse := not_empty hgo'
          clear hgo hgo' hcut e1 hg0
          go_wp2_with (first
            | (at_builtin; rw [hX.out]; refine wpList_append_any rfl (.const (.slice none 0 0)) (.tmp 77) 22 rfl _ _ rfl rfl (HC.out _) ?_; rintro v6 w6 ⟨h6, g6⟩; obtain ⟨o6, p6, hv6⟩ := h6.slice; rw [← hcl.out] at hv6; subst hv6; have ho6 := (g6.block rb (lt_of_heap e2.out) (by simp)).trans e2.out; obtain ⟨d0, d1, d2⟩ := cells3c ho6; have hfr6 := frozen_rowL ho6; replace ho6 := hid ho6; replace h6 := hid h6; replace g6 := hid g6)
            | fail)
          go_end0
          have e3 := heap_setCell_same _ rb 1 _ _ (Value.slice o6 e p6) ho6.out
          refine ⟨rfl, _, _, _, RfAt.of ho6.out H.out.base e3 (fun b hb => Below.heap_setCell _ _ _ _ hb) ((HX.out.below (grown_none_below g6.out)).mono hbl) (h6.out.mono hbl) (OwnInts.nil _ _) hcle.out hcle.out (by simp), grown_rb (grown_seq G2.out (grown_weak g6.out rb)) _ _⟩
        · clear hgo hcut e1
          go_wp2_with (first
            | (at_builtin; rw [hX.out]; refine wpList_append_any rfl (.const (.slice none 0 0)) (.tmp 77) 22 rfl _ _ rfl rfl (HC.out _) ?_; rintro v6 w6 ⟨h6, g6⟩; obtain ⟨o6, p6, hv6⟩ := h6.slice; rw [← hcl.out] at hv6; subst hv6; have ho6 := (g6.block rb (lt_of_heap e2.out) (by simp)).trans e2.out; obtain ⟨d0, d1, d2⟩ := cells3c ho6; have hfr6 := frozen_rowL ho6; replace ho6 := hid ho6; replace h6 := hid h6; replace g6 := hid g6)
            | fail)
          go_end0
          have e3 := heap_setCell_same _ rb 1 _ _ (Value.slice o6 e p6) ho6.out
          refine ⟨rfl, _, _, _, RfAt.of ho6.out H.out.base e3 (fun b hb => Below.heap_setCell _ _ _ _ hb) ((HX.out.below (grown_none_below g6.out)).mono hbl) (h6.out.mono hbl) (OwnInts.nil _ _) hcle.out hcle.out (by simp), grown_rb (grown_seq G2.out (grown_weak g6.out rb)) _ _⟩
    | succ g =>
      have hql : q < Ls.length := by omega
      have hstep := backR_step D Ls ks R q hql
      rw [next_at] at hstep
      obtain ⟨p, hp⟩ : ∃ p : Nat, Ls[q] = (p : Int) := ⟨(Ls[q]).toNat, by have := HM.out _ (List.getElem_mem hql); omega⟩
      have hpl : p < L.length := by have := HM.out _ (List.getElem_mem hql); omega
      obtain ⟨la, hla, hlc⟩ := hl3.out q hql
      rw [hp] at hlc hstep
      rw [Int.toNat_natCast] at hstep
      have hix := index_at (len := Ls.length) (cap := lC) Try.elemInts Try.sizeInts q hla hql
      have hlcr : wr.cell? (la.add q) = some (.int .i64 (p : Int)) := by
        have hb := World.block_lt_of_cell? w _ hlc
        have hne : some (la.add q).block ≠ some rb := by
          intro e
          simp only [Option.some.injEq] at e
          have ho := H.out.obj
          rcases H.out.rowL.2 with ⟨hv, h0⟩ | ⟨g', cap', cur, hv, _, hgg, _⟩
          · omega
          · simp only [Value.slice.injEq, true_and] at hv
            obtain ⟨rfl, rfl⟩ := hv
            cases hla
            rw [Addr.add_mid] at e
            simp only at e
            subst e
            rw [hgg] at ho
            simp at ho
        exact (hI.out.grown.cell_far _ hb hne).trans hlc
      have hlbl := World.block_lt_of_cell? w _ hlc
      clear hla hlc
      by_cases hkeep : ks.getD q false = true
      · have hqk : q < ks.length := by
          rcases Nat.lt_or_ge q ks.length with h | h
          · exact h
          · rw [List.getD_eq_getElem?_getD, List.getElem?_eq_none h] at hkeep
            cases hkeep
        obtain ⟨ka, hka, hkc⟩ := hk3.out q hqk
        have hkt : ks[q] = true := by simpa [hqk] using hkeep
        rw [hkt] at hkc
        have hkx := index_at (len := ks.length) (cap := kc) Try.elemBools Try.sizeBools q hka hqk
        rw [hkeep, if_pos rfl] at hstep
        have HS : Hid (backR D (Ls.drop (q + 1)) (ks.drop (q + 1)) R = nowL K) := hid (hstep.symm.trans hB.out)
        have hkcr := bool_kept H.out.obj hkc hI.out.grown
        clear hkc hka hkt hkeep hstep hB
        go_wp2
        go_roundg g
        case rel => exact ⟨q + 1, R, by omega, by go_num, hR, hI, HS⟩
        case measure => omega
      · have hkf : ks.getD q false = false := by simpa using hkeep
        rw [hkf, if_neg (by simp)] at hstep
        have HS : Hid (backR D (Ls.drop (q + 1)) (ks.drop (q + 1)) (R.set p (atL D (p : Int))) = nowL K) := hid (hstep.symm.trans hB.out)
        have hDr : Hid (OwnStrs wr.drew B (.slice dO D.length dC) D) := hid (OwnStrs.drew (H.out.rowD.block (fun b cs fr hb => hI.out.grown.block b (lt_of_heap hb) (by
          intro e
          simp only [Option.some.injEq] at e
          subst e
          rw [H.out.obj] at hb
          simp at hb))))
        obtain ⟨g0, rfl⟩ : ∃ g0, uo = some ⟨g0, 0, none⟩ := by
          rcases hI.out.row.2 with ⟨hv, h0⟩ | ⟨g, cap', cur, hv, _⟩
          · rw [hR.out] at h0; omega
          · simp only [Value.slice.injEq] at hv
            exact ⟨g, hv.1⟩
        have hux := index_at (a := ⟨g0, 0, none⟩) (len := L.length) (cap := uc) Try.elemStrs Try.sizeStrs p rfl hpl
        simp only [Addr.add_mid, Nat.zero_add] at hux
        have hrow : wr.ownsRow w.heap.size 9 1 (.slice (some ⟨g0, 0, none⟩) L.length uc) L.length (strC R) := by
          have := hI.out.row
          unfold OwnStrs at this
          rw [hR.out] at this
          exact this
        have hcell : ∃ y, wr.cell? ⟨g0, p, none⟩ = some y := by
          have := World.ownsRow.cellAt hrow p (by omega)
          exact ⟨_, this.trans (List.getElem?_eq_getElem (by rw [strC_length, hR.out]; omega))⟩
        obtain ⟨y, hcell⟩ := hcell
        have hgfr := World.ownsRow.frozenAt hrow p
        have hne : g0 ≠ rb := by
          intro e
          subst e
          rcases hrow.2 with ⟨hv, h0⟩ | ⟨g, cap', cur, hv, _, hgg, _⟩
          · cases hv
          · simp only [Value.slice.injEq, Option.some.injEq, Addr.mk.injEq, and_true, true_and] at hv
            obtain ⟨rfl, _⟩ := hv
            have := hI.out.obj
            rw [hgg] at this
            simp at this
        have hg0 : w.heap.size ≤ g0 := (World.ownsRow.lt hrow g0 rfl).1
        have kset : ∀ (a : Addr) (x : Value), a.block ≠ g0 → wr.cell? a = some x → (wr.setCell ⟨g0, p, none⟩ (.string (atL D (p : Int)))).cell? a = some x := fun a x hb hx => (World.cell?_of_block (Below.heap_setCell wr ⟨g0, p, none⟩ _ a.block hb)).trans hx
        have k1 := hid (kset ⟨rb, 1, none⟩ _ (fun e => hne e.symm) c1)
        have k2 := hid (kset ⟨rb, 2, none⟩ _ (fun e => hne e.symm) c2)
        have k3 := hid (kset (la.add q) _ (by omega) hlcr)
        clear kset
        have IS := hid ((hI.out.set hR.out.symm p (atL D (p : Int))).drew)
        have HA := hid (rat_any wr.drew B _ D (p : Int) hDr.out H.out.lenD)
        have hgr := hid hI.out.grown
        generalize atL D (p : Int) = ab at *
        clear hrow hstep hB hI hkeep hDr
        by_cases hqk : q < ks.length
        · obtain ⟨ka, hka, hkc⟩ := hk3.out q hqk
          have hkt : ks[q] = false := by simpa [hqk] using hkf
          rw [hkt] at hkc
          have hkx := index_at (len := ks.length) (cap := kc) Try.elemBools Try.sizeBools q hka hqk
          have hkcr := bool_kept H.out.obj hkc hgr.out
          clear hkc hka hkt hkf hgr
          go_wp2_with fail
          go_region_held3 (fun w' => w'.cell? ⟨rb, 1, none⟩ = some (.slice dO D.length dC) ∧ w'.cell? ⟨rb, 2, none⟩ = some (.slice lO Ls.length lC) ∧ w'.cell? (la.add q) = some (.int .i64 (p : Int))) (first | exact ⟨k1.out, k2.out, k3.out⟩ | go_keep) (first | (go_at_call 28; refine HA.out.mono ?_; rintro e w5 ⟨rfl, rfl⟩))
          all_goals go_wp2
          all_goals go_roundg g
          case rel => exact ⟨q + 1, R.set p ab, by omega, by go_num, hid (by rw [List.length_set]; exact hR.out), IS, HS⟩
          case measure => omega
        · clear hkf hgr
          go_wp2_with fail
          go_region_held3 (fun w' => w'.cell? ⟨rb, 1, none⟩ = some (.slice dO D.length dC) ∧ w'.cell? ⟨rb, 2, none⟩ = some (.slice lO Ls.length lC) ∧ w'.cell? (la.add q) = some (.int .i64 (p : Int))) (first | exact ⟨k1.out, k2.out, k3.out⟩ | go_keep) (first | (go_at_call 28; refine HA.out.mono ?_; rintro e w5 ⟨rfl, rfl⟩))
          all_goals go_wp2
          all_goals go_roundg g
          case rel => exact ⟨q + 1, R.set p ab, by omega, by go_num, hid (by rw [List.length_set]; exact hR.out), IS, HS⟩
          case measure => omega
end Go.Proofs.Ytehfhacghfagoaa
