/- Contract of the reference's Write. -/
import Derived.Test.YtehfhacghfagoaaRg
namespace Go.Proofs.Ytehfhacghfagoaa
open Go.RowKit

def nowL (l : List Sh) : List ByteArray := l.map Sh.now
theorem nowL_length (l : List Sh) : (nowL l).length = l.length := by simp [nowL]
theorem row_keeps {w w' : World} {base : Nat} {e : TypeId} {size : Nat} {u : Value} {n : Nat} {xs : List Value} (hu : w.ownsRow base e size u n xs) (hg : w.grownBy w' u.ownBlock) {b : Nat} {cs : Array Value} {T : TypeId} {fr : Nat × Nat} (hb : w.heap[b]? = some (.cells cs T fr)) (hT : T ≠ e) : w'.heap[b]? = w.heap[b]? := by
  refine hg.block b (lt_of_heap hb) (fun e' => ?_)
  rcases hu.2 with ⟨rfl, _⟩ | ⟨g, cap, cur, rfl, _, hgg, _⟩
  · simp [Value.ownBlock] at e'
  · simp [Value.ownBlock] at e'
    subst e'
    rw [hgg] at hb
    simp only [Option.some.injEq, Obj.cells.injEq] at hb
    exact hT hb.2.1.symm
theorem grown_own {w w1 w2 : World} {rb : Nat} {row : Option Nat} (h : w.grownBy w1 (some rb)) (g : w1.grownBy w2 row) (hr : ∀ k, row = some k → w.heap.size ≤ k) : w.grownBy w2 (some rb) :=
  ⟨g.os.trans h.os, g.tape.trans h.tape, g.output.trans h.output, Nat.le_trans h.size g.size, fun k hk hne => (g.block k (Nat.lt_of_lt_of_le hk h.size) (fun e => by have := hr k e.symm; omega)).trans (h.block k hk hne)⟩
/-- Within the reference's Write: the file in rb, the new row u. -/
structure RfIn (w wr : World) (B rb : Nat) (vV vD uL u : Value) (V : List ByteArray) (Ls : List Int) : Prop where
  obj : wr.heap[rb]? = some (.cells #[vV, vD, uL] 40 (0, 0))
  rowL : OwnInts wr B uL Ls
  row : OwnStrs wr w.heap.size u V
  grown : w.grownBy wr (some rb)
theorem RfIn.loose {w wr w' : World} {B rb : Nat} {vV vD uL u uL' : Value} {V : List ByteArray} {Ls Ls' : List Int} (h : RfIn w wr B rb vV vD uL u V Ls) (hb : Below wr.heap.size wr w') (hL : OwnInts w' B uL' Ls') : RfIn w (w'.setCell ⟨rb, 2, none⟩ uL') B rb vV vD uL' u V Ls' := by
  have ho := (hb.block rb (lt_of_heap h.obj)).trans h.obj
  have hk : ∀ (b : Nat) (cs' : Array Value) (T : TypeId) (fr : Nat × Nat), w'.heap[b]? = some (Obj.cells cs' T fr) → T ≠ 40 → (w'.setCell ⟨rb, 2, none⟩ uL').heap[b]? = w'.heap[b]? := by
    intro b cs' T fr hbb hT
    refine Below.heap_setCell _ _ _ _ (fun e => ?_)
    have e : b = rb := e
    subst e
    rw [ho] at hbb
    simp only [Option.some.injEq, Obj.cells.injEq] at hbb
    exact hT hbb.2.1.symm
  exact ⟨by rw [heap_setCell_same _ rb 2 _ _ uL' ho]; rfl, hL.block (fun b cs fr hh => hk b cs _ fr hh (by decide)), (h.row.below hb).block (fun b cs fr hh => hk b cs _ fr hh (by decide)), grown_rb (grown_seq h.grown (grown_below hb)) _ _⟩
theorem RfIn.alloc {w wr : World} {B rb : Nat} {vV vD uL u : Value} {V : List ByteArray} {Ls : List Int} (h : RfIn w wr B rb vV vD uL u V Ls) (o : Obj) : RfIn w (wr.alloc o) B rb vV vD uL u V Ls :=
  ⟨(Below.heap_alloc _ _ _ (lt_of_heap h.obj)).trans h.obj, h.rowL.alloc o, h.row.alloc o, grown_seq h.grown (World.grownBy_alloc wr o _)⟩
theorem RfIn.app {w wr w' : World} {B rb : Nat} {vV vD uL u u' : Value} {V V' : List ByteArray} {Ls : List Int} (h : RfIn w wr B rb vV vD uL u V Ls) (hg : wr.grownBy w' u.ownBlock) (hr : OwnStrs w' w.heap.size u' V') : RfIn w w' B rb vV vD uL u' V' Ls :=
  ⟨(row_keeps h.row hg h.obj (by decide)).trans h.obj, h.rowL.block (fun b cs fr hh => row_keeps h.row hg hh (by decide)), hr, grown_own h.grown hg (fun k hk => (World.ownsRow.lt h.row k hk).1)⟩
theorem RfIn.set {w wr : World} {B rb g n cap : Nat} {vV vD uL : Value} {V : List ByteArray} {Ls : List Int} (h : RfIn w wr B rb vV vD uL (.slice (some ⟨g, 0, none⟩) n cap) V Ls) (hn : n = V.length) (i : Nat) (s : ByteArray) : RfIn w (wr.setCell ⟨g, i, none⟩ (.string s)) B rb vV vD uL (.slice (some ⟨g, 0, none⟩) n cap) (V.set i s) Ls := by
  subst hn
  have hg : wr.grownBy (wr.setCell ⟨g, i, none⟩ (.string s)) (Value.slice (some ⟨g, 0, none⟩) V.length cap).ownBlock := grown_setCell wr g i _
  refine h.app hg ?_
  have := owns_stored h.row i (.string s)
  unfold OwnStrs
  rw [List.length_set]
  simpa [strC, List.map_set] using this
theorem looseL_le400 (l : List Sh) (h : l.length ≤ 400) : (looseL l 0).length ≤ 400 := by have := looseL_le l 0; omega

theorem rwrite_not (w : World) (rb : Nat) (i : Int) (s : ByteArray) (h : i < 0 ∨ 400 ≤ i) :
    Calls Try.prog 12 #[.pointer (some ⟨rb, 0, none⟩), .int .i64 i, .string s] w fun e w' => e = .returned (.int .i64 14) ∧ w' = w := by
  by_cases h0 : i < 0
  · clear h
    go_enter Try.func12, Try.ntmps12
    go_wp2
    go_ret
    exact ⟨rfl, rfl⟩
  · have h1 : 400 ≤ i := by omega
    clear h
    go_enter Try.func12, Try.ntmps12
    go_wp2
    go_ret
    exact ⟨rfl, rfl⟩

set_option maxRecDepth 10000 in
set_option maxHeartbeats 4000000 in
theorem rwrite_any (w : World) (B rb : Nat) (vV vD vL : Value) (L : List Sh) (D : List ByteArray) (i : Nat) (s : ByteArray) (h : RfAt w B rb vV vD vL (nowL L) D (looseL L 0)) (hi4 : i < 400) :
    Calls Try.prog 12 #[.pointer (some ⟨rb, 0, none⟩), .int .i64 i, .string s] w fun e w' => e = .returned (.int .i64 0) ∧ ∃ uV uD uL, RfAt w' B rb uV uD uL (nowL (writeL L i s)) D (looseL (writeL L i s) 0) ∧ w.grownBy w' (some rb) := by
  obtain ⟨c0, c1, c2⟩ := cells3c h.obj
  obtain ⟨ao, cap, rfl⟩ := h.rowV.slice
  have hlV := h.lenV
  rw [nowL_length] at hlV
  have H := hid h
  have hbl := h.baseLe
  have HC := hid (fun ty => copy_strs (C := w.heap.size) h.rowV rfl (Below.refl _ w) (Nat.le_refl _) (by rw [nowL_length]; omega) ty)
  rw [nowL_length] at HC c0
  have hwl : (writeL L i s).length ≤ 400 := by rw [writeL_length]; omega
  have HWs : Hid (writeL L i s = (padTo L (i + 1)).set i ⟨s, ((padTo L (i + 1)).getD i noSh).syn, true⟩) := hid rfl
  generalize writeL L i s = RL at *
  clear h
  go_enter Try.func12, Try.ntmps12
  go_wp2_with (first
    | (at_builtin; refine wpList_append_any rfl (.const (.slice none 0 0)) (.tmp 17) 22 rfl _ _ rfl rfl (HC.out _) ?_; rintro v1 w1 ⟨h1, g1⟩; have HI := RfIn.mk ((g1.block rb H.out.lt (by simp)).trans H.out.obj) (H.out.rowL.below (grown_none_below g1)) h1 (grown_weak g1 rb); replace HI := hid HI; clear h1 g1)
    | fail)
  clear c0 c1 c2 HC
  go_loopg [7] (i + 1 - L.length) (fun g u wr => ∃ (j : Nat) (uL : Value), g = i + 1 - j ∧ L.length ≤ j ∧ (j ≤ i + 1 ∨ j = L.length) ∧ Hid (RfIn w wr B rb (.slice ao (nowL L).length cap) vD uL u (nowL (padTo L j)) (looseL (padTo L j) 0)))
  case atStart => exact ⟨L.length, _, rfl, Nat.le_refl _, .inr rfl, by rw [padTo_le L L.length (Nat.le_refl _)]; exact HI⟩
  case round =>
    obtain ⟨j, uL, hg, hLj, hji, hI⟩ := hrel
    clear HI
    have hpl : (padTo L j).length = j := by rw [padTo_length]; omega
    obtain ⟨uo, uc, rfl⟩ := hI.out.row.slice
    have hnl : (nowL (padTo L j)).length = j := by rw [nowL_length, hpl]
    rw [hnl] at hI
    obtain ⟨c0, c1, c2⟩ := cells3c hI.out.obj
    have hfr := frozen_rowL hI.out.obj
    have hsz := hI.out.grown.size
    obtain ⟨lo, lc, rfl⟩ := hI.out.rowL.slice
    have hll := looseL_le400 (padTo L j) (by omega)
    by_cases hj : j ≤ i
    · replace hg := hid hg
      go_wp2_with fail
      refine (with_any _ (j : Int) _ B _ hI.out.rowL (by omega) (by omega)).mono ?_
      rw [← loose_pad L j hLj]
      rintro e w5 ⟨u5, rfl, U5, B5⟩
      have ho5 := (B5.block rb (lt_of_heap hI.out.obj)).trans hI.out.obj
      obtain ⟨d0, d1, d2⟩ := cells3c ho5
      have hfr5 := frozen_rowL ho5
      obtain ⟨lo5, lc5, rfl⟩ := U5.slice
      have I5 := hI.out.loose B5 U5
      replace I5 := hid I5
      have hs5 := B5.size
      have A5 : Hid (∀ ty, ∃ v' w', (Builtin.append_ #[22, 22] ty #[.slice uo j uc, .slice (some ⟨w5.heap.size, 0, none⟩) 1 1]).run Try.prog ((w5.setCell ⟨rb, 2, none⟩ (.slice lo5 (looseL (padTo L (j + 1)) 0).length lc5)).alloc (.cells #[.string ⟨#[]⟩] 9)) = .ok v' w' ∧ OwnStrs w' w.heap.size v' (nowL (padTo L (j + 1))) ∧ ((w5.setCell ⟨rb, 2, none⟩ (.slice lo5 (looseL (padTo L (j + 1)) 0).length lc5)).alloc (.cells #[.string ⟨#[]⟩] 9)).grownBy w' (Value.slice uo j uc).ownBlock) := hid (by
        intro ty
        have hh := heap_newL (w5.setCell ⟨rb, 2, none⟩ (.slice lo5 (looseL (padTo L (j + 1)) 0).length lc5)) (.cells #[.string ⟨#[]⟩] 9)
        have hsz2 : (w5.setCell ⟨rb, 2, none⟩ (.slice lo5 (looseL (padTo L (j + 1)) 0).length lc5)).heap.size = w5.heap.size := by simp
        rw [hsz2] at hh
        obtain ⟨v', w', e1, e2, e3⟩ := app_strs (.slice uo j uc) (nowL (padTo L j)) (I5.out.alloc _).row ty (some ⟨w5.heap.size, 0, none⟩) 1 [⟨#[]⟩] (.inr ⟨_, rfl, World.news_of_block hh⟩) (by simp) (by simp; omega) (by rw [hnl]; simp; omega)
        refine ⟨v', w', e1, ?_, e3⟩
        rw [pad_succ L j hLj]
        simpa [nowL, emptySh] using e2)
      have I6 := hid (I5.out.alloc (.cells #[.string ⟨#[]⟩] 9))
      clear B5 U5 ho5 hI I5 c0 c1 c2 hfr
      go_wp2_with (first
        | (at_builtin; refine wpList_append_any rfl (.tmp 33) (.tmp 34) 22 rfl _ _ rfl rfl (A5.out _) ?_; rintro v6 w6 ⟨h6, g6⟩; have I7 := hid (I6.out.app g6 h6); clear h6 g6)
        | fail)
      go_roundg (i + 1 - (j + 1))
      case rel => exact ⟨j + 1, _, rfl, by omega, .inl (by omega), I7⟩
      case measure => have := hg.out; omega
    · have hpad : padTo L j = padTo L (i + 1) := by
        rcases hji with h | h
        · rw [show j = i + 1 by omega]
        · rw [padTo_le L j (by omega), padTo_le L (i + 1) (by omega)]
      obtain ⟨g0, rfl⟩ : ∃ g0, uo = some ⟨g0, 0, none⟩ := by
        rcases hI.out.row.2 with ⟨hv, h0⟩ | ⟨g, cap', cur, hv, _⟩
        · rw [hnl] at h0; omega
        · simp only [Value.slice.injEq] at hv
          exact ⟨g, hv.1⟩
      have hx := index_at (a := ⟨g0, 0, none⟩) (len := j) (cap := uc) Try.elemStrs Try.sizeStrs i rfl (by omega)
      simp only [Addr.add_mid, Nat.zero_add] at hx
      have hcell : ∃ y, wr.cell? ⟨g0, i, none⟩ = some y := by
        have := World.ownsRow.cellAt (g := g0) (cap := uc) (n := (nowL (padTo L j)).length) (by have := hI.out.row; unfold OwnStrs at this; rw [hnl] at this ⊢; exact this) i (by rw [hnl]; omega)
        exact ⟨_, this.trans (List.getElem?_eq_getElem (by rw [strC_length, hnl]; omega))⟩
      obtain ⟨y, hcell⟩ := hcell
      have hgfr : wr.frozen? ⟨g0, i, none⟩ = false := World.ownsRow.frozenAt (g := g0) (cap := uc) (n := (nowL (padTo L j)).length) (by have := hI.out.row; unfold OwnStrs at this; rw [hnl] at this ⊢; exact this) i
      have hne : g0 ≠ rb := by
        intro e
        subst e
        rcases hI.out.row.2 with ⟨hv, h0⟩ | ⟨g, cap', cur, hv, _, hgg, _⟩
        · cases hv
        · simp only [Value.slice.injEq, Option.some.injEq, Addr.mk.injEq, and_true] at hv
          obtain ⟨rfl, _⟩ := hv
          have := hI.out.obj
          rw [hgg] at this
          simp at this
      have I8 := hI.out.set hnl.symm i s
      have hoI := I8.obj
      have hrL := I8.rowL
      rw [hpad] at hrL
      rw [hpad] at hll
      obtain ⟨d0, d1, d2⟩ := cells3c hoI
      have hfr8 := frozen_rowL hoI
      have hlt := lt_of_heap hI.out.obj
      rw [hpad] at I8 d2 hoI
      replace I8 := hid I8
      replace hoI := hid hoI
      replace hrL := hid hrL
      clear hI hpad
      have hin : i < (padTo L (i + 1)).length := by rw [padTo_length]; omega
      have hRLl : withL (looseL (padTo L (i + 1)) 0) (i : Int) = looseL RL 0 := by
        have := loose_set (padTo L (i + 1)) i hin 0 ⟨s, ((padTo L (i + 1)).getD i noSh).syn, true⟩ rfl
        rw [Nat.zero_add] at this
        rw [HWs.out, this]
      have hRLn : (nowL (padTo L (i + 1))).set i s = nowL RL := by
        rw [HWs.out]
        simp [nowL, List.map_set]
      replace hRLl := hid hRLl
      replace hRLn := hid hRLn
      clear HWs
      go_wp2_with fail
      refine (with_any _ (i : Int) _ B _ hrL.out (by simp; omega) (by omega)).mono ?_
      rw [hRLl.out]
      rintro e w9 ⟨u9, rfl, U9, B9⟩
      have ho9 := (B9.block rb (by simpa using hlt)).trans hoI.out
      obtain ⟨f0, f1, f2⟩ := cells3c ho9
      have hfr9 := frozen_rowL ho9
      obtain ⟨lo9, lc9, rfl⟩ := U9.slice
      have HB9 := hid B9
      replace U9 := hid U9
      replace ho9 := hid ho9
      have hs9 := B9.size
      clear B9
      go_wp2
      go_ret
      have e1 := heap_setCell_same _ rb 0 _ _ (Value.slice (some ⟨g0, 0, none⟩) j uc) ho9.out
      have e2 := heap_setCell_same _ rb 2 _ _ (Value.slice lo9 (looseL RL 0).length lc9) e1
      have rV := I8.out.row.below HB9.out
      rw [hRLn.out] at rV
      have gD : OwnStrs w9 B vD D := H.out.rowD.block (fun b cs fr hb => (grown_seq I8.out.grown (grown_below HB9.out)).block b (lt_of_heap hb) (by
        intro e
        simp only [Option.some.injEq] at e
        subst e
        rw [H.out.obj] at hb
        simp at hb))
      refine ⟨rfl, _, _, _, RfAt.of ho9.out H.out.base e2 (fun b hb => ?_) (rV.mono hbl) gD U9.out (by rw [nowL_length]; exact hwl) H.out.lenD (looseL_le400 RL hwl), grown_rb (grown_rb (grown_seq I8.out.grown (grown_below HB9.out)) _ _) _ _⟩
      rw [Below.heap_setCell _ _ _ _ hb, Below.heap_setCell _ _ _ _ hb]
end Go.Proofs.Ytehfhacghfagoaa
