/- Contracts of the reference's Sync, NewFile and Write. -/
import Derived.Test.YtehfhacghfagoaaRf
namespace Go.Proofs.Ytehfhacghfagoaa
open Go.RowKit

theorem grown_weak {w w1 : World} (h : w.grownBy w1 none) (rb : Nat) : w.grownBy w1 (some rb) := ⟨h.os, h.tape, h.output, h.size, fun k hk _ => h.block k hk (by simp)⟩
theorem grown_rb {w w1 : World} {rb : Nat} (h : w.grownBy w1 (some rb)) (o : Nat) (u : Value) : w.grownBy (w1.setCell ⟨rb, o, none⟩ u) (some rb) :=
  ⟨h.os, h.tape, h.output, by simpa using h.size, fun k hk hne => (Below.heap_setCell w1 ⟨rb, o, none⟩ u k (fun e => hne (by rw [show k = rb from e]))).trans (h.block k hk hne)⟩
theorem grown_seq {w w1 w2 : World} {row : Option Nat} (h : w.grownBy w1 row) (g : w1.grownBy w2 row) : w.grownBy w2 row :=
  ⟨g.os.trans h.os, g.tape.trans h.tape, g.output.trans h.output, Nat.le_trans h.size g.size, fun k hk hne => (g.block k (Nat.lt_of_lt_of_le hk h.size) hne).trans (h.block k hk hne)⟩
theorem grown_below {w w1 : World} {row : Option Nat} (h : Below w.heap.size w w1) : w.grownBy w1 row := ⟨h.os, h.tape, h.output, h.size, fun k hk _ => h.block k hk⟩
theorem grown_none_below {w w1 : World} (h : w.grownBy w1 none) : Below w.heap.size w w1 := ⟨h.os, h.tape, h.output, h.size, fun k hk => h.block k hk (by simp)⟩
theorem grown_lt {w w1 : World} {rb B : Nat} (h : w.grownBy w1 (some rb)) (hB : B ≤ rb) (hs : B ≤ w.heap.size) : Below B w w1 := ⟨h.os, h.tape, h.output, h.size, fun k hk => h.block k (by omega) (by simp; omega)⟩
theorem RfAt.of {w1 w2 : World} {B rb : Nat} {cs : Array Value} {uV uD uL : Value} {V D : List ByteArray} {Ls : List Int} (h1 : w1.heap[rb]? = some (.cells cs 40 (0, 0))) (hB : B ≤ rb)
    (hobj : w2.heap[rb]? = some (.cells #[uV, uD, uL] 40 (0, 0))) (hne : ∀ b, b ≠ rb → w2.heap[b]? = w1.heap[b]?) (rV : OwnStrs w1 B uV V) (rD : OwnStrs w1 B uD D) (rL : OwnInts w1 B uL Ls) (lV : V.length ≤ 400) (lD : D.length ≤ 400) (lL : Ls.length ≤ 400) : RfAt w2 B rb uV uD uL V D Ls := by
  have hk : ∀ (b : Nat) (cs' : Array Value) (T : TypeId) (fr : Nat × Nat), w1.heap[b]? = some (Obj.cells cs' T fr) → T ≠ 40 → w2.heap[b]? = w1.heap[b]? := by
    intro b cs' T fr hb hT
    refine hne b (fun e => ?_)
    subst e
    rw [h1] at hb
    simp only [Option.some.injEq, Obj.cells.injEq] at hb
    exact hT hb.2.1.symm
  exact ⟨hobj, hB, rV.block (fun b cs fr hb => hk b cs _ fr hb (by decide)), rD.block (fun b cs fr hb => hk b cs _ fr hb (by decide)), rL.block (fun b cs fr hb => hk b cs _ fr hb (by decide)), lV, lD, lL⟩

set_option maxRecDepth 10000 in
set_option maxHeartbeats 4000000 in
theorem rsync_any (w : World) (B rb : Nat) (vV vD vL : Value) (V D : List ByteArray) (Ls : List Int) (h : RfAt w B rb vV vD vL V D Ls) :
    Calls Try.prog 14 #[.pointer (some ⟨rb, 0, none⟩)] w fun e w' => e = .returned (.tuple #[]) ∧ ∃ uV uD uL, RfAt w' B rb uV uD uL V V [] ∧ w.grownBy w' (some rb) := by
  obtain ⟨c0, c1, c2⟩ := cells3c h.obj
  have hfr := frozen_rowL h.obj
  obtain ⟨ao, cap, rfl⟩ := h.rowV.slice
  have hlV := h.lenV
  have H := hid h
  have HC := hid (fun ty => copy_strs (C := B) h.rowV rfl (Below.refl _ w) h.baseLe (by omega) ty)
  clear h
  go_enter Try.func14, Try.ntmps14
  go_wp2_with (first
    | (at_builtin; refine wpList_append_any rfl (.const (.slice none 0 0)) (.tmp 7) 22 rfl _ _ rfl rfl (HC.out _) ?_; rintro v1 w1 ⟨h1, g1⟩; obtain ⟨ao1, cp1, rfl⟩ := h1.slice; have hobj1 := (g1.block rb H.out.lt (by simp)).trans H.out.obj; obtain ⟨d0, d1, d2⟩ := cells3c hobj1; have hfr1 := frozen_rowL hobj1; replace hobj1 := hid hobj1; replace h1 := hid h1; replace g1 := hid g1)
    | fail)
  go_end0
  have e1 := heap_setCell_same _ rb 1 _ _ (Value.slice ao1 V.length cp1) hobj1.out
  have e2 := heap_setCell_same _ rb 2 _ _ (Value.slice none 0 0) e1
  refine ⟨rfl, _, _, _, RfAt.of hobj1.out H.out.base e2 (fun b hb => ?_) (H.out.rowV.below (grown_none_below g1.out)) h1.out (OwnInts.nil _ _) hlV hlV (by simp), grown_rb (grown_rb (grown_weak g1.out rb) _ _) _ _⟩
  rw [Below.heap_setCell _ _ _ _ hb, Below.heap_setCell _ _ _ _ hb]

set_option maxRecDepth 10000 in
set_option maxHeartbeats 4000000 in
theorem rnew_any (ss : List ByteArray) (v : Value) (w : World) (h : StrsAt w v ss) (hl : ss.length ≤ 400) (hn : ∀ n c, v = .slice none n c → c = 0) :
    Calls Try.prog 10 #[v] w fun e w' => ∃ rb uV uD uL, e = .returned (.pointer (some ⟨rb, 0, none⟩)) ∧ RfAt w' w.heap.size rb uV uD uL ss ss [] ∧ Below w.heap.size w w' := by
  obtain ⟨ao, cap, rfl, ⟨_, hcap⟩, h3⟩ := h
  have hcut := fun W => cut_head (ao := ao) (len := ss.length) (cap := cap) (n := ss.length) Try.elemStrs Try.sizeStrs hcap W
  have hmin := fun ats ty => minInt ats ty ss.length 400
  rw [show min ss.length 400 = ss.length by omega] at hmin
  have hsrc : ∀ X, Below w.heap.size w X → (strC ss = [] ∨ ∃ a, ao = some a ∧ ∀ j u, (strC ss)[j]? = some u → X.cell? (a.add j) = some u) := by
    intro X hX
    by_cases h0 : 0 < ss.length
    · obtain ⟨a, ha, _⟩ := h3 0 h0
      refine .inr ⟨a, ha, fun j u hu => ?_⟩
      have hj : j < ss.length := by have := (List.getElem?_eq_some_iff.1 hu).1; rwa [strC_length] at this
      obtain ⟨a', ha', hc, _⟩ := h3 j hj
      rw [ha] at ha'
      cases ha'
      rw [hX.cell (p := a.add j) (World.block_lt_of_cell? w _ hc), hc, ← hu]
      simp [strC, hj]
    · exact .inl (List.length_eq_zero_iff.1 (by rw [strC_length]; omega))
  have hnil : ao = none → cap = 0 := fun e => hn _ _ (by rw [e])
  have HC : Hid (∀ X, Below w.heap.size w X → ∀ ty, ∃ v' w', (Builtin.append_ #[22, 22] ty #[.slice none 0 0, .slice ao ss.length cap]).run Try.prog X = .ok v' w' ∧ OwnStrs w' w.heap.size v' ss ∧ Below w.heap.size w w' ∧ X.grownBy w' none) := hid (by
    intro X hX ty
    obtain ⟨v', w', e1, e2, e3⟩ := app_strs (.slice none 0 0) [] (OwnStrs.nil X w.heap.size) ty ao cap ss (hsrc X hX) hnil hX.size (by simp; omega)
    exact ⟨v', w', e1, by simpa using e2, (OwnStrs.nil X w.heap.size).after hX hX.size e3, e3⟩)
  have bX : Hid (Below w.heap.size w w.drew) := hid ⟨rfl, rfl, rfl, Nat.le_refl _, fun _ _ => rfl⟩
  clear hsrc hnil h3 hn
  go_enter Try.func10, Try.ntmps10
  go_wp2
  go_region_law (first
    | (refine step_append_any rfl (.const (.slice none 0 0)) (.tmp 9) 22 rfl _ _ rfl rfl (HC.out _ bX.out _) ?_; rintro v1 w1 ⟨h1, b1, g1⟩; obtain ⟨ao1, cp1, rfl⟩ := h1.slice; replace h1 := hid h1; replace bX := hid b1; (first | (replace h2 := hid (h2.out.below (grown_none_below g1))) | skip); clear g1 b1)
    | (refine step_append_any rfl (.const (.slice none 0 0)) (.tmp 13) 22 rfl _ _ rfl rfl (HC.out _ bX.out _) ?_; rintro v2 w2 ⟨h2, b2, g2⟩; obtain ⟨ao2, cp2, rfl⟩ := h2.slice; replace h2 := hid h2; replace bX := hid b2; (first | (replace h1 := hid (h1.out.below (grown_none_below g2))) | skip); clear g2 b2))
  all_goals go_wp2
  all_goals go_ret
  all_goals exact ⟨_, _, _, _, rfl, ⟨heap_newL _ _, bX.out.size, h1.out.alloc _, h2.out.alloc _, OwnInts.nil _ _, hl, hl, by simp⟩, bX.out.alloc bX.out.size _⟩
end Go.Proofs.Ytehfhacghfagoaa
