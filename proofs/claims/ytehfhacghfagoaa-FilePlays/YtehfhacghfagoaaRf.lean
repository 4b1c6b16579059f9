/- The reference's file in memory; contracts of its at, Read, Sync, NewFile. -/
import Derived.Test.YtehfhacghfagoaaFr
namespace Go.Proofs.Ytehfhacghfagoaa
open Go.RowKit

def strC (l : List ByteArray) : List Value := l.map Value.string
theorem strC_length (l : List ByteArray) : (strC l).length = l.length := by simp [strC]
theorem strC_append (l m : List ByteArray) : strC (l ++ m) = strC l ++ strC m := by simp [strC]
theorem strC_one (l : List ByteArray) : ∀ u ∈ strC l, u.oneCell' = true := by
  intro u hu
  obtain ⟨x, _, rfl⟩ := List.mem_map.1 hu
  rfl
/-- A row of texts of the call's own. -/
def OwnStrs (w : World) (B : Nat) (v : Value) (l : List ByteArray) : Prop := w.ownsRow B 9 1 v l.length (strC l)
theorem OwnStrs.nil (w : World) (B : Nat) : OwnStrs w B (.slice none 0 0) [] := World.ownsRow_nil _ _ _ _
theorem OwnStrs.alloc {w : World} {B : Nat} {v : Value} {l : List ByteArray} (h : OwnStrs w B v l) (o : Obj) : OwnStrs (w.alloc o) B v l := World.ownsRow.alloc h o
theorem OwnStrs.slice {w : World} {base : Nat} {v : Value} {l : List ByteArray} (h : OwnStrs w base v l) : ∃ ao cap, v = .slice ao l.length cap := by
  rcases h.2 with ⟨rfl, h0⟩ | ⟨g, cap, cur, rfl, _⟩
  · exact ⟨none, 0, by rw [h0]⟩
  · exact ⟨_, _, rfl⟩
theorem OwnStrs.mono {w : World} {B C : Nat} {v : Value} {l : List ByteArray} (h : OwnStrs w B v l) (hC : C ≤ B) : OwnStrs w C v l := by
  obtain ⟨h1, h2⟩ := h
  refine ⟨h1, ?_⟩
  rcases h2 with h2 | ⟨g, cap, cur, rfl, hb, rest⟩
  · exact .inl h2
  · exact .inr ⟨g, cap, cur, rfl, by omega, rest⟩
theorem OwnStrs.block {w w' : World} {base : Nat} {u : Value} {l : List ByteArray} (h : OwnStrs w base u l) (hk : ∀ (b : Nat) (cs : Array Value) (fr : Nat × Nat), w.heap[b]? = some (Obj.cells cs 9 fr) → w'.heap[b]? = w.heap[b]?) : OwnStrs w' base u l := by
  refine ⟨h.1, ?_⟩
  rcases h.2 with hn | ⟨g, cap, cur, rfl, hb, hgg, rest⟩
  · exact .inl hn
  · exact .inr ⟨g, cap, cur, rfl, hb, (hk g _ _ hgg).trans hgg, rest⟩
theorem OwnStrs.below {w w' : World} {base : Nat} {u : Value} {l : List ByteArray} (h : OwnStrs w base u l) (hb : Below w.heap.size w w') : OwnStrs w' base u l :=
  h.block fun b _ _ hh => hb.block b (lt_of_heap hh)
theorem OwnStrs.after {w w0 w' : World} {B : Nat} {v : Value} {l : List ByteArray} (h : OwnStrs w B v l) (hb : Below B w0 w) (hB : B ≤ w.heap.size) (hg : w.grownBy w' v.ownBlock) : Below B w0 w' :=
  hb.grown hg hB (fun r hr => (World.ownsRow.lt h r hr).1)
/-- What there is to copy from. -/
theorem OwnStrs.src {w : World} {B cap : Nat} {ao : Option Addr} {n : Nat} {l : List ByteArray} (h : OwnStrs w B (.slice ao n cap) l) (hn : n = l.length) :
    l.length ≤ cap ∧ (ao = none → cap = 0) ∧ ∀ X, Below w.heap.size w X → (strC l = [] ∨ ∃ a, ao = some a ∧ ∀ j u, (strC l)[j]? = some u → X.cell? (a.add j) = some u) := by
  subst hn
  rcases h.2 with ⟨hv, h0⟩ | ⟨g, cap', cur, hv, hb, hg, hc, hm, _⟩
  · simp only [Value.slice.injEq] at hv
    obtain ⟨rfl, _, rfl⟩ := hv
    exact ⟨by omega, fun _ => rfl, fun X hX => .inl (List.length_eq_zero_iff.1 (by rw [strC_length]; exact h0))⟩
  · simp only [Value.slice.injEq, true_and] at hv
    obtain ⟨rfl, rfl⟩ := hv
    refine ⟨hc, fun e => (by cases e), fun X hX => .inr ⟨_, rfl, fun j u hu => ?_⟩⟩
    have hj : j < l.length := by have := (List.getElem?_eq_some_iff.1 hu).1; rwa [strC_length] at this
    have h3 : w.cell? ⟨g, j, none⟩ = some u := (World.ownsRow.cellAt h j (by omega)).trans hu
    rw [Addr.add_mid, Nat.zero_add, hX.cell (p := ⟨g, j, none⟩) (World.block_lt_of_cell? w _ h3)]
    exact h3
theorem Try.infoStr : (Try.prog.info? 9).map (fun i => (i.zero, i.size, i.bytes)) = some (some (.string ⟨#[]⟩), 1, 16) := by kernel_rfl
theorem app_strs {w : World} {B : Nat} (v : Value) (xs : List ByteArray) (h : OwnStrs w B v xs) (ty : TypeId) (ao : Option Addr) (cap : Nat) (news : List ByteArray)
    (hc : strC news = [] ∨ ∃ a, ao = some a ∧ ∀ j u, (strC news)[j]? = some u → w.cell? (a.add j) = some u) (hnil : ao = none → cap = 0) (hB : B ≤ w.heap.size) (hl : xs.length + news.length ≤ 1000) :
    ∃ v' w', (Builtin.append_ #[22, 22] ty #[v, .slice ao news.length cap]).run Try.prog w = .ok v' w' ∧ OwnStrs w' B v' (xs ++ news) ∧ w.grownBy w' v.ownBlock := by
  obtain ⟨i0, hi, hz0, hz1, hz2⟩ := info_parts Try.infoStr
  by_cases hn : news = []
  · subst hn
    cases ao with
    | none =>
      have hcap := hnil rfl
      subst hcap
      exact ⟨v, w, run_append_owned_none (P := Try.prog) (w := w) B 22 ty 9 i0 1 Try.underlying22 hi v xs.length (strC xs) h, by simpa using h, World.grownBy.refl _ _⟩
    | some a =>
      obtain ⟨v', w', h1, h2, h3, h4⟩ := run_append_own (P := Try.prog) w B 22 ty 9 i0 (.string ⟨#[]⟩) 1 16 Try.underlying22 hi hz0 hz1 hz2 rfl (by omega) v xs.length (strC xs) h a 0 cap [] rfl (by simp) (by simp) (by unfold maxLen; simp at hl; omega) (by simp at hl; omega) hB
      exact ⟨v', w', h1, by simpa [OwnStrs] using h2, h3⟩
  · obtain ⟨a, rfl, hcell⟩ := hc.resolve_left (fun e => hn (List.length_eq_zero_iff.1 (by rw [← strC_length, e]; rfl)))
    obtain ⟨v', w', h1, h2, h3, h4⟩ := run_append_own (P := Try.prog) w B 22 ty 9 i0 (.string ⟨#[]⟩) 1 16 Try.underlying22 hi hz0 hz1 hz2 rfl (by omega) v xs.length (strC xs) h a news.length cap (strC news) (by rw [strC_length]; omega) hcell (strC_one _) (by unfold maxLen; omega) (by omega) hB
    exact ⟨v', w', h1, by unfold OwnStrs; rw [strC_append, List.length_append]; exact h2, h3⟩
/-- A copy of a row, as append(nil, row...) makes it. -/
theorem copy_strs {w X : World} {B C cap n : Nat} {ao : Option Addr} {l : List ByteArray} (h : OwnStrs w B (.slice ao n cap) l) (hn : n = l.length) (hX : Below w.heap.size w X) (hC : C ≤ X.heap.size) (hl : l.length ≤ 1000) (ty : TypeId) :
    ∃ v' w', (Builtin.append_ #[22, 22] ty #[.slice none 0 0, .slice ao n cap]).run Try.prog X = .ok v' w' ∧ OwnStrs w' C v' l ∧ X.grownBy w' none := by
  obtain ⟨h1, h2, h3⟩ := h.src hn
  subst hn
  obtain ⟨v', w', e1, e2, e3⟩ := app_strs (.slice none 0 0) [] (OwnStrs.nil X C) ty ao cap l (h3 X hX) h2 hC (by simp; omega)
  exact ⟨v', w', e1, by simpa using e2, e3⟩
theorem OwnStrs.at {w : World} {base : Nat} {v : Value} {l : List ByteArray} (h : OwnStrs w base v l) (hs : ∀ x ∈ l, x.size ≤ maxLen) (hl : l.length ≤ maxLen) : StrsAt w v l := by
  obtain ⟨ao, cap, rfl⟩ := h.slice
  obtain ⟨h1, h2, h3⟩ := h.src rfl
  refine ⟨ao, cap, rfl, ⟨hl, h1⟩, fun i hi => ?_⟩
  rcases h3 w (Below.refl _ _) with e | ⟨a, ha, hc⟩
  · have : l.length = 0 := by rw [← strC_length, e]; rfl
    omega
  · exact ⟨a, ha, hc i _ (by simp [strC, hi]), hs _ (List.getElem_mem hi)⟩

/-- The reference's file in block rb. -/
structure RfAt (w : World) (B rb : Nat) (vV vD vL : Value) (V D : List ByteArray) (Ls : List Int) : Prop where
  obj : w.heap[rb]? = some (.cells #[vV, vD, vL] 40 (0, 0))
  base : B ≤ rb
  rowV : OwnStrs w B vV V
  rowD : OwnStrs w B vD D
  rowL : OwnInts w B vL Ls
  lenV : V.length ≤ 400
  lenD : D.length ≤ 400
  lenL : Ls.length ≤ 400
theorem RfAt.lt {w : World} {B rb : Nat} {vV vD vL : Value} {V D : List ByteArray} {Ls : List Int} (h : RfAt w B rb vV vD vL V D Ls) : rb < w.heap.size := lt_of_heap h.obj
theorem RfAt.baseLe {w : World} {B rb : Nat} {vV vD vL : Value} {V D : List ByteArray} {Ls : List Int} (h : RfAt w B rb vV vD vL V D Ls) : B ≤ w.heap.size := by have := h.lt; have := h.base; omega
theorem RfAt.kept {w w' : World} {B rb : Nat} {vV vD vL : Value} {V D : List ByteArray} {Ls : List Int} (h : RfAt w B rb vV vD vL V D Ls) (hk : ∀ (b : Nat) (cs : Array Value) (T : TypeId) (fr : Nat × Nat), w.heap[b]? = some (Obj.cells cs T fr) → T = 9 ∨ T = 3 ∨ T = 40 → w'.heap[b]? = w.heap[b]?) : RfAt w' B rb vV vD vL V D Ls :=
  ⟨(hk rb _ _ _ h.obj (.inr (.inr rfl))).trans h.obj, h.base, h.rowV.block (fun b cs fr hb => hk b cs _ fr hb (.inl rfl)), h.rowD.block (fun b cs fr hb => hk b cs _ fr hb (.inl rfl)), h.rowL.block (fun b cs fr hb => hk b cs _ fr hb (.inr (.inl rfl))), h.lenV, h.lenD, h.lenL⟩
theorem RfAt.below {w w' : World} {B rb : Nat} {vV vD vL : Value} {V D : List ByteArray} {Ls : List Int} (h : RfAt w B rb vV vD vL V D Ls) (hb : Below w.heap.size w w') : RfAt w' B rb vV vD vL V D Ls :=
  h.kept fun b _ _ _ hh _ => hb.block b (lt_of_heap hh)
theorem RfAt.fo {w w' : World} {B B' rb fb : Nat} {vV vD vL v v' : Value} {V D : List ByteArray} {Ls : List Int} {m : List Sh} (h : RfAt w B rb vV vD vL V D Ls) (hf : FileAt w B' fb v m) (ho : Fo fb w v w' v') : RfAt w' B rb vV vD vL V D Ls :=
  h.kept fun b cs T fr hh hT => ho.keeps hf hh (by rcases hT with rfl | rfl | rfl <;> decide) (by rcases hT with rfl | rfl | rfl <;> decide)
/-- What the reference turns is its own block. -/
theorem FileAt.rf {w w' : World} {B B' rb fb : Nat} {v vV vD vL : Value} {l : List Sh} {V D : List ByteArray} {Ls : List Int} (h : FileAt w B fb v l) (hr : RfAt w B' rb vV vD vL V D Ls) (hg : w.grownBy w' (some rb)) : FileAt w' B fb v l := by
  have hne : ∀ (b : Nat) (cs : Array Value) (T : TypeId) (fr : Nat × Nat), w.heap[b]? = some (Obj.cells cs T fr) → T ≠ 40 → w'.heap[b]? = w.heap[b]? := by
    intro b cs T fr hb hT
    refine hg.block b (lt_of_heap hb) (fun e => ?_)
    simp only [Option.some.injEq] at e
    subst e
    rw [hr.obj] at hb
    simp only [Option.some.injEq, Obj.cells.injEq] at hb
    exact hT hb.2.1.symm
  refine h.kept (hne fb _ _ _ h.obj (by decide)) (fun g e => ?_)
  rcases h.row.2 with ⟨rfl, _⟩ | ⟨g', cap, cur, rfl, _, hgg, _⟩
  · simp [Value.ownBlock] at e
  · simp [Value.ownBlock] at e
    subst e
    exact hne _ _ _ _ hgg (by decide)
theorem cells3c {w : World} {b : Nat} {x y z : Value} {T : TypeId} (h : w.heap[b]? = some (.cells #[x, y, z] T (0, 0))) : w.cell? ⟨b, 0, none⟩ = some x ∧ w.cell? ⟨b, 1, none⟩ = some y ∧ w.cell? ⟨b, 2, none⟩ = some z :=
  ⟨cell_rowL h 0, cell_rowL h 1, cell_rowL h 2⟩

def atL (l : List ByteArray) (i : Int) : ByteArray := if 0 ≤ i then l.getD i.toNat ⟨#[]⟩ else ⟨#[]⟩
theorem rat_any (w : World) (B : Nat) (v : Value) (l : List ByteArray) (i : Int) (h : OwnStrs w B v l) (_hl : l.length ≤ 400) :
    Calls Try.prog 28 #[v, .int .i64 i] w fun e w' => e = .returned (.string (atL l i)) ∧ w' = w := by
  obtain ⟨ao, cap, rfl⟩ := h.slice
  obtain ⟨h1, h2, h3⟩ := h.src rfl
  have h4 := h3 w (Below.refl _ _)
  clear h3 h
  by_cases h0 : i < 0
  · have hr : atL l i = ⟨#[]⟩ := if_neg (by omega)
    rw [hr]
    clear hr h4
    go_enter Try.func28, Try.ntmps28
    go_wp2
    go_ret
    exact ⟨rfl, rfl⟩
  · obtain ⟨k, rfl⟩ : ∃ k : Nat, i = (k : Int) := ⟨i.toNat, by omega⟩
    by_cases hk : k < l.length
    · have hr : atL l (k : Int) = l[k] := by simp [atL, hk]
      obtain ⟨a, ha, hc⟩ := h4.resolve_left (fun e => by have : l.length = 0 := by rw [← strC_length, e]; rfl
                                                         omega)
      have hx := index_at (len := l.length) (cap := cap) Try.elemStrs Try.sizeStrs k ha hk
      have hcc := hc k (.string l[k]) (by simp [strC, hk])
      rw [hr]
      clear hr h4 hc ha h0
      generalize l[k] = s at *
      go_enter Try.func28, Try.ntmps28
      go_wp2
      go_ret
      exact ⟨rfl, rfl⟩
    · have hr : atL l (k : Int) = ⟨#[]⟩ := by simp [atL, List.getElem?_eq_none (Nat.le_of_not_lt hk)]
      rw [hr]
      clear hr h4
      go_enter Try.func28, Try.ntmps28
      go_wp2
      go_ret
      exact ⟨rfl, rfl⟩
theorem rread_any (w : World) (B rb : Nat) (vV vD vL : Value) (V D : List ByteArray) (Ls : List Int) (i : Int) (h : RfAt w B rb vV vD vL V D Ls) :
    Calls Try.prog 21 #[.pointer (some ⟨rb, 0, none⟩), .int .i64 i] w fun e w' => e = .returned (.string (atL V i)) ∧ w' = w := by
  obtain ⟨c0, _, _⟩ := cells3c h.obj
  have HA := hid (rat_any w B vV V i h.rowV h.lenV)
  obtain ⟨ao, cap, rfl⟩ := h.rowV.slice
  clear h
  go_enter Try.func21, Try.ntmps21
  go_wp2_with fail
  refine HA.out.mono ?_
  rintro e w1 ⟨rfl, rfl⟩
  go_wp2
  go_ret
  exact ⟨rfl, rfl⟩
end Go.Proofs.Ytehfhacghfagoaa
