/- The reference's Procs in memory; contracts of its Lives, Kill and Spawn. -/
import Derived.Test.YtdjhlgcbjdohiaaDoorZh
import Derived.Test.YtdjhlgcbjdohiaaDoorJl
import Derived.RegionTactic
namespace Go.Proofs.YtdjhlgcbjdohiaaDoor
open Go.RowKit

/-- What a method of the object turns is no row of another's. -/
theorem OwnInts.po {w w' : World} {base B pb cb n : Nat} {u v v' : Value} {last : Int} {l m : List Int} (h : OwnInts w base u m) (hP : ProcsAt w B pb cb v last l n) (ho : Po pb cb w v w' v') (hne : ∀ g, u.ownBlock = some g → v.ownBlock ≠ some g) : OwnInts w' base u m := by
  refine h.kept (fun g hg => ?_)
  obtain ⟨cur, hc⟩ := own_block h hg
  refine ho.block g (lt_of_heap hc) (fun e => ?_) (fun e => ?_) (hne g hg)
  · subst e
    have := hP.obj
    rw [hc] at this
    simp at this
  · subst e
    obtain ⟨s, r, hch⟩ := hP.ch
    rw [hc] at hch
    simp at hch
theorem OwnInts.below {w w' : World} {base : Nat} {u : Value} {l : List Int} (h : OwnInts w base u l) (hb : Below w.heap.size w w') : OwnInts w' base u l :=
  h.kept (fun g hg => hb.block g (World.ownsRow.lt h g hg).2)
/-- The reference's object in block rb, the row of those that live u, all of it from block B on. -/
structure RpAt (w : World) (B rb : Nat) (u : Value) (last : Int) (l : List Int) : Prop where
  obj : w.heap[rb]? = some (.cells #[u, .int .i64 last] 38 (0, 0))
  base : B ≤ rb
  row : OwnInts w B u l
theorem RpAt.lt {w : World} {B rb : Nat} {u : Value} {last : Int} {l : List Int} (h : RpAt w B rb u last l) : rb < w.heap.size := lt_of_heap h.obj
theorem RpAt.baseLe {w : World} {B rb : Nat} {u : Value} {last : Int} {l : List Int} (h : RpAt w B rb u last l) : B ≤ w.heap.size := by have := h.lt; have := h.base; omega
theorem RpAt.rowLt {w : World} {B rb : Nat} {u : Value} {last : Int} {l : List Int} (h : RpAt w B rb u last l) : ∀ g, u.ownBlock = some g → B ≤ g ∧ g < w.heap.size := World.ownsRow.lt h.row
theorem RpAt.kept {w w' : World} {B rb : Nat} {u : Value} {last : Int} {l : List Int} (h : RpAt w B rb u last l) (ho : w'.heap[rb]? = w.heap[rb]?) (hr : ∀ g, u.ownBlock = some g → w'.heap[g]? = w.heap[g]?) : RpAt w' B rb u last l := ⟨ho.trans h.obj, h.base, h.row.kept hr⟩
theorem RpAt.below {w w' : World} {B rb : Nat} {u : Value} {last : Int} {l : List Int} (h : RpAt w B rb u last l) (hb : Below w.heap.size w w') : RpAt w' B rb u last l :=
  h.kept (hb.block rb h.lt) (fun g hg => hb.block g (h.rowLt g hg).2)
theorem RpAt.own_ne {w : World} {B rb : Nat} {u : Value} {last : Int} {l : List Int} (h : RpAt w B rb u last l) : some rb ≠ u.ownBlock := by
  intro e
  obtain ⟨cur, hc⟩ := own_block h.row e.symm
  have := h.obj
  rw [hc] at this
  simp at this
/-- Another number given last. -/
theorem RpAt.put1 {w : World} {B rb : Nat} {u : Value} {last : Int} {l : List Int} (h : RpAt w B rb u last l) (last' : Int) : RpAt (w.setCell ⟨rb, 1, none⟩ (.int .i64 last')) B rb u last' l := by
  refine ⟨heap_setCell_same w rb 1 _ _ _ h.obj, h.base, h.row.kept (fun g hg => ?_)⟩
  rw [Below.heap_setCell _ _ _ _ (by simp only; rintro rfl; exact h.own_ne hg.symm)]
/-- Another row. -/
theorem RpAt.put0 {w w' : World} {B rb : Nat} {u u' : Value} {last : Int} {l m : List Int} (h : RpAt w B rb u last l) (hp : w'.heap[rb]? = w.heap[rb]?) (hr : OwnInts w' B u' m) : RpAt (w'.setCell ⟨rb, 0, none⟩ u') B rb u' last m := by
  have hob := hp.trans h.obj
  refine ⟨heap_setCell_same w' rb 0 _ _ _ hob, h.base, hr.kept (fun g hg => ?_)⟩
  rw [Below.heap_setCell _ _ _ _ ?_]
  simp only
  rintro rfl
  obtain ⟨cur, hcu⟩ := own_block hr hg
  rw [hcu] at hob
  simp at hob
theorem below_grown {w w1 w2 : World} {r : Option Nat} (h : Below w.heap.size w w1) (g : w1.grownBy w2 r) : w.grownBy w2 r :=
  ⟨g.os.trans h.os, g.tape.trans h.tape, g.output.trans h.output, Nat.le_trans h.size g.size, fun k hk hne => (g.block k (Nat.lt_of_lt_of_le hk h.size) hne).trans (h.block k hk)⟩
theorem grown_trans {w w1 w2 : World} {r : Option Nat} (h : w.grownBy w1 r) (g : w1.grownBy w2 r) : w.grownBy w2 r :=
  ⟨g.os.trans h.os, g.tape.trans h.tape, g.output.trans h.output, Nat.le_trans h.size g.size, fun k hk hne => (g.block k (Nat.lt_of_lt_of_le hk h.size) hne).trans (h.block k hk hne)⟩
theorem grown_below {w w1 w2 : World} {r : Option Nat} (h : w.grownBy w1 r) (g : Below w1.heap.size w1 w2) : w.grownBy w2 r :=
  ⟨g.os.trans h.os, g.tape.trans h.tape, g.output.trans h.output, Nat.le_trans h.size g.size, fun k hk hne => (g.block k (Nat.lt_of_lt_of_le hk h.size)).trans (h.block k hk hne)⟩

set_option maxHeartbeats 1000000 in
theorem rlives_any (w : World) (B rb : Nat) (u : Value) (last x : Int) (l : List Int) (h : RpAt w B rb u last l) (hl : l.length ≤ 1000) :
    Calls Tryd.prog 35 #[.pointer (some ⟨rb, 0, none⟩), .int .i64 x] w fun e w' => e = .returned (.bool (l.contains x)) ∧ w' = w := by
  have hx := cell_rowL h.obj
  have hlt := h.lt
  have HS := hid (has_any l x u B w h.row hl)
  obtain ⟨ao, cap, rfl⟩ := h.row.slice
  clear h
  generalize l.contains x = c at *
  go_enter Tryd.func35, Tryd.ntmps35
  go_wp2_with (go_at_call 59; refine HS.out.mono ?_; rintro e w1 ⟨rfl, rfl⟩)
  go_ret
  exact ⟨rfl, rfl⟩
set_option maxHeartbeats 1000000 in
theorem rkill_not (w : World) (B rb : Nat) (u : Value) (last x : Int) (l : List Int) (h : RpAt w B rb u last l) (hl : l.length ≤ 1000) (hx : ¬ x ∈ l) :
    Calls Tryd.prog 23 #[.pointer (some ⟨rb, 0, none⟩), .int .i64 x] w fun e w' => e = .returned (.int .i64 25) ∧ w' = w := by
  have HS := hid (rlives_any w B rb u last x l h hl)
  have hc : l.contains x = false := by simpa using hx
  rw [hc] at HS
  clear h hx hc
  go_enter Tryd.func23, Tryd.ntmps23
  go_wp2_with (go_at_call 35; refine HS.out.mono ?_; rintro e w1 ⟨rfl, rfl⟩)
  go_ret
  exact ⟨rfl, rfl⟩
set_option maxHeartbeats 1000000 in
theorem rkill_any (w : World) (B rb : Nat) (u : Value) (last x : Int) (l : List Int) (h : RpAt w B rb u last l) (hl : l.length ≤ 1000) (hx : x ∈ l) :
    Calls Tryd.prog 23 #[.pointer (some ⟨rb, 0, none⟩), .int .i64 x] w fun e w' => e = .returned (.int .i64 0) ∧ ∃ u', RpAt w' B rb u' last (killL l x) ∧ w.grownBy w' (some rb) ∧ ∀ g, u'.ownBlock = some g → w.heap.size ≤ g := by
  have HS := hid (rlives_any w B rb u last x l h hl)
  have hc : l.contains x = true := by simpa using hx
  rw [hc] at HS
  have hxx := cell_rowL h.obj
  have hlt := h.lt
  have HW := hid (without_any l x u B w h.row hl)
  rw [show withoutL l x = killL l x from rfl] at HW
  obtain ⟨ao, cap, rfl⟩ := h.row.slice
  have HP := hid h
  clear h hx hc
  go_enter Tryd.func23, Tryd.ntmps23
  go_wp2_with (first
    | (go_at_call 35; refine HS.out.mono ?_; rintro e w1 ⟨rfl, rfl⟩)
    | (go_at_call 45; refine HW.out.mono ?_; rintro e w2 ⟨u2, rfl, ho2, hb2⟩; obtain ⟨ao2, cap2, hu2⟩ := ho2.slice; subst hu2; have hob := (hb2.block rb hlt).trans HP.out.obj; have hx2 := cell_rowL hob; have hz2 := frozen_rowL hob; have hlt2 := lt_of_heap hob; have hr2 := hid (HP.out.put0 (hb2.block rb hlt) (ho2.mono HP.out.baseLe)); have hg2 := hid (fun g hg => (World.ownsRow.lt ho2 g hg).1); have hB2 := hid hb2; clear hob ho2 hb2))
  go_ret
  exact ⟨rfl, _, hr2.out, below_grown hB2.out (grown_setCell _ rb 0 _), hg2.out⟩

set_option maxHeartbeats 1000000 in
theorem rspawn_full (w : World) (B rb : Nat) (u : Value) (last : Int) (l : List Int) (h : RpAt w B rb u last l) (hl : l.length = 64) :
    Calls Tryd.prog 21 #[.pointer (some ⟨rb, 0, none⟩)] w fun e w' => e = .returned (.tuple #[.int .i64 0, .int .i64 26]) ∧ w' = w := by
  have hx := cell_rowL h.obj
  have hlt := h.lt
  obtain ⟨ao, cap, rfl⟩ := h.row.slice
  clear h
  rw [hl] at hx
  go_enter Tryd.func21, Tryd.ntmps21
  go_wp2
  go_ret2
  exact ⟨rfl, rfl⟩
set_option maxRecDepth 10000 in
set_option maxHeartbeats 4000000 in
theorem rspawn_any (w : World) (B rb : Nat) (u : Value) (last : Int) (l : List Int) (h : RpAt w B rb u last l) (hl : l.length < 64) (hlo : 0 ≤ last) (hla : last < 100000) :
    Calls Tryd.prog 21 #[.pointer (some ⟨rb, 0, none⟩)] w fun e w' => e = .returned (.tuple #[.int .i64 (last + 1), .int .i64 0]) ∧ ∃ u', RpAt w' B rb u' (last + 1) (l ++ [last + 1]) ∧ w.grownBy w' (some rb) ∧ ∀ g, u'.ownBlock = some g → w.heap.size ≤ g := by
  obtain ⟨i0, hi, hz0, hz1, hz2⟩ := info_parts Tryd.infoInt
  have hx := cell_rowL h.obj
  have hz := frozen_rowL h.obj
  have hlt := h.lt
  have P2 := h.put1 (last + 1)
  have hw : IntKind.i64.wrap (last + 1) = last + 1 := by rw [IntKind.wrap_i64]; omega
  have G2 := hid (grown_setCell w rb 1 (.int .i64 (last + 1)))
  have hsz : (w.setCell ⟨rb, 1, none⟩ (.int .i64 (last + 1))).heap.size = w.heap.size := by simp
  obtain ⟨ao, cap, rfl⟩ := h.row.slice
  have hx2 := cell_rowL P2.obj
  have hz2' := frozen_rowL P2.obj
  have hlt2 := P2.lt
  obtain ⟨hcap, hnil⟩ : l.length ≤ cap ∧ (ao = none → cap = 0) := by
    rcases h.row.2 with ⟨hv, h0⟩ | ⟨g, cap', cur, hv, _, _, hc, _⟩
    · simp only [Value.slice.injEq] at hv
      obtain ⟨rfl, _, rfl⟩ := hv
      exact ⟨by omega, fun _ => rfl⟩
    · simp only [Value.slice.injEq, true_and] at hv
      obtain ⟨rfl, rfl⟩ := hv
      exact ⟨hc, fun e => by cases e⟩
  clear h
  generalize hW : w.setCell ⟨rb, 1, none⟩ (.int .i64 (last + 1)) = W at *
  replace P2 := hid P2
  replace hsz := hid hsz
  replace hnil := hid hnil
  have A1 : Hid (∀ X, Below W.heap.size W X → ∀ ty, ∃ v' w', (Builtin.append_ #[36, 36] ty #[.slice none 0 0, .slice ao l.length cap]).run Tryd.prog X = .ok v' w' ∧ OwnInts w' W.heap.size v' l ∧ Below W.heap.size W w' ∧ X.grownBy w' none) := hid (by
    intro X hX ty
    have hsrc : l = [] ∨ ∃ a, ao = some a ∧ ∀ j u, (intCells l)[j]? = some u → X.cell? (a.add j) = some u := by
      have H := P2.out.row.below hX
      rcases H.2 with ⟨hv, h0⟩ | ⟨g, cap', cur, hv, _⟩
      · exact .inl (List.length_eq_zero_iff.1 h0)
      · simp only [Value.slice.injEq, true_and] at hv
        obtain ⟨rfl, rfl⟩ := hv
        exact .inr ⟨_, rfl, fun j u hu => by rw [Addr.add_mid, Nat.zero_add]; exact H.cells rfl j u hu⟩
    obtain ⟨v', w', e1, e2, e3⟩ := append_from i0 hi hz0 hz1 hz2 (.slice none 0 0) [] (OwnInts.nil X W.heap.size) ty ao cap l hsrc hnil.out hX.size (by simp; omega)
    exact ⟨v', w', e1, by simpa using e2, (OwnInts.nil X W.heap.size).after hX hX.size e3, e3⟩)
  have A2 : Hid (∀ X, Below W.heap.size W X → ∀ u, OwnInts X W.heap.size u l → ∀ b, X.heap[b]? = some (.cells #[.int .i64 (last + 1)] 3 (0, 0)) → ∀ ty, ∃ v' w', (Builtin.append_ #[36, 36] ty #[u, .slice (some ⟨b, 0, none⟩) 1 1]).run Tryd.prog X = .ok v' w' ∧
      (∃ g cap', v' = .slice (some ⟨g, 0, none⟩) (l.length + 1) cap' ∧ rb < w'.heap.size ∧ (∀ j, w'.cell? ⟨rb, j, none⟩ = #[Value.slice ao l.length cap, .int .i64 (last + 1)][j]?) ∧ (∀ j, w'.frozen? ⟨rb, j, none⟩ = false) ∧
        Hid (RpAt (w'.setCell ⟨rb, 0, none⟩ v') B rb v' (last + 1) (l ++ [last + 1]) ∧ w.grownBy (w'.setCell ⟨rb, 0, none⟩ v') (some rb) ∧ w.heap.size ≤ g))) := hid (by
    intro X hX u hu b hbk ty
    obtain ⟨g, cap', w', e1, e2, e3, e4⟩ := push_one i0 hi hz0 hz1 hz2 u l (last + 1) hu ty b hbk hX.size (by omega)
    have hB := hu.after hX hX.size e3
    have hob := (hB.block rb hlt2).trans P2.out.obj
    refine ⟨_, w', e1, g, cap', rfl, lt_of_heap hob, cell_rowL hob, frozen_rowL hob, P2.out.put0 (hB.block rb hlt2) (e2.mono P2.out.baseLe), grown_trans (grown_below G2.out hB) (grown_setCell _ rb 0 _), ?_⟩
    have := (World.ownsRow.lt e2 g rfl).1
    rw [← hsz.out]
    exact this)
  have b0 : Below W.heap.size W W.drew := ⟨rfl, rfl, rfl, Nat.le_refl _, fun _ _ => rfl⟩
  have bA := hid (b0.alloc (Nat.le_refl _) (.cells #[.int .i64 (last + 1)] 3))
  replace b0 := hid b0
  have hbl : Hid (∀ w1, Below W.heap.size W w1 → rb < w1.heap.size ∧ (∀ j, w1.cell? ⟨rb, j, none⟩ = #[Value.slice ao l.length cap, .int .i64 (last + 1)][j]?)) := hid (fun w1 hb => ⟨Nat.lt_of_lt_of_le hlt2 hb.size, cell_rowL ((hb.block rb hlt2).trans P2.out.obj)⟩)
  go_enter Tryd.func21, Tryd.ntmps21
  go_wp2_with fail
  clear hx hz
  go_region_law (first
    | (refine step_append_any rfl (.const (.slice none 0 0)) (.tmp 22) 36 rfl _ _ rfl rfl (A1.out _ (by first | exact b0.out | exact bA.out) _) ?_; rintro v1 w1 ⟨h1, b1, g1⟩; have hk1 : w1.heap.size = w1.heap.size := rfl; (first | (have hk1 := (g1.block W.heap.size (by simp) (by simp)).trans (heap_newL W.drew (.cells #[.int .i64 (last + 1)] 3))) | skip); obtain ⟨hl1, hx1⟩ := hbl.out w1 b1; have s1 := b1.size; replace h1 := hid h1; replace b1 := hid b1; replace hk1 := hid hk1; clear g1)
    | (refine step_append_any rfl (.tmp 23) (.tmp 28) 36 rfl _ _ rfl rfl (A2.out _ (by first | exact b1.out | exact b1.out.alloc s1 _) _ (by first | exact h1.out | exact h1.out.alloc _) _ (by first | exact hk1.out | exact heap_newL w1 _) _) ?_; rintro v2 w2 ⟨g, cap', rfl, hl3, hx3, hz3, hfin⟩))
  all_goals go_wp2
  all_goals go_ret2
  all_goals exact ⟨rfl, _, hfin.out.1, hfin.out.2.1, fun k hk => by simp only [Value.ownBlock, Option.some.injEq] at hk; have := hfin.out.2.2; omega⟩
end Go.Proofs.YtdjhlgcbjdohiaaDoor
