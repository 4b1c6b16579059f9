/- PageItems, walked. -/
import Derived.Test.YtkfhkhjoindcbaaKc
import Derived.Deep.WholeRow
namespace Go.Proofs.Ytkfhkhjoindcbaa
open Go.RowKit Go.Sort

theorem wpList_val {P : Program} {ops : Array Oper} {Q : Exit → Act → World → Prop} {a : Act} {w w1 : World} {rest : List Oper} {o : Oper} {v : Value} (hg : o.guard = none) (hr : (execOp a.eval o).run P w = .ok (.value v) w1)
    (h : wpList P ops Q rest (a.put o.dst v) w1) : wpList P ops Q (o :: rest) a w := by
  refine wpList_plain hg fun K hK => ?_
  unfold Oper.wp
  rw [hr]
  exact hK _ _ h
theorem wpList_none {P : Program} {ops : Array Oper} {Q : Exit → Act → World → Prop} {a : Act} {w w1 : World} {rest : List Oper} {o : Oper} (hg : o.guard = none) (hr : (execOp a.eval o).run P w = .ok .skip w1)
    (h : wpList P ops Q rest (a.put o.dst undef) w1) : wpList P ops Q (o :: rest) a w := by
  refine wpList_plain hg fun K hK => ?_
  unfold Oper.wp
  rw [hr]
  exact hK _ _ h
theorem below_box2' {w W : World} (h : Below w.heap.size w W) (o : Obj) : Below w.heap.size w (W.alloc o) := h.alloc h.size o
/-- The right items, cell by cell; b: where the three values lie. -/
def good60 (b : Nat) : Array Value := #[.string ⟨#[107]⟩, .int .i64 1, .string ⟨#[]⟩, .int .i64 0, .int .i64 0, .slice none 0 0, .int .i64 0, .int .i64 0, .int .i64 0, .int .i64 0, .string ⟨#[107]⟩, .int .i64 1, .string ⟨#[49, 50, 51, 52, 53, 54, 55, 56, 57, 48, 49, 50]⟩, .int .i64 0, .int .i64 0, .slice none 0 0, .int .i64 0, .int .i64 0, .int .i64 0, .int .i64 0, .string ⟨#[107]⟩, .int .i64 2, .string ⟨#[]⟩, .int .i64 2, .int .i64 13, .slice none 0 0, .int .i64 0, .int .i64 0, .int .i64 0, .int .i64 0, .string ⟨#[107]⟩, .int .i64 3, .string ⟨#[]⟩, .int .i64 0, .int .i64 0, .slice (some ⟨b, 0, none⟩) 3 3, .int .i64 0, .int .i64 0, .int .i64 0, .int .i64 0, .string ⟨#[107]⟩, .int .i64 3, .string ⟨#[]⟩, .int .i64 0, .int .i64 0, .slice none 0 0, .int .i64 9, .int .i64 0, .int .i64 0, .int .i64 0, .string ⟨#[107]⟩, .int .i64 4, .string ⟨#[]⟩, .int .i64 0, .int .i64 0, .slice none 0 0, .int .i64 0, .int .i64 5, .int .i64 3, .int .i64 1]
/-- The wrong ones. -/
def bad100 (c d : Nat) : Array Value := #[.string ⟨#[107]⟩, .int .i64 0, .string ⟨#[]⟩, .int .i64 0, .int .i64 0, .slice none 0 0, .int .i64 0, .int .i64 0, .int .i64 0, .int .i64 0, .string ⟨#[107]⟩, .int .i64 1, .string ⟨#[49, 50, 51, 52, 53, 54, 55, 56, 57, 48, 49, 50, 51]⟩, .int .i64 0, .int .i64 0, .slice none 0 0, .int .i64 0, .int .i64 0, .int .i64 0, .int .i64 0, .string ⟨#[107]⟩, .int .i64 2, .string ⟨#[]⟩, .int .i64 1, .int .i64 13, .slice none 0 0, .int .i64 0, .int .i64 0, .int .i64 0, .int .i64 0, .string ⟨#[107]⟩, .int .i64 2, .string ⟨#[]⟩, .int .i64 2, .int .i64 12, .slice none 0 0, .int .i64 0, .int .i64 0, .int .i64 0, .int .i64 0, .string ⟨#[107]⟩, .int .i64 2, .string ⟨#[]⟩, .int .i64 2, .int .i64 1001, .slice none 0 0, .int .i64 0, .int .i64 0, .int .i64 0, .int .i64 0, .string ⟨#[107]⟩, .int .i64 3, .string ⟨#[]⟩, .int .i64 0, .int .i64 0, .slice none 0 0, .int .i64 0, .int .i64 0, .int .i64 0, .int .i64 0, .string ⟨#[107]⟩, .int .i64 3, .string ⟨#[]⟩, .int .i64 0, .int .i64 0, .slice (some ⟨c, 0, none⟩) 2 2, .int .i64 0, .int .i64 0, .int .i64 0, .int .i64 0, .string ⟨#[107]⟩, .int .i64 3, .string ⟨#[]⟩, .int .i64 0, .int .i64 0, .slice (some ⟨d, 0, none⟩) 1 1, .int .i64 4, .int .i64 0, .int .i64 0, .int .i64 0, .string ⟨#[107]⟩, .int .i64 4, .string ⟨#[]⟩, .int .i64 0, .int .i64 0, .slice none 0 0, .int .i64 0, .int .i64 0, .int .i64 0, .int .i64 2, .string ⟨#[107]⟩, .int .i64 1, .string ⟨#[]⟩, .int .i64 0, .int .i64 0, .slice none 0 0, .int .i64 0, .int .i64 0, .int .i64 1, .int .i64 0]
def zero60 : Array Value := #[.string ⟨#[]⟩, .int .i64 0, .string ⟨#[]⟩, .int .i64 0, .int .i64 0, .slice none 0 0, .int .i64 0, .int .i64 0, .int .i64 0, .int .i64 0, .string ⟨#[]⟩, .int .i64 0, .string ⟨#[]⟩, .int .i64 0, .int .i64 0, .slice none 0 0, .int .i64 0, .int .i64 0, .int .i64 0, .int .i64 0, .string ⟨#[]⟩, .int .i64 0, .string ⟨#[]⟩, .int .i64 0, .int .i64 0, .slice none 0 0, .int .i64 0, .int .i64 0, .int .i64 0, .int .i64 0, .string ⟨#[]⟩, .int .i64 0, .string ⟨#[]⟩, .int .i64 0, .int .i64 0, .slice none 0 0, .int .i64 0, .int .i64 0, .int .i64 0, .int .i64 0, .string ⟨#[]⟩, .int .i64 0, .string ⟨#[]⟩, .int .i64 0, .int .i64 0, .slice none 0 0, .int .i64 0, .int .i64 0, .int .i64 0, .int .i64 0, .string ⟨#[]⟩, .int .i64 0, .string ⟨#[]⟩, .int .i64 0, .int .i64 0, .slice none 0 0, .int .i64 0, .int .i64 0, .int .i64 0, .int .i64 0]
def zero100 : Array Value := #[.string ⟨#[]⟩, .int .i64 0, .string ⟨#[]⟩, .int .i64 0, .int .i64 0, .slice none 0 0, .int .i64 0, .int .i64 0, .int .i64 0, .int .i64 0, .string ⟨#[]⟩, .int .i64 0, .string ⟨#[]⟩, .int .i64 0, .int .i64 0, .slice none 0 0, .int .i64 0, .int .i64 0, .int .i64 0, .int .i64 0, .string ⟨#[]⟩, .int .i64 0, .string ⟨#[]⟩, .int .i64 0, .int .i64 0, .slice none 0 0, .int .i64 0, .int .i64 0, .int .i64 0, .int .i64 0, .string ⟨#[]⟩, .int .i64 0, .string ⟨#[]⟩, .int .i64 0, .int .i64 0, .slice none 0 0, .int .i64 0, .int .i64 0, .int .i64 0, .int .i64 0, .string ⟨#[]⟩, .int .i64 0, .string ⟨#[]⟩, .int .i64 0, .int .i64 0, .slice none 0 0, .int .i64 0, .int .i64 0, .int .i64 0, .int .i64 0, .string ⟨#[]⟩, .int .i64 0, .string ⟨#[]⟩, .int .i64 0, .int .i64 0, .slice none 0 0, .int .i64 0, .int .i64 0, .int .i64 0, .int .i64 0, .string ⟨#[]⟩, .int .i64 0, .string ⟨#[]⟩, .int .i64 0, .int .i64 0, .slice none 0 0, .int .i64 0, .int .i64 0, .int .i64 0, .int .i64 0, .string ⟨#[]⟩, .int .i64 0, .string ⟨#[]⟩, .int .i64 0, .int .i64 0, .slice none 0 0, .int .i64 0, .int .i64 0, .int .i64 0, .int .i64 0, .string ⟨#[]⟩, .int .i64 0, .string ⟨#[]⟩, .int .i64 0, .int .i64 0, .slice none 0 0, .int .i64 0, .int .i64 0, .int .i64 0, .int .i64 0, .string ⟨#[]⟩, .int .i64 0, .string ⟨#[]⟩, .int .i64 0, .int .i64 0, .slice none 0 0, .int .i64 0, .int .i64 0, .int .i64 0, .int .i64 0]
def goodI : Nat → ItemD
  | 0 => ⟨⟨#[107]⟩,  1, ⟨#[]⟩,  0,  0, [],  0, ⟨ 0,  0,  0⟩⟩
  | 1 => ⟨⟨#[107]⟩,  1, ⟨#[49, 50, 51, 52, 53, 54, 55, 56, 57, 48, 49, 50]⟩,  0,  0, [],  0, ⟨ 0,  0,  0⟩⟩
  | 2 => ⟨⟨#[107]⟩,  2, ⟨#[]⟩,  2,  13, [],  0, ⟨ 0,  0,  0⟩⟩
  | 3 => ⟨⟨#[107]⟩,  3, ⟨#[]⟩,  0,  0, [⟨#[97]⟩, ⟨#[98]⟩, ⟨#[99]⟩],  0, ⟨ 0,  0,  0⟩⟩
  | 4 => ⟨⟨#[107]⟩,  3, ⟨#[]⟩,  0,  0, [],  9, ⟨ 0,  0,  0⟩⟩
  | _ => ⟨⟨#[107]⟩,  4, ⟨#[]⟩,  0,  0, [],  0, ⟨ 5,  3,  1⟩⟩
def badI : Nat → ItemD
  | 0 => ⟨⟨#[107]⟩,  0, ⟨#[]⟩,  0,  0, [],  0, ⟨ 0,  0,  0⟩⟩
  | 1 => ⟨⟨#[107]⟩,  1, ⟨#[49, 50, 51, 52, 53, 54, 55, 56, 57, 48, 49, 50, 51]⟩,  0,  0, [],  0, ⟨ 0,  0,  0⟩⟩
  | 2 => ⟨⟨#[107]⟩,  2, ⟨#[]⟩,  1,  13, [],  0, ⟨ 0,  0,  0⟩⟩
  | 3 => ⟨⟨#[107]⟩,  2, ⟨#[]⟩,  2,  12, [],  0, ⟨ 0,  0,  0⟩⟩
  | 4 => ⟨⟨#[107]⟩,  2, ⟨#[]⟩,  2,  1001, [],  0, ⟨ 0,  0,  0⟩⟩
  | 5 => ⟨⟨#[107]⟩,  3, ⟨#[]⟩,  0,  0, [],  0, ⟨ 0,  0,  0⟩⟩
  | 6 => ⟨⟨#[107]⟩,  3, ⟨#[]⟩,  0,  0, [⟨#[98]⟩, ⟨#[97]⟩],  0, ⟨ 0,  0,  0⟩⟩
  | 7 => ⟨⟨#[107]⟩,  3, ⟨#[]⟩,  0,  0, [⟨#[97]⟩],  4, ⟨ 0,  0,  0⟩⟩
  | 8 => ⟨⟨#[107]⟩,  4, ⟨#[]⟩,  0,  0, [],  0, ⟨ 0,  0,  2⟩⟩
  | _ => ⟨⟨#[107]⟩,  1, ⟨#[]⟩,  0,  0, [],  0, ⟨ 0,  1,  0⟩⟩

theorem Try.info60 : (Try.prog.info? 49).map (fun i => (i.zero, i.size)) = some (some (.agg zero60), 60) := by kernel_rfl
theorem Try.info100 : (Try.prog.info? 50).map (fun i => (i.zero, i.size)) = some (some (.agg zero100), 100) := by kernel_rfl

def goodU (b : Nat) : Nat → Value
  | 3 => .slice (some ⟨b, 0, none⟩) 3 3
  | _ => .slice none 0 0
def badU (c d : Nat) : Nat → Value
  | 6 => .slice (some ⟨c, 0, none⟩) 2 2
  | 7 => .slice (some ⟨d, 0, none⟩) 1 1
  | _ => .slice none 0 0
theorem lt10 {j : Nat} (h : j < 10) : j = 0 ∨ j = 1 ∨ j = 2 ∨ j = 3 ∨ j = 4 ∨ j = 5 ∨ j = 6 ∨ j = 7 ∨ j = 8 ∨ j = 9 := by omega
theorem lt6 {j : Nat} (h : j < 6) : j = 0 ∨ j = 1 ∨ j = 2 ∨ j = 3 ∨ j = 4 ∨ j = 5 := by omega
theorem good_cells (b i j : Nat) (hi : i < 6) (hj : j < 10) : (good60 b)[i * 10 + j]? = (itemCells (goodI i) (goodU b i))[j]? := by
  rcases lt6 hi with rfl | rfl | rfl | rfl | rfl | rfl <;> rcases lt10 hj with rfl | rfl | rfl | rfl | rfl | rfl | rfl | rfl | rfl | rfl <;> rfl
theorem bad_cells (c d i j : Nat) (hi : i < 10) (hj : j < 10) : (bad100 c d)[i * 10 + j]? = (itemCells (badI i) (badU c d i))[j]? := by
  rcases lt10 hi with rfl | rfl | rfl | rfl | rfl | rfl | rfl | rfl | rfl | rfl <;> rcases lt10 hj with rfl | rfl | rfl | rfl | rfl | rfl | rfl | rfl | rfl | rfl <;> rfl
/-- Four blocks, one behind the other, from W's end on. -/
structure Four (W X : World) (a b c d : Array Value) (S T : TypeId) : Prop where
  b0 : X.heap[W.heap.size]? = some (.cells a S (0, 0))
  b1 : X.heap[W.heap.size + 1]? = some (.cells b T (0, 0))
  b2 : X.heap[W.heap.size + 1 + 1]? = some (.cells c S (0, 0))
  b3 : X.heap[W.heap.size + 1 + 1 + 1]? = some (.cells d T (0, 0))
  below : Below W.heap.size W X
theorem Four.next {W X Y : World} {a b c d : Array Value} {S T : TypeId} (h : Four W X a b c d S T) (hb : Below X.heap.size X Y) : Four W Y a b c d S T :=
  ⟨(hb.block _ (Array.getElem?_eq_some_iff.1 h.b0).1).trans h.b0, (hb.block _ (Array.getElem?_eq_some_iff.1 h.b1).1).trans h.b1, (hb.block _ (Array.getElem?_eq_some_iff.1 h.b2).1).trans h.b2, (hb.block _ (Array.getElem?_eq_some_iff.1 h.b3).1).trans h.b3, h.below.trans (hb.mono h.below.size)⟩
theorem four_start (W : World) (a b c d : Array Value) (S T : TypeId) : Four W ((((W.alloc (.cells a S)).alloc (.cells b T)).alloc (.cells c S)).alloc (.cells d T)) a b c d S T := by
  have e1 : (W.alloc (.cells a S)).heap.size = W.heap.size + 1 := by simp
  have e2 : ((W.alloc (.cells a S)).alloc (.cells b T)).heap.size = W.heap.size + 1 + 1 := by simp
  have e3 : (((W.alloc (.cells a S)).alloc (.cells b T)).alloc (.cells c S)).heap.size = W.heap.size + 1 + 1 + 1 := by simp
  have p0 := heap_newL W (.cells a S)
  have p1 := heap_newL (W.alloc (.cells a S)) (.cells b T)
  have p2 := heap_newL ((W.alloc (.cells a S)).alloc (.cells b T)) (.cells c S)
  have p3 := heap_newL (((W.alloc (.cells a S)).alloc (.cells b T)).alloc (.cells c S)) (.cells d T)
  rw [e1] at p1
  rw [e2] at p2
  rw [e3] at p3
  exact ⟨(Below.heap_alloc _ _ _ (by omega)).trans ((Below.heap_alloc _ _ _ (by omega)).trans ((Below.heap_alloc _ _ _ (by omega)).trans p0)), (Below.heap_alloc _ _ _ (by omega)).trans ((Below.heap_alloc _ _ _ (by omega)).trans p1), (Below.heap_alloc _ _ _ (by omega)).trans p2, p3,
    ((((Below.refl _ _).alloc (Nat.le_refl _) _).alloc (by omega) _).alloc (by omega) _).alloc (by omega) _⟩
def leafP (x : ItemD) : PageD := { noPage with kind := 1, items := [x] }
theorem hangs_leaf {X : World} {b : Nat} {x : ItemD} {u : Value} (h : X.heap[b]? = some (.cells (itemCells x u).toArray 47 (0, 0))) (hz : x.key.size ≤ 65535 ∧ x.val.size ≤ 65535) (hv : StrsAt X u x.vals) :
    Hangs X (leafP x) (.slice (some ⟨b, 0, none⟩) 1 1) (.slice none 0 0) (.slice none 0 0) (.slice none 0 0) (.slice none 0 0) :=
  ⟨items_block [x] [u] h rfl (by simp [itemRows, itemCells]) (by simp) (by simpa using hz) (fun n hn hn' => by
    have : n = 0 := by simpa using hn
    subst this
    exact hv), strs_nil _, ints_nil _, text_nil_le, strs_nil _, frees_nil _⟩
theorem good_is (i : Nat) (hi : i < 6) : isPB (leafP (goodI i)) = true := by
  rcases lt6 hi with rfl | rfl | rfl | rfl | rfl | rfl <;> decide +kernel
theorem bad_is (i : Nat) (hi : i < 10) : isPB (leafP (badI i)) = false := by
  rcases lt10 hi with rfl | rfl | rfl | rfl | rfl | rfl | rfl | rfl | rfl | rfl <;> decide +kernel
theorem good_small (i : Nat) : (goodI i).key.size ≤ 65535 ∧ (goodI i).val.size ≤ 65535 := by
  unfold goodI
  split <;> decide
theorem bad_small (i : Nat) : (badI i).key.size ≤ 65535 ∧ (badI i).val.size ≤ 65535 := by
  unfold badI
  split <;> decide
theorem good_vals {w : World} {b : Nat} (i : Nat) (hi : i < 6) (h : w.heap[b]? = some (.cells #[.string ⟨#[97]⟩, .string ⟨#[98]⟩, .string ⟨#[99]⟩] 9 (0, 0))) : StrsAt w (goodU b i) (goodI i).vals := by
  rcases lt6 hi with rfl | rfl | rfl | rfl | rfl | rfl
  · exact strs_nil _
  · exact strs_nil _
  · exact strs_nil _
  · exact strs_block [⟨#[97]⟩, ⟨#[98]⟩, ⟨#[99]⟩] h rfl (by simp) (by simp) (by decide)
  · exact strs_nil _
  · exact strs_nil _
theorem bad_vals {w : World} {c d : Nat} (i : Nat) (hi : i < 10) (h : w.heap[c]? = some (.cells #[.string ⟨#[98]⟩, .string ⟨#[97]⟩] 9 (0, 0))) (h' : w.heap[d]? = some (.cells #[.string ⟨#[97]⟩] 9 (0, 0))) : StrsAt w (badU c d i) (badI i).vals := by
  rcases lt10 hi with rfl | rfl | rfl | rfl | rfl | rfl | rfl | rfl | rfl | rfl
  · exact strs_nil _
  · exact strs_nil _
  · exact strs_nil _
  · exact strs_nil _
  · exact strs_nil _
  · exact strs_nil _
  · exact strs_block [⟨#[98]⟩, ⟨#[97]⟩] h rfl (by simp) (by simp) (by decide)
  · exact strs_block [⟨#[97]⟩] h' rfl (by simp) (by simp) (by decide)
  · exact strs_nil _
  · exact strs_nil _
theorem range_of {w : World} {g i : Nat} {cs : Array Value} {T : TypeId} {x : ItemD} {u : Value} (h : w.heap[g]? = some (.cells cs T (0, 0))) (hc : ∀ j, j < 10 → cs[i * 10 + j]? = (itemCells x u)[j]?) : w.rangeAt g (i * 10) (itemCells x u) := by
  intro j v hj
  have hj10 : j < 10 := by
    rcases Nat.lt_or_ge j 10 with h | h
    · exact h
    · rw [List.getElem?_eq_none (by simp [itemCells]; omega)] at hj
      cases hj
  have h2 : w.cell? ⟨g, i * 10 + j, none⟩ = cs[i * 10 + j]? := by simp [World.cell?, h]
  rw [h2, hc j hj10, hj]
theorem Try.elem60 : Try.prog.underlying 49 = some (.array (Try.prog.arrayLen 49) (Try.prog.elem 49)) := by kernel_rfl
theorem Try.elem100 : Try.prog.underlying 50 = some (.array (Try.prog.arrayLen 50) (Try.prog.elem 50)) := by kernel_rfl
theorem Try.len60 : Try.prog.arrayLen 49 = 6 := by kernel_rfl
theorem Try.len100 : Try.prog.arrayLen 50 = 10 := by kernel_rfl
theorem Try.size60 (w : World) : (Go.sizeOf (Try.prog.elem 49)).run Try.prog w = .ok 10 w := by kernel_rfl
theorem Try.size100 (w : World) : (Go.sizeOf (Try.prog.elem 50)).run Try.prog w = .ok 10 w := by kernel_rfl
theorem at60 (g i : Nat) (h : i < 6) (w : World) : (Instr.indexAt 49 (.pointer (some ⟨g, 0, none⟩)) (.int .u8 (i : Int))).run Try.prog w = .ok (.pointer (some ⟨g, i * 10, none⟩)) w := by
  have := run_indexAt_array (P := Try.prog) w 49 ⟨g, 0, none⟩ .u8 (i : Int) Try.elem60
  rw [this, Try.len60, if_pos (by omega), Try.size60]
  simp only [Result.andThen, Int.toNat_natCast, Addr.add_mid, Nat.zero_add]
theorem at100 (g i : Nat) (h : i < 10) (w : World) : (Instr.indexAt 50 (.pointer (some ⟨g, 0, none⟩)) (.int .u8 (i : Int))).run Try.prog w = .ok (.pointer (some ⟨g, i * 10, none⟩)) w := by
  have := run_indexAt_array (P := Try.prog) w 50 ⟨g, 0, none⟩ .u8 (i : Int) Try.elem100
  rw [this, Try.len100, if_pos (by omega), Try.size100]
  simp only [Result.andThen, Int.toNat_natCast, Addr.add_mid, Nat.zero_add]

set_option maxRecDepth 100000 in
set_option maxHeartbeats 4000000 in
theorem items_law (k : Int) (w : World) (h0 : 0 ≤ k) (h1 : k < 256) :
    Calls Try.prog 5 #[.int .u8 k] w fun e w' => e = .returned (.bool true) ∧ Below w.heap.size w w' := by
  go_enter Try.func5, Try.ntmps5
  go_wp2_with fail
  refine (known_any _).mono ?_
  rintro e w1 ⟨rfl, hb⟩
  simp only []
  iterate 37 (try go_step)
  refine wpList_val (w1 := w1.alloc (.cells #[.string ⟨#[97]⟩, .string ⟨#[98]⟩, .string ⟨#[99]⟩] 9)) (v := .agg (good60 w1.heap.size)) rfl ?_ ?_
  · kernel_rfl
  have n1 := heap_newL w1 (.cells #[.string ⟨#[97]⟩, .string ⟨#[98]⟩, .string ⟨#[99]⟩] 9)
  have L1 := hid (below_box2' hb (.cells #[.string ⟨#[97]⟩, .string ⟨#[98]⟩, .string ⟨#[99]⟩] 9))
  clear hb
  generalize w1.alloc (.cells #[.string ⟨#[97]⟩, .string ⟨#[98]⟩, .string ⟨#[99]⟩] 9) = W1 at *
  generalize w1.heap.size = b at *
  simp only [Act.put]
  go_simp
  refine wpList_val (w1 := W1.alloc (.cells zero60 49)) (v := .pointer (some ⟨W1.heap.size, 0, none⟩)) rfl ?_ ?_
  · kernel_rfl
  simp only [Act.put]
  go_simp
  refine wpList_none (w1 := W1.alloc (.cells (good60 b) 49)) rfl ?_ ?_
  · have := run_storeAt_new (P := Try.prog) W1 49 zero60 (good60 b) (zero_of_info Try.info60).2 rfl (by simp [good60, Value.oneCell'])
    simp [execOp, Act.eval, this]
  have n2 := (Below.heap_alloc W1 (.cells (good60 b) 49) b (Array.getElem?_eq_some_iff.1 n1).1).trans n1
  have n3 := heap_newL W1 (.cells (good60 b) 49)
  have L2 := hid (L1.out.alloc L1.out.size (.cells (good60 b) 49))
  clear L1 n1
  generalize hG : good60 b = G at *
  replace hG := hid hG
  generalize W1.alloc (.cells G 49) = W2 at *
  generalize W1.heap.size = g at *
  iterate 47 go_step
  refine wpList_val (w1 := (W2.alloc (.cells #[.string ⟨#[98]⟩, .string ⟨#[97]⟩] 9)).alloc (.cells #[.string ⟨#[97]⟩] 9)) (v := .agg (bad100 W2.heap.size (W2.heap.size + 1))) rfl ?_ ?_
  · kernel_rfl
  have m1 := heap_newL W2 (.cells #[.string ⟨#[98]⟩, .string ⟨#[97]⟩] 9)
  have m2 := heap_newL (W2.alloc (.cells #[.string ⟨#[98]⟩, .string ⟨#[97]⟩] 9)) (.cells #[.string ⟨#[97]⟩] 9)
  rw [show (W2.alloc (.cells #[.string ⟨#[98]⟩, .string ⟨#[97]⟩] 9)).heap.size = W2.heap.size + 1 by simp] at m2
  have m3 := (Below.heap_alloc (W2.alloc (.cells #[.string ⟨#[98]⟩, .string ⟨#[97]⟩] 9)) (.cells #[.string ⟨#[97]⟩] 9) W2.heap.size (by simp)).trans m1
  have n4 := (Below.heap_alloc (W2.alloc (.cells #[.string ⟨#[98]⟩, .string ⟨#[97]⟩] 9)) (.cells #[.string ⟨#[97]⟩] 9) b (by have := (Array.getElem?_eq_some_iff.1 n2).1; simp; omega)).trans ((Below.heap_alloc W2 (.cells #[.string ⟨#[98]⟩, .string ⟨#[97]⟩] 9) b (Array.getElem?_eq_some_iff.1 n2).1).trans n2)
  have n5 := (Below.heap_alloc (W2.alloc (.cells #[.string ⟨#[98]⟩, .string ⟨#[97]⟩] 9)) (.cells #[.string ⟨#[97]⟩] 9) g (by have := (Array.getElem?_eq_some_iff.1 n3).1; simp; omega)).trans ((Below.heap_alloc W2 (.cells #[.string ⟨#[98]⟩, .string ⟨#[97]⟩] 9) g (Array.getElem?_eq_some_iff.1 n3).1).trans n3)
  have L3 := hid ((L2.out.alloc L2.out.size (.cells #[.string ⟨#[98]⟩, .string ⟨#[97]⟩] 9)).alloc (by have := L2.out.size; simp; omega) (.cells #[.string ⟨#[97]⟩] 9))
  clear n2 n3 L2 m1
  generalize (W2.alloc (.cells #[.string ⟨#[98]⟩, .string ⟨#[97]⟩] 9)).alloc (.cells #[.string ⟨#[97]⟩] 9) = W3 at *
  generalize W2.heap.size = c at *
  simp only [Act.put]
  go_simp
  refine wpList_val (w1 := W3.alloc (.cells zero100 50)) (v := .pointer (some ⟨W3.heap.size, 0, none⟩)) rfl ?_ ?_
  · kernel_rfl
  simp only [Act.put]
  go_simp
  refine wpList_none (w1 := W3.alloc (.cells (bad100 c (c + 1)) 50)) rfl ?_ ?_
  · have := run_storeAt_new (P := Try.prog) W3 50 zero100 (bad100 c (c + 1)) (zero_of_info Try.info100).2 rfl (by simp [bad100, Value.oneCell'])
    simp [execOp, Act.eval, this]
  have q1 := (Below.heap_alloc W3 (.cells (bad100 c (c + 1)) 50) b (Array.getElem?_eq_some_iff.1 n4).1).trans n4
  have q2 := (Below.heap_alloc W3 (.cells (bad100 c (c + 1)) 50) g (Array.getElem?_eq_some_iff.1 n5).1).trans n5
  have q3 := (Below.heap_alloc W3 (.cells (bad100 c (c + 1)) 50) c (Array.getElem?_eq_some_iff.1 m3).1).trans m3
  have q4 := (Below.heap_alloc W3 (.cells (bad100 c (c + 1)) 50) (c + 1) (Array.getElem?_eq_some_iff.1 m2).1).trans m2
  have q5 := heap_newL W3 (.cells (bad100 c (c + 1)) 50)
  have L4 := hid (L3.out.alloc L3.out.size (.cells (bad100 c (c + 1)) 50))
  clear L3 n4 n5 m2 m3
  generalize hB : bad100 c (c + 1) = B at *
  replace hB := hid hB
  generalize W3.alloc (.cells B 50) = W4 at *
  generalize W3.heap.size = h at *
  obtain ⟨i, hi⟩ : ∃ i : Nat, k / 2 % 6 = (i : Int) := ⟨(k / 2 % 6).toNat, by omega⟩
  obtain ⟨j, hj⟩ : ∃ j : Nat, k / 2 % 10 = (j : Int) := ⟨(k / 2 % 10).toNat, by omega⟩
  have hi6 : i < 6 := by omega
  have hj10 : j < 10 := by omega
  have rX := range_of q2 (fun a ha => (by rw [← hG.out]; exact good_cells b i a hi6 ha : G[i * 10 + a]? = (itemCells (goodI i) (goodU b i))[a]?))
  have rY := range_of q5 (fun a ha => (by rw [← hB.out]; exact bad_cells c (c + 1) j a hj10 ha : B[j * 10 + a]? = (itemCells (badI j) (badU c (c + 1) j))[a]?))
  have sX := good_vals i hi6 q1
  have sY := bad_vals j hj10 q3 q4
  have IX := hid (good_is i hi6)
  have IY := hid (bad_is j hj10)
  have zX := good_small i
  have zY := bad_small j
  have hgl := (Array.getElem?_eq_some_iff.1 q2).1
  have hhl := (Array.getElem?_eq_some_iff.1 q5).1
  have a6 := at60 g i hi6
  have a10 := at100 h j hj10
  clear q1 q2 q3 q4 q5 hG hB
  generalize goodI i = x at *
  generalize badI j = y at *
  generalize goodU b i = u at *
  generalize badU c (c + 1) j = v at *
  obtain ⟨ux, uy, uz, rfl⟩ := sX.slice
  obtain ⟨vx, vy, vz, rfl⟩ := sY.slice
  obtain ⟨x0, x1, x2, x3, x4, x5, x6, ⟨x7, x8, x9⟩⟩ := x
  obtain ⟨y0, y1, y2, y3, y4, y5, y6, ⟨y7, y8, y9⟩⟩ := y
  obtain ⟨cx0, cx1, cx2, cx3, cx4, cx5, cx6, cx7, cx8, cx9⟩ := range10 rX
  obtain ⟨cy0, cy1, cy2, cy3, cy4, cy5, cy6, cy7, cy8, cy9⟩ := range10 rY
  clear rX rY
  simp only at cx0 cx1 cx2 cx3 cx4 cx5 cx6 cx7 cx8 cx9 cy0 cy1 cy2 cy3 cy4 cy5 cy6 cy7 cy8 cy9
  replace sX := hid sX
  replace sY := hid sY
  replace zX := hid zX
  replace zY := hid zY
  go_wp2_with fail
  have HF := hid (four_start W4 #[.string x0, .int .i64 x1, .string x2, .int .i64 x3, .int .i64 x4, .slice ux uy uz, .int .i64 x6, .int .i64 x7, .int .i64 x8, .int .i64 x9] #[.int .i64 1, .slice (some ⟨W4.heap.size, 0, none⟩) 1 1, .slice none 0 0, .slice none 0 0, .string ⟨#[]⟩, .slice none 0 0, .slice none 0 0, .int .i64 0, .int .u64 0, .int .i64 0, .int .i64 0, .int .i64 0, .int .i64 0, .int .i64 0] #[.string y0, .int .i64 y1, .string y2, .int .i64 y3, .int .i64 y4, .slice vx vy vz, .int .i64 y6, .int .i64 y7, .int .i64 y8, .int .i64 y9] #[.int .i64 1, .slice (some ⟨W4.heap.size + 1 + 1, 0, none⟩) 1 1, .slice none 0 0, .slice none 0 0, .string ⟨#[]⟩, .slice none 0 0, .slice none 0 0, .int .i64 0, .int .u64 0, .int .i64 0, .int .i64 0, .int .i64 0, .int .i64 0, .int .i64 0] 47 32)
  have L5 := hid (L4.out.trans (HF.out.below.mono L4.out.size))
  have tX : TxnOk (leafP ⟨x0, x1, x2, x3, x4, x5, x6, ⟨x7, x8, x9⟩⟩) := ⟨by simp [leafP, noPage], by simp [leafP, noPage]⟩
  have tY : TxnOk (leafP ⟨y0, y1, y2, y3, y4, y5, y6, ⟨y7, y8, y9⟩⟩) := ⟨by simp [leafP, noPage], by simp [leafP, noPage]⟩
  have HX : Hid (∀ X, Four W4 X #[.string x0, .int .i64 x1, .string x2, .int .i64 x3, .int .i64 x4, .slice ux uy uz, .int .i64 x6, .int .i64 x7, .int .i64 x8, .int .i64 x9] #[.int .i64 1, .slice (some ⟨W4.heap.size, 0, none⟩) 1 1, .slice none 0 0, .slice none 0 0, .string ⟨#[]⟩, .slice none 0 0, .slice none 0 0, .int .i64 0, .int .u64 0, .int .i64 0, .int .i64 0, .int .i64 0, .int .i64 0, .int .i64 0] #[.string y0, .int .i64 y1, .string y2, .int .i64 y3, .int .i64 y4, .slice vx vy vz, .int .i64 y6, .int .i64 y7, .int .i64 y8, .int .i64 y9] #[.int .i64 1, .slice (some ⟨W4.heap.size + 1 + 1, 0, none⟩) 1 1, .slice none 0 0, .slice none 0 0, .string ⟨#[]⟩, .slice none 0 0, .slice none 0 0, .int .i64 0, .int .u64 0, .int .i64 0, .int .i64 0, .int .i64 0, .int .i64 0, .int .i64 0] 47 32 → Hangs X (leafP ⟨x0, x1, x2, x3, x4, x5, x6, ⟨x7, x8, x9⟩⟩) (.slice (some ⟨W4.heap.size, 0, none⟩) 1 1) (.slice none 0 0) (.slice none 0 0) (.slice none 0 0) (.slice none 0 0)) := fun X hX =>
    hangs_leaf (x := ⟨x0, x1, x2, x3, x4, x5, x6, ⟨x7, x8, x9⟩⟩) (u := .slice ux uy uz) hX.b0 zX.out (sX.out.below hX.below)
  have HY : Hid (∀ X, Four W4 X #[.string x0, .int .i64 x1, .string x2, .int .i64 x3, .int .i64 x4, .slice ux uy uz, .int .i64 x6, .int .i64 x7, .int .i64 x8, .int .i64 x9] #[.int .i64 1, .slice (some ⟨W4.heap.size, 0, none⟩) 1 1, .slice none 0 0, .slice none 0 0, .string ⟨#[]⟩, .slice none 0 0, .slice none 0 0, .int .i64 0, .int .u64 0, .int .i64 0, .int .i64 0, .int .i64 0, .int .i64 0, .int .i64 0] #[.string y0, .int .i64 y1, .string y2, .int .i64 y3, .int .i64 y4, .slice vx vy vz, .int .i64 y6, .int .i64 y7, .int .i64 y8, .int .i64 y9] #[.int .i64 1, .slice (some ⟨W4.heap.size + 1 + 1, 0, none⟩) 1 1, .slice none 0 0, .slice none 0 0, .string ⟨#[]⟩, .slice none 0 0, .slice none 0 0, .int .i64 0, .int .u64 0, .int .i64 0, .int .i64 0, .int .i64 0, .int .i64 0, .int .i64 0] 47 32 → Hangs X (leafP ⟨y0, y1, y2, y3, y4, y5, y6, ⟨y7, y8, y9⟩⟩) (.slice (some ⟨W4.heap.size + 1 + 1, 0, none⟩) 1 1) (.slice none 0 0) (.slice none 0 0) (.slice none 0 0) (.slice none 0 0)) := fun X hX =>
    hangs_leaf (x := ⟨y0, y1, y2, y3, y4, y5, y6, ⟨y7, y8, y9⟩⟩) (u := .slice vx vy vz) hX.b2 zY.out (sY.out.below hX.below)
  have CI : Hid (∀ X, Four W4 X #[.string x0, .int .i64 x1, .string x2, .int .i64 x3, .int .i64 x4, .slice ux uy uz, .int .i64 x6, .int .i64 x7, .int .i64 x8, .int .i64 x9] #[.int .i64 1, .slice (some ⟨W4.heap.size, 0, none⟩) 1 1, .slice none 0 0, .slice none 0 0, .string ⟨#[]⟩, .slice none 0 0, .slice none 0 0, .int .i64 0, .int .u64 0, .int .i64 0, .int .i64 0, .int .i64 0, .int .i64 0, .int .i64 0] #[.string y0, .int .i64 y1, .string y2, .int .i64 y3, .int .i64 y4, .slice vx vy vz, .int .i64 y6, .int .i64 y7, .int .i64 y8, .int .i64 y9] #[.int .i64 1, .slice (some ⟨W4.heap.size + 1 + 1, 0, none⟩) 1 1, .slice none 0 0, .slice none 0 0, .string ⟨#[]⟩, .slice none 0 0, .slice none 0 0, .int .i64 0, .int .u64 0, .int .i64 0, .int .i64 0, .int .i64 0, .int .i64 0, .int .i64 0] 47 32 → Calls Try.prog 10 #[.agg #[.int .i64 1, .slice (some ⟨W4.heap.size, 0, none⟩) 1 1, .slice none 0 0, .slice none 0 0, .string ⟨#[]⟩, .slice none 0 0, .slice none 0 0, .int .i64 0, .int .u64 0, .int .i64 0, .int .i64 0, .int .i64 0, .int .i64 0, .int .i64 0]] X fun e w' => e = .returned (.bool true) ∧ Below X.heap.size X w') := fun X hX => by
    have := is_any (leafP ⟨x0, x1, x2, x3, x4, x5, x6, ⟨x7, x8, x9⟩⟩) _ _ _ _ _ X (HX.out X hX)
    rw [IX.out] at this
    exact this
  have CJ : Hid (∀ X, Four W4 X #[.string x0, .int .i64 x1, .string x2, .int .i64 x3, .int .i64 x4, .slice ux uy uz, .int .i64 x6, .int .i64 x7, .int .i64 x8, .int .i64 x9] #[.int .i64 1, .slice (some ⟨W4.heap.size, 0, none⟩) 1 1, .slice none 0 0, .slice none 0 0, .string ⟨#[]⟩, .slice none 0 0, .slice none 0 0, .int .i64 0, .int .u64 0, .int .i64 0, .int .i64 0, .int .i64 0, .int .i64 0, .int .i64 0] #[.string y0, .int .i64 y1, .string y2, .int .i64 y3, .int .i64 y4, .slice vx vy vz, .int .i64 y6, .int .i64 y7, .int .i64 y8, .int .i64 y9] #[.int .i64 1, .slice (some ⟨W4.heap.size + 1 + 1, 0, none⟩) 1 1, .slice none 0 0, .slice none 0 0, .string ⟨#[]⟩, .slice none 0 0, .slice none 0 0, .int .i64 0, .int .u64 0, .int .i64 0, .int .i64 0, .int .i64 0, .int .i64 0, .int .i64 0] 47 32 → Calls Try.prog 10 #[.agg #[.int .i64 1, .slice (some ⟨W4.heap.size + 1 + 1, 0, none⟩) 1 1, .slice none 0 0, .slice none 0 0, .string ⟨#[]⟩, .slice none 0 0, .slice none 0 0, .int .i64 0, .int .u64 0, .int .i64 0, .int .i64 0, .int .i64 0, .int .i64 0, .int .i64 0]] X fun e w' => e = .returned (.bool false) ∧ Below X.heap.size X w') := fun X hX => by
    have := is_any (leafP ⟨y0, y1, y2, y3, y4, y5, y6, ⟨y7, y8, y9⟩⟩) _ _ _ _ _ X (HY.out X hX)
    rw [IY.out] at this
    exact this
  have CB : Hid (∀ X, Four W4 X #[.string x0, .int .i64 x1, .string x2, .int .i64 x3, .int .i64 x4, .slice ux uy uz, .int .i64 x6, .int .i64 x7, .int .i64 x8, .int .i64 x9] #[.int .i64 1, .slice (some ⟨W4.heap.size, 0, none⟩) 1 1, .slice none 0 0, .slice none 0 0, .string ⟨#[]⟩, .slice none 0 0, .slice none 0 0, .int .i64 0, .int .u64 0, .int .i64 0, .int .i64 0, .int .i64 0, .int .i64 0, .int .i64 0] #[.string y0, .int .i64 y1, .string y2, .int .i64 y3, .int .i64 y4, .slice vx vy vz, .int .i64 y6, .int .i64 y7, .int .i64 y8, .int .i64 y9] #[.int .i64 1, .slice (some ⟨W4.heap.size + 1 + 1, 0, none⟩) 1 1, .slice none 0 0, .slice none 0 0, .string ⟨#[]⟩, .slice none 0 0, .slice none 0 0, .int .i64 0, .int .u64 0, .int .i64 0, .int .i64 0, .int .i64 0, .int .i64 0, .int .i64 0] 47 32 → Calls Try.prog 9 #[.agg #[.int .i64 1, .slice (some ⟨W4.heap.size, 0, none⟩) 1 1, .slice none 0 0, .slice none 0 0, .string ⟨#[]⟩, .slice none 0 0, .slice none 0 0, .int .i64 0, .int .u64 0, .int .i64 0, .int .i64 0, .int .i64 0, .int .i64 0, .int .i64 0]] X fun e w' => e = .returned (.string (bs (bytesD (leafP ⟨x0, x1, x2, x3, x4, x5, x6, ⟨x7, x8, x9⟩⟩)))) ∧ Below X.heap.size X w') := fun X hX =>
    bytes_any (leafP ⟨x0, x1, x2, x3, x4, x5, x6, ⟨x7, x8, x9⟩⟩) _ _ _ _ _ X (HX.out X hX) tX
  have CC : Hid (∀ X, Four W4 X #[.string x0, .int .i64 x1, .string x2, .int .i64 x3, .int .i64 x4, .slice ux uy uz, .int .i64 x6, .int .i64 x7, .int .i64 x8, .int .i64 x9] #[.int .i64 1, .slice (some ⟨W4.heap.size, 0, none⟩) 1 1, .slice none 0 0, .slice none 0 0, .string ⟨#[]⟩, .slice none 0 0, .slice none 0 0, .int .i64 0, .int .u64 0, .int .i64 0, .int .i64 0, .int .i64 0, .int .i64 0, .int .i64 0] #[.string y0, .int .i64 y1, .string y2, .int .i64 y3, .int .i64 y4, .slice vx vy vz, .int .i64 y6, .int .i64 y7, .int .i64 y8, .int .i64 y9] #[.int .i64 1, .slice (some ⟨W4.heap.size + 1 + 1, 0, none⟩) 1 1, .slice none 0 0, .slice none 0 0, .string ⟨#[]⟩, .slice none 0 0, .slice none 0 0, .int .i64 0, .int .u64 0, .int .i64 0, .int .i64 0, .int .i64 0, .int .i64 0, .int .i64 0] 47 32 → Calls Try.prog 9 #[.agg #[.int .i64 1, .slice (some ⟨W4.heap.size + 1 + 1, 0, none⟩) 1 1, .slice none 0 0, .slice none 0 0, .string ⟨#[]⟩, .slice none 0 0, .slice none 0 0, .int .i64 0, .int .u64 0, .int .i64 0, .int .i64 0, .int .i64 0, .int .i64 0, .int .i64 0]] X fun e w' => e = .returned (.string ⟨#[]⟩) ∧ Below X.heap.size X w') := fun X hX => by
    have := bytes_any (leafP ⟨y0, y1, y2, y3, y4, y5, y6, ⟨y7, y8, y9⟩⟩) _ _ _ _ _ X (HY.out X hX) tY
    rw [show bytesD (leafP ⟨y0, y1, y2, y3, y4, y5, y6, ⟨y7, y8, y9⟩⟩) = [] by simp [bytesD, IY.out]] at this
    exact this
  have hE : ((bs (bytesD (leafP ⟨x0, x1, x2, x3, x4, x5, x6, ⟨x7, x8, x9⟩⟩))).toList == []) = false := by
    have := bytes_some (leafP ⟨x0, x1, x2, x3, x4, x5, x6, ⟨x7, x8, x9⟩⟩) IX.out
    rw [ByteArray.toList_eq, bs_list]
    cases hq : bytesD (leafP ⟨x0, x1, x2, x3, x4, x5, x6, ⟨x7, x8, x9⟩⟩) with
    | nil => rw [hq] at this; simp at this
    | cons a l => rfl
  generalize bs (bytesD (leafP ⟨x0, x1, x2, x3, x4, x5, x6, ⟨x7, x8, x9⟩⟩)) = LX at *
  clear HX HY tX tY IX IY L4 sX sY zX zY cx0 cx1 cx2 cx3 cx4 cx5 cx6 cx7 cx8 cx9 cy0 cy1 cy2 cy3 cy4 cy5 cy6 cy7 cy8 cy9 a6 a10 hgl hhl
  generalize (((W4.alloc (.cells #[.string x0, .int .i64 x1, .string x2, .int .i64 x3, .int .i64 x4, .slice ux uy uz, .int .i64 x6, .int .i64 x7, .int .i64 x8, .int .i64 x9] 47)).alloc (.cells #[.int .i64 1, .slice (some ⟨W4.heap.size, 0, none⟩) 1 1, .slice none 0 0, .slice none 0 0, .string ⟨#[]⟩, .slice none 0 0, .slice none 0 0, .int .i64 0, .int .u64 0, .int .i64 0, .int .i64 0, .int .i64 0, .int .i64 0, .int .i64 0] 32)).alloc (.cells #[.string y0, .int .i64 y1, .string y2, .int .i64 y3, .int .i64 y4, .slice vx vy vz, .int .i64 y6, .int .i64 y7, .int .i64 y8, .int .i64 y9] 47)).alloc (.cells #[.int .i64 1, .slice (some ⟨W4.heap.size + 1 + 1, 0, none⟩) 1 1, .slice none 0 0, .slice none 0 0, .string ⟨#[]⟩, .slice none 0 0, .slice none 0 0, .int .i64 0, .int .u64 0, .int .i64 0, .int .i64 0, .int .i64 0, .int .i64 0, .int .i64 0] 32) = X0 at *
  refine (CI.out _ HF.out).mono ?_
  rintro e w5 ⟨rfl, hb5⟩
  have HF5 := hid (HF.out.next hb5)
  have L6 := hid (L5.out.trans (hb5.mono L5.out.size))
  have c5 := cell_rowL HF5.out.b3
  clear hb5 HF L5 CI
  go_wp2_with fail
  refine (CJ.out _ HF5.out).mono ?_
  rintro e w6 ⟨rfl, hb6⟩
  have HF6 := hid (HF5.out.next hb6)
  have L7 := hid (L6.out.trans (hb6.mono L6.out.size))
  have c6 := cell_rowL HF6.out.b3
  clear hb6 HF5 L6 CJ c5
  go_wp2_with fail
  refine (CC.out _ HF6.out).mono ?_
  rintro e w7 ⟨rfl, hb7⟩
  have HF7 := hid (HF6.out.next hb7)
  have L8 := hid (L7.out.trans (hb7.mono L7.out.size))
  have c7 := cell_rowL HF7.out.b1
  clear hb7 HF6 L7 CC c6
  go_wp2_with fail
  refine (CB.out _ HF7.out).mono ?_
  rintro e w8 ⟨rfl, hb8⟩
  have L9 := hid (L8.out.trans (hb8.mono L8.out.size))
  clear hb8 HF7 L8 CB c7
  go_wp2
  go_ret
  exact ⟨rfl, L9.out⟩
end Go.Proofs.Ytkfhkhjoindcbaa
