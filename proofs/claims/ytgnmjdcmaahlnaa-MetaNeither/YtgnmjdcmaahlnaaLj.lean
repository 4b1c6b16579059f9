/- Contract of package page's Is. -/
import Derived.Test.YtgnmjdcmaahlnaaLd
import Derived.Test.YtgnmjdcmaahlnaaLi
namespace Go.Proofs.Ytgnmjdcmaahlnaa
open Go.RowKit Go.Sort

def isPB (p : PageD) : Bool := rightB p && samePB p (ownD p)

theorem range14 {w : World} {b o : Nat} {p : PageD} {vi vk vd vv vf : Value} (h : w.rangeAt b o (pageCells p vi vk vd vv vf)) :
    w.cell? ⟨b, o, none⟩ = some (.int .i64 p.kind) ∧ w.cell? ⟨b, o + 1, none⟩ = some vi ∧ w.cell? ⟨b, o + 2, none⟩ = some vk ∧ w.cell? ⟨b, o + 3, none⟩ = some vd ∧ w.cell? ⟨b, o + 4, none⟩ = some (.string p.text) ∧
    w.cell? ⟨b, o + 5, none⟩ = some vv ∧ w.cell? ⟨b, o + 6, none⟩ = some vf ∧ w.cell? ⟨b, o + 7, none⟩ = some (.int .i64 p.next) ∧ w.cell? ⟨b, o + 8, none⟩ = some (.int .u64 p.mt.txn) ∧ w.cell? ⟨b, o + 9, none⟩ = some (.int .i64 p.mt.main.page) ∧
    w.cell? ⟨b, o + 10, none⟩ = some (.int .i64 p.mt.main.count) ∧ w.cell? ⟨b, o + 11, none⟩ = some (.int .i64 p.mt.main.flags) ∧ w.cell? ⟨b, o + 12, none⟩ = some (.int .i64 p.mt.free) ∧ w.cell? ⟨b, o + 13, none⟩ = some (.int .i64 p.mt.last) :=
  ⟨h 0 _ rfl, h 1 _ rfl, h 2 _ rfl, h 3 _ rfl, h 4 _ rfl, h 5 _ rfl, h 6 _ rfl, h 7 _ rfl, h 8 _ rfl, h 9 _ rfl, h 10 _ rfl, h 11 _ rfl, h 12 _ rfl, h 13 _ rfl⟩
theorem rangeNew (w : World) (cs : List Value) (T : TypeId) : (w.alloc (.cells cs.toArray T)).rangeAt w.heap.size 0 cs := by
  intro j u hj
  rw [Nat.zero_add, cell_rowL (heap_newL w _)]
  simpa using hj

theorem items_nil (w : World) : ItemsAt w (.slice none 0 0) [] := ⟨none, 0, rfl, Nat.zero_le _, fun i hi => absurd hi (by simp)⟩
theorem ints_nil (w : World) : IntsAt w (.slice none 0 0) [] := ⟨none, 0, rfl, Nat.zero_le _, fun i hi => absurd hi (by simp)⟩
theorem frees_nil (w : World) : FreesAt w (.slice none 0 0) [] := ⟨none, 0, rfl, Nat.zero_le _, fun i hi => absurd hi (by simp)⟩
theorem hangs_own {w : World} {p : PageD} {vi vk vd vv vf : Value} (h : Hangs w p vi vk vd vv vf) : Hangs w (ownD p) (onKind p.kind 1 vi) (onKind p.kind 2 vk) (onKind p.kind 2 vd) (onKind p.kind 4 vv) (onKind p.kind 5 vf) := by
  have e : (⟨#[]⟩ : ByteArray).size ≤ maxLen := Nat.zero_le _
  unfold ownD onKind
  by_cases h1 : p.kind = 1
  · simp only [h1, ↓reduceIte, noPage]
    exact ⟨h.items, strs_nil w, ints_nil w, e, strs_nil w, frees_nil w⟩
  by_cases h2 : p.kind = 2
  · simp only [h2, ↓reduceIte, noPage]
    exact ⟨items_nil w, h.keys, h.kids, e, strs_nil w, frees_nil w⟩
  by_cases h3 : p.kind = 3
  · simp only [h3, ↓reduceIte, noPage]
    exact ⟨items_nil w, strs_nil w, ints_nil w, h.text, strs_nil w, frees_nil w⟩
  by_cases h4 : p.kind = 4
  · simp only [h4, ↓reduceIte, noPage]
    exact ⟨items_nil w, strs_nil w, ints_nil w, e, h.vals, frees_nil w⟩
  by_cases h5 : p.kind = 5
  · simp only [h5, ↓reduceIte, noPage]
    exact ⟨items_nil w, strs_nil w, ints_nil w, e, strs_nil w, h.free⟩
  by_cases h6 : p.kind = 6
  · simp only [h6, ↓reduceIte, noPage]
    exact ⟨items_nil w, strs_nil w, ints_nil w, e, strs_nil w, frees_nil w⟩
  · simp only [h1, h2, h3, h4, h5, h6, ↓reduceIte, noPage]
    exact ⟨items_nil w, strs_nil w, ints_nil w, e, strs_nil w, frees_nil w⟩
theorem StrsAt.slice {w : World} {v : Value} {l : List ByteArray} (h : StrsAt w v l) : ∃ ao n cap, v = .slice ao n cap := by
  obtain ⟨ao, cap, rfl, _⟩ := h
  exact ⟨_, _, _, rfl⟩
theorem IntsAt.slice {w : World} {v : Value} {l : List Int} (h : IntsAt w v l) : ∃ ao n cap, v = .slice ao n cap := by
  obtain ⟨ao, cap, rfl, _⟩ := h
  exact ⟨_, _, _, rfl⟩
theorem ItemsAt.slice {w : World} {v : Value} {l : List ItemD} (h : ItemsAt w v l) : ∃ ao n cap, v = .slice ao n cap := by
  obtain ⟨ao, cap, rfl, _⟩ := h
  exact ⟨_, _, _, rfl⟩
theorem FreesAt.slice {w : World} {v : Value} {l : List FreeD} (h : FreesAt w v l) : ∃ ao n cap, v = .slice ao n cap := by
  obtain ⟨ao, cap, rfl, _⟩ := h
  exact ⟨_, _, _, rfl⟩

set_option maxHeartbeats 2000000 in
theorem is_any (p : PageD) (vi vk vd vv vf : Value) (w : World) (ha : Hangs w p vi vk vd vv vf) :
    Calls Try.prog 17 #[.agg (pageCells p vi vk vd vv vf).toArray] w fun e w' => e = .returned (.bool (isPB p)) ∧ Below w.heap.size w w' := by
  have HA : Hid (∀ W, Below w.heap.size w W → Hangs W p vi vk vd vv vf) := fun W hW => ha.below hW
  have si := ha.items.slice
  have sk := ha.keys.slice
  have sd := ha.kids.slice
  have sv := ha.vals.slice
  have sf := ha.free.slice
  clear ha
  have HB1 : Hid (Below w.heap.size w (w.alloc (.cells (pageCells p vi vk vd vv vf).toArray 49))) := (Below.refl _ _).alloc (Nat.le_refl _) _
  have hXr := rangeNew w (pageCells p vi vk vd vv vf) 49
  have hXs : w.heap.size < (w.alloc (.cells (pageCells p vi vk vd vv vf).toArray 49)).heap.size := by simp
  have hX2 := fun X (h : X = w.alloc (.cells (pageCells p vi vk vd vv vf).toArray 49)) d os => range14 (range_below (h ▸ hXr) (below_regrown X d os) (h ▸ hXs))
  simp only [Nat.zero_add] at hX2
  have HRI : Hid (∀ X, Below w.heap.size w X → ∀ d os, Calls Try.prog 23 #[.agg (pageCells p vi vk vd vv vf).toArray] (grow (redrawn X d) os) fun e w'' => e = .returned (.bool (rightB p)) ∧ ∃ q : Regrown, w'' = grow (redrawn X q.d) q.os) := fun X hX d os =>
    Calls.regrown_of (right_any p _ _ _ _ _ _ (HA.out _ (hX.trans ((below_regrown X d os).mono hX.size))))
  have HOW : Hid (∀ X, Below w.heap.size w X → ∀ d os, Calls Try.prog 25 #[.agg (pageCells p vi vk vd vv vf).toArray] (grow (redrawn X d) os) fun e w'' => e = .returned (.agg (pageCells (ownD p) (onKind p.kind 1 vi) (onKind p.kind 2 vk) (onKind p.kind 2 vd) (onKind p.kind 4 vv) (onKind p.kind 5 vf)).toArray) ∧ ∃ q : Regrown, w'' = grow (redrawn X q.d) q.os) := fun X hX d os =>
    Calls.regrown_of (own_any p _ _ _ _ _ _ si sk sd sv sf)
  have HSA : Hid (∀ X, Below w.heap.size w X → ∀ d os, Calls Try.prog 24 #[.agg (pageCells p vi vk vd vv vf).toArray, .agg (pageCells (ownD p) (onKind p.kind 1 vi) (onKind p.kind 2 vk) (onKind p.kind 2 vd) (onKind p.kind 4 vv) (onKind p.kind 5 vf)).toArray] (grow (redrawn X d) os) fun e w'' => e = .returned (.bool (samePB p (ownD p))) ∧ ∃ q : Regrown, w'' = grow (redrawn X q.d) q.os) := fun X hX d os =>
    Calls.regrown_of (same_any p (ownD p) _ _ _ _ _ _ _ _ _ _ _ (HA.out _ (hX.trans ((below_regrown X d os).mono hX.size))) (hangs_own (HA.out _ (hX.trans ((below_regrown X d os).mono hX.size)))))
  generalize (pageCells (ownD p) (onKind p.kind 1 vi) (onKind p.kind 2 vk) (onKind p.kind 2 vd) (onKind p.kind 4 vv) (onKind p.kind 5 vf)).toArray = OA at *
  have HI : Hid (isPB p = (rightB p && samePB p (ownD p))) := rfl
  generalize isPB p = RES at *
  generalize rightB p = R1 at *
  generalize samePB p (ownD p) = R2 at *
  clear HA si sk sd sv sf
  obtain ⟨k1, i1, y1, d1, t1, v1, f1, n1, ⟨x1, ⟨g1, c1, q1⟩, r1, l1⟩⟩ := p
  have HB2 : Hid (Below w.heap.size w (w.alloc (.cells #[.int .i64 k1, vi, vk, vd, .string t1, vv, vf, .int .i64 n1, .int .u64 x1, .int .i64 g1, .int .i64 c1, .int .i64 q1, .int .i64 r1, .int .i64 l1] 49))) := HB1.out
  have hl2 := hX2 (w.alloc (.cells #[.int .i64 k1, vi, vk, vd, .string t1, vv, vf, .int .i64 n1, .int .u64 x1, .int .i64 g1, .int .i64 c1, .int .i64 q1, .int .i64 r1, .int .i64 l1] 49)) rfl
  have HRI2 : Hid (∀ X, Below w.heap.size w X → ∀ d os, Calls Try.prog 23 #[.agg #[.int .i64 k1, vi, vk, vd, .string t1, vv, vf, .int .i64 n1, .int .u64 x1, .int .i64 g1, .int .i64 c1, .int .i64 q1, .int .i64 r1, .int .i64 l1]] (grow (redrawn X d) os) fun e w'' => e = .returned (.bool R1) ∧ ∃ q : Regrown, w'' = grow (redrawn X q.d) q.os) := HRI.out
  have HOW2 : Hid (∀ X, Below w.heap.size w X → ∀ d os, Calls Try.prog 25 #[.agg #[.int .i64 k1, vi, vk, vd, .string t1, vv, vf, .int .i64 n1, .int .u64 x1, .int .i64 g1, .int .i64 c1, .int .i64 q1, .int .i64 r1, .int .i64 l1]] (grow (redrawn X d) os) fun e w'' => e = .returned (.agg OA) ∧ ∃ q : Regrown, w'' = grow (redrawn X q.d) q.os) := HOW.out
  have HSA2 : Hid (∀ X, Below w.heap.size w X → ∀ d os, Calls Try.prog 24 #[.agg #[.int .i64 k1, vi, vk, vd, .string t1, vv, vf, .int .i64 n1, .int .u64 x1, .int .i64 g1, .int .i64 c1, .int .i64 q1, .int .i64 r1, .int .i64 l1], .agg OA] (grow (redrawn X d) os) fun e w'' => e = .returned (.bool R2) ∧ ∃ q : Regrown, w'' = grow (redrawn X q.d) q.os) := HSA.out
  show Calls Try.prog _ #[.agg #[.int .i64 k1, vi, vk, vd, .string t1, vv, vf, .int .i64 n1, .int .u64 x1, .int .i64 g1, .int .i64 c1, .int .i64 q1, .int .i64 r1, .int .i64 l1]] w _
  clear HRI HOW HSA HB1 hX2 hXr hXs
  go_enter Try.func17, Try.ntmps17
  go_wp2_with fail
  generalize (w.alloc (.cells #[.int .i64 k1, vi, vk, vd, .string t1, vv, vf, .int .i64 n1, .int .u64 x1, .int .i64 g1, .int .i64 c1, .int .i64 q1, .int .i64 r1, .int .i64 l1] 49)) = X at *
  have HR := hid (HRI2.out X HB2.out)
  have HO := hid (HOW2.out X HB2.out)
  have HS := hid (HSA2.out X HB2.out)
  clear HRI2 HOW2 HSA2
  cases R1
  all_goals
    refine wp_region_quiet_below (by kernel_rfl) (by kernel_rfl) ?_
    repeat (go_big_quiet_step (first | exact HR.out _ _ | exact HO.out _ _ | exact HS.out _ _))
    refine wpQuiet_nil ?_
    intro _ hw'
    obtain ⟨⟨dq, osq⟩, hw''⟩ := hw'
    subst hw''
    have HBE := hid (HB2.out.trans ((below_regrown X dq osq).mono HB2.out.size))
    clear hl2
    go_wp2
    go_ret
    refine ⟨ret_bool ?_, HBE.out⟩
    rw [HI.out]
    rfl
end Go.Proofs.Ytgnmjdcmaahlnaa
