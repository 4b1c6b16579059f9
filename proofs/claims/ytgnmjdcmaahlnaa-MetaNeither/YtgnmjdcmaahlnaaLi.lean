/- Contract of package page's right: whether the parts that a page's kind has are right. -/
import Derived.Test.YtgnmjdcmaahlnaaLg
import Derived.Test.YtgnmjdcmaahlnaaLh
namespace Go.Proofs.Ytgnmjdcmaahlnaa
open Go.RowKit Go.Sort

def rightB (p : PageD) : Bool :=
  if p.kind = 1 then rightItemsB p.items
  else if p.kind = 2 then rightKidsB p.keys p.kids
  else if p.kind = 3 then sizedB p.text 1 100
  else if p.kind = 4 then rightValsB p.vals 4 12
  else if p.kind = 5 then rightFreeB p.free && noneB p.next
  else if p.kind = 6 then rootB p.mt.main && noneB p.mt.free && withinB p.mt.last 2 400
  else false

theorem below_box {w X : World} {o : Obj} (hb : Below (w.alloc o).heap.size (w.alloc o) X) : Below w.heap.size w X :=
  ((Below.refl _ _).alloc (Nat.le_refl _) o).trans (hb.mono (by simp))
theorem below_box2 {w X : World} {o o2 : Obj} (hb : Below ((w.alloc o).alloc o2).heap.size ((w.alloc o).alloc o2) X) : Below w.heap.size w X :=
  (((Below.refl _ _).alloc (Nat.le_refl _) o).alloc (by simp) o2).trans (hb.mono (by simp; omega))

set_option maxHeartbeats 2000000 in
theorem right_any (p : PageD) (vi vk vd vv vf : Value) (w : World) (ha : Hangs w p vi vk vd vv vf) :
    Calls Try.prog 23 #[.agg (pageCells p vi vk vd vv vf).toArray] w fun e w' => e = .returned (.bool (rightB p)) ∧ Below w.heap.size w w' := by
  obtain ⟨k1, i1, y1, d1, t1, v1, f1, n1, ⟨x1, ⟨g1, c1, q1⟩, r1, l1⟩⟩ := p
  have HA : Hid (∀ W, Below w.heap.size w W → Hangs W ⟨k1, i1, y1, d1, t1, v1, f1, n1, ⟨x1, ⟨g1, c1, q1⟩, r1, l1⟩⟩ vi vk vd vv vf) := fun W hW => ha.below hW
  have HT : Hid (t1.size ≤ maxLen) := ha.text
  clear ha
  show Calls Try.prog _ #[.agg #[.int .i64 k1, vi, vk, vd, .string t1, vv, vf, .int .i64 n1, .int .u64 x1, .int .i64 g1, .int .i64 c1, .int .i64 q1, .int .i64 r1, .int .i64 l1]] w _
  go_enter Try.func23, Try.ntmps23
  go_wp2_with (first
    | (go_at_call 37; refine Calls.mono (rightItems_any i1 _ _ (HA.out _ ((Below.refl _ _).alloc (Nat.le_refl _) _)).items) ?_; rintro e w2 ⟨rfl, hb2⟩)
    | (go_at_call 38; refine Calls.mono (rightKids_any y1 d1 _ _ _ (HA.out _ ((Below.refl _ _).alloc (Nat.le_refl _) _)).keys (HA.out _ ((Below.refl _ _).alloc (Nat.le_refl _) _)).kids) ?_; rintro e w2 ⟨rfl, hb2⟩)
    | (go_at_call 39; refine Calls.mono (sized_any _ _ _ _ HT.out) ?_; rintro e w2 ⟨rfl, rfl⟩)
    | (go_at_call 40; refine Calls.mono (rightVals_any v1 _ _ _ _ (HA.out _ ((Below.refl _ _).alloc (Nat.le_refl _) _)).vals) ?_; rintro e w2 ⟨rfl, hb2⟩)
    | (go_at_call 41; refine Calls.mono (rightFree_any f1 _ _ (HA.out _ ((Below.refl _ _).alloc (Nat.le_refl _) _)).free) ?_; rintro e w2 ⟨rfl, hb2⟩; have hcc := bcell hb2)
    | (go_at_call 43; refine Calls.mono (rightRoot_any ⟨g1, c1, q1⟩ _) ?_; rintro e w2 ⟨rfl, hb2⟩; have hcc := bcell hb2)
    | (go_at_call 42; refine Calls.mono (orNone_any _ _) ?_; rintro e w2 ⟨rfl, hw2⟩; subst hw2)
    | (go_at_call 44; refine Calls.mono (within_any _ _ _ _) ?_; rintro e w2 ⟨rfl, hw2⟩; subst hw2))
  all_goals
    go_ret
    refine ⟨ret_bool ?_, by first | exact (Below.refl _ _).alloc (Nat.le_refl _) _ | exact below_box hb2 | exact below_box2 hb2⟩
    clear HA HT
    try clear hcc
    try clear hb2
    simp_all [rightB]
end Go.Proofs.Ytgnmjdcmaahlnaa
