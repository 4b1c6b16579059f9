/- Contract of package page's Same. -/
import Derived.Test.YtpionokcabjokaaGreatXc
namespace Go.Proofs.YtpionokcabjokaaGreat
open Go.RowKit Go.Sort

def samePB (a b : PageD) : Bool :=
  (a.kind == b.kind) && sameItemsB a.items b.items && decide (a.keys = b.keys) && decide (a.kids = b.kids) && (a.text.toList == b.text.toList) && decide (a.vals = b.vals) && sameFreesB a.free b.free && (a.next == b.next) && sameMetaB a.mt b.mt

set_option maxHeartbeats 4000000 in
theorem same_any (a b : PageD) (vi vk vd vv vf ui uk ud uv uf : Value) (w : World) (ha : Hangs w a vi vk vd vv vf) (hb : Hangs w b ui uk ud uv uf) :
    Calls Tryz.prog 59 #[.agg (pageCells a vi vk vd vv vf).toArray, .agg (pageCells b ui uk ud uv uf).toArray] w fun e w' => e = .returned (.bool (samePB a b)) ∧ Below w.heap.size w w' := by
  obtain ⟨k1, i1, y1, d1, t1, v1, f1, n1, ⟨x1, ⟨g1, c1, q1⟩, r1, l1⟩⟩ := a
  obtain ⟨k2, i2, y2, d2, t2, v2, f2, n2, ⟨x2, ⟨g2, c2, q2⟩, r2, l2⟩⟩ := b
  have HA : Hid (∀ W, Below w.heap.size w W → Hangs W _ vi vk vd vv vf) := fun W hW => ha.below hW
  have HB : Hid (∀ W, Below w.heap.size w W → Hangs W _ ui uk ud uv uf) := fun W hW => hb.below hW
  clear ha hb
  have HI : Hid (∀ W, Below w.heap.size w W → Calls Tryz.prog 83 #[vi, ui, .func (.func 84) #[] #[]] W fun e w' => e = .returned (.bool (sameItemsB i1 i2)) ∧ Below W.heap.size W w') := fun W hW => equalItems_any _ _ _ _ _ (HA.out W hW).items (HB.out W hW).items
  have HK : Hid (∀ W, Below w.heap.size w W → Calls Tryz.prog 85 #[vk, uk] W fun e w' => e = .returned (.bool (decide (y1 = y2))) ∧ Below W.heap.size W w') := fun W hW => equalS_any _ _ _ _ _ (HA.out W hW).keys (HB.out W hW).keys
  have HD : Hid (∀ W, Below w.heap.size w W → Calls Tryz.prog 86 #[vd, ud] W fun e w' => e = .returned (.bool (decide (d1 = d2))) ∧ Below W.heap.size W w') := fun W hW => equalI_any _ _ _ _ _ (HA.out W hW).kids (HB.out W hW).kids
  have HV : Hid (∀ W, Below w.heap.size w W → Calls Tryz.prog 85 #[vv, uv] W fun e w' => e = .returned (.bool (decide (v1 = v2))) ∧ Below W.heap.size W w') := fun W hW => equalS_any _ _ _ _ _ (HA.out W hW).vals (HB.out W hW).vals
  have HF : Hid (∀ W, Below w.heap.size w W → Calls Tryz.prog 87 #[vf, uf, .func (.func 88) #[] #[]] W fun e w' => e = .returned (.bool (sameFreesB f1 f2)) ∧ Below W.heap.size W w') := fun W hW => equalFrees_any _ _ _ _ _ (HA.out W hW).free (HB.out W hW).free
  clear HA HB
  show Calls Tryz.prog _ #[.agg #[.int .i64 k1, vi, vk, vd, .string t1, vv, vf, .int .i64 n1, .int .u64 x1, .int .i64 g1, .int .i64 c1, .int .i64 q1, .int .i64 r1, .int .i64 l1], .agg #[.int .i64 k2, ui, uk, ud, .string t2, uv, uf, .int .i64 n2, .int .u64 x2, .int .i64 g2, .int .i64 c2, .int .i64 q2, .int .i64 r2, .int .i64 l2]] w _
  go_enter Tryz.func59, Tryz.ntmps59
  go_wp2_with (first
    | (go_at_call 83; refine Calls.mono (HI.out _ ?_) ?_; exact base2 (by first | assumption | exact Below.refl _ _); rintro e w2 ⟨rfl, hb2⟩; have hX0 := step2 (by first | assumption | exact Below.refl _ _) hb2; have hcc0 := cells2 hX0; clear hb2)
    | (go_at_call_of 85 vk; refine Calls.mono (HK.out _ ?_) ?_; exact base2 (by first | assumption | exact Below.refl _ _); rintro e w2 ⟨rfl, hb2⟩; have hX1 := step2 (by first | assumption | exact Below.refl _ _) hb2; have hcc1 := cells2 hX1; clear hb2)
    | (go_at_call_of 86 vd; refine Calls.mono (HD.out _ ?_) ?_; exact base2 (by first | assumption | exact Below.refl _ _); rintro e w2 ⟨rfl, hb2⟩; have hX2 := step2 (by first | assumption | exact Below.refl _ _) hb2; have hcc2 := cells2 hX2; clear hb2)
    | (go_at_call_of 85 vv; refine Calls.mono (HV.out _ ?_) ?_; exact base2 (by first | assumption | exact Below.refl _ _); rintro e w2 ⟨rfl, hb2⟩; have hX3 := step2 (by first | assumption | exact Below.refl _ _) hb2; have hcc3 := cells2 hX3; clear hb2)
    | (go_at_call 87; refine Calls.mono (HF.out _ ?_) ?_; exact base2 (by first | assumption | exact Below.refl _ _); rintro e w2 ⟨rfl, hb2⟩; have hX4 := step2 (by first | assumption | exact Below.refl _ _) hb2; have hcc4 := cells2 hX4; clear hb2))
  all_goals
    go_ret
    refine ⟨ret_bool ?_, base2 (by first | assumption | exact Below.refl _ _)⟩
    clear HI HK HD HV HF
    try clear hX0 hcc0
    try clear hX1 hcc1
    try clear hX2 hcc2
    try clear hX3 hcc3
    try clear hX4 hcc4
    simp_all [samePB, sameMetaB]
end Go.Proofs.YtpionokcabjokaaGreat
