/- Contract of the reference's test whether an item is right. -/
import Derived.Test.YtgnmjdcmaahlnaaGreatXPd
namespace Go.Proofs.YtgnmjdcmaahlnaaGreat
open Go.RowKit Go.Sort

def hasLong (x : ItemD) : Bool := x.run != 0 || x.len != 0
def hasDup (x : ItemD) : Bool := decide (0 < x.vals.length) || x.dup != 0
def hasRoot (x : ItemD) : Bool := !(x.root.page == 0 && (x.root.count == 0 && x.root.flags == 0))
def itemB (x : ItemD) : Bool :=
  if x.kind = 1 then shortB x.key && decide (x.val.size ≤ 12) && !hasLong x && !hasDup x && !hasRoot x
  else if x.kind = 2 then shortB x.key && x.val.toList.isEmpty && pageB x.run && decide (12 < x.len) && decide (x.len ≤ 1000) && !hasDup x && !hasRoot x
  else if x.kind = 3 then shortB x.key && x.val.toList.isEmpty && !hasLong x && !hasRoot x && (x.dup == 0 && valsB x.vals 1 3 || pageB x.dup && decide (x.vals.length = 0))
  else if x.kind = 4 then shortB x.key && x.val.toList.isEmpty && !hasLong x && !hasDup x && rootB x.root
  else false

theorem len_zero (n : Nat) : ((n : Int) == 0) = decide (n = 0) := by rw [Bool.eq_iff_iff]; simp
theorem neqRoot (a b c : Int) (w : World) : (binOp .neq 24 (.agg #[.int .i64 a, .int .i64 b, .int .i64 c]) (.agg #[.int .i64 0, .int .i64 0, .int .i64 0])).run Tryz.prog w = .ok (.bool (!(a == 0 && (b == 0 && c == 0)))) w := by
  by_cases ha : a = 0
  all_goals by_cases hb : b = 0
  all_goals by_cases hc : c = 0
  all_goals go_simp
set_option maxHeartbeats 2000000 in
theorem refItem_any (x : ItemD) (v : Value) (w : World) (hv : StrsAt w v x.vals) (hk : x.key.size ≤ maxLen) (hl : x.val.size ≤ maxLen) :
    Calls Tryz.prog 46 #[.agg (itemCells x v).toArray] w fun e w' => e = .returned (.bool (itemB x)) ∧ Below w.heap.size w w' := by
  obtain ⟨k1, d1, l1, r1, n1, s1, p1, ⟨g1, c1, f1⟩⟩ := x
  have HV : Hid (∀ W, Below w.heap.size w W → StrsAt W v s1) := fun W hW => hv.below hW
  obtain ⟨ao, cap, rfl, hsm, _⟩ := hv
  have HK := hid hk
  simp only at hk hl hsm
  unfold maxLen at hk hl hsm
  show Calls Tryz.prog _ #[.agg #[.string k1, .int .i64 d1, .string l1, .int .i64 r1, .int .i64 n1, .slice ao s1.length cap, .int .i64 p1, .int .i64 g1, .int .i64 c1, .int .i64 f1]] w _
  have HP := hid (fun (n : Int) W => refPage_any n W)
  have HSH := hid (fun W => refShort_any k1 W HK.out)
  have HR := hid (fun W => refRoot_any ⟨g1, c1, f1⟩ W)
  have HVA := hid (fun W hW => refVals_any s1 _ 1 3 W (HV.out W hW))
  have hnr := neqRoot g1 c1 f1
  clear HK HV
  cases hr : (r1 != 0)
  all_goals cases hs : decide (0 < s1.length)
  all_goals
    go_enter Tryz.func46, Tryz.ntmps46
    go_wp2_with fail
    refine wp_region_quiet_lit (by kernel_rfl) (by kernel_rfl) ?_
    repeat (go_big_quiet_step (fail))
    refine wpQuiet_nil ?_
    intro _ hw'
    obtain ⟨nq, hw''⟩ := hw'
    subst hw''
    clear hnr
    have hbX : Below w.heap.size w ((w.alloc (.cells #[.string k1, .int .i64 d1, .string l1, .int .i64 r1, .int .i64 n1, .slice ao s1.length cap, .int .i64 p1, .int .i64 g1, .int .i64 c1, .int .i64 f1] 72)).drewN nq) := ((Below.refl _ _).alloc (Nat.le_refl _) _).trans ((below_draws _ nq).mono (by simp))
    have hsz : w.heap.size < ((w.alloc (.cells #[.string k1, .int .i64 d1, .string l1, .int .i64 r1, .int .i64 n1, .slice ao s1.length cap, .int .i64 p1, .int .i64 g1, .int .i64 c1, .int .i64 f1] 72)).drewN nq).heap.size := by simp
    have hj0 : ((w.alloc (.cells #[.string k1, .int .i64 d1, .string l1, .int .i64 r1, .int .i64 n1, .slice ao s1.length cap, .int .i64 p1, .int .i64 g1, .int .i64 c1, .int .i64 f1] 72)).drewN nq).cell? ⟨w.heap.size, 0, none⟩ = some (.string k1) := by simp
    have hj1 : ((w.alloc (.cells #[.string k1, .int .i64 d1, .string l1, .int .i64 r1, .int .i64 n1, .slice ao s1.length cap, .int .i64 p1, .int .i64 g1, .int .i64 c1, .int .i64 f1] 72)).drewN nq).cell? ⟨w.heap.size, 1, none⟩ = some (.int .i64 d1) := by simp
    have hj2 : ((w.alloc (.cells #[.string k1, .int .i64 d1, .string l1, .int .i64 r1, .int .i64 n1, .slice ao s1.length cap, .int .i64 p1, .int .i64 g1, .int .i64 c1, .int .i64 f1] 72)).drewN nq).cell? ⟨w.heap.size, 2, none⟩ = some (.string l1) := by simp
    have hj3 : ((w.alloc (.cells #[.string k1, .int .i64 d1, .string l1, .int .i64 r1, .int .i64 n1, .slice ao s1.length cap, .int .i64 p1, .int .i64 g1, .int .i64 c1, .int .i64 f1] 72)).drewN nq).cell? ⟨w.heap.size, 3, none⟩ = some (.int .i64 r1) := by simp
    have hj4 : ((w.alloc (.cells #[.string k1, .int .i64 d1, .string l1, .int .i64 r1, .int .i64 n1, .slice ao s1.length cap, .int .i64 p1, .int .i64 g1, .int .i64 c1, .int .i64 f1] 72)).drewN nq).cell? ⟨w.heap.size, 4, none⟩ = some (.int .i64 n1) := by simp
    have hj5 : ((w.alloc (.cells #[.string k1, .int .i64 d1, .string l1, .int .i64 r1, .int .i64 n1, .slice ao s1.length cap, .int .i64 p1, .int .i64 g1, .int .i64 c1, .int .i64 f1] 72)).drewN nq).cell? ⟨w.heap.size, 5, none⟩ = some (.slice ao s1.length cap) := by simp
    have hj6 : ((w.alloc (.cells #[.string k1, .int .i64 d1, .string l1, .int .i64 r1, .int .i64 n1, .slice ao s1.length cap, .int .i64 p1, .int .i64 g1, .int .i64 c1, .int .i64 f1] 72)).drewN nq).cell? ⟨w.heap.size, 6, none⟩ = some (.int .i64 p1) := by simp
    have hj7 : ((w.alloc (.cells #[.string k1, .int .i64 d1, .string l1, .int .i64 r1, .int .i64 n1, .slice ao s1.length cap, .int .i64 p1, .int .i64 g1, .int .i64 c1, .int .i64 f1] 72)).drewN nq).cell? ⟨w.heap.size, 7, none⟩ = some (.int .i64 g1) := by simp
    have hj8 : ((w.alloc (.cells #[.string k1, .int .i64 d1, .string l1, .int .i64 r1, .int .i64 n1, .slice ao s1.length cap, .int .i64 p1, .int .i64 g1, .int .i64 c1, .int .i64 f1] 72)).drewN nq).cell? ⟨w.heap.size, 8, none⟩ = some (.int .i64 c1) := by simp
    have hj9 : ((w.alloc (.cells #[.string k1, .int .i64 d1, .string l1, .int .i64 r1, .int .i64 n1, .slice ao s1.length cap, .int .i64 p1, .int .i64 g1, .int .i64 c1, .int .i64 f1] 72)).drewN nq).cell? ⟨w.heap.size, 9, none⟩ = some (.int .i64 f1) := by simp
    generalize (w.alloc (.cells #[.string k1, .int .i64 d1, .string l1, .int .i64 r1, .int .i64 n1, .slice ao s1.length cap, .int .i64 p1, .int .i64 g1, .int .i64 c1, .int .i64 f1] 72)).drewN nq = X at *
    go_wp2_with (first
      | (go_at_call 48; refine Calls.mono (HSH.out _) ?_; rintro e w2 ⟨rfl, rfl⟩)
      | (go_at_call 47; refine Calls.mono (HP.out _ _) ?_; rintro e w2 ⟨rfl, rfl⟩)
      | (go_at_call 51; refine Calls.mono (HR.out _) ?_; rintro e w2 ⟨rfl, hb2⟩; have hX2 := hbX.trans (hb2.mono hbX.size); have hcc2 := bcell hb2; clear hb2)
      | (go_at_call 49; refine Calls.mono (HVA.out _ hbX) ?_; rintro e w2 ⟨rfl, hb2⟩; have hX3 := hbX.trans (hb2.mono hbX.size); have hcc3 := bcell hb2; clear hb2))
  all_goals
    go_ret
    refine ⟨ret_bool ?_, by assumption⟩
    clear hj0 hj1 hj2 hj3 hj4 hj5 hj6 hj7 hj8 hj9 hsz HP HSH HR HVA hbX
    try clear hX2 hcc2
    try clear hX3 hcc3
  all_goals first
    | (simp_all [itemB, hasLong, hasDup, hasRoot]; done)
    | (simp_all [itemB, hasLong, hasDup, hasRoot]; omega)
    | (rw [len_zero s1.length]; simp_all [itemB, hasLong, hasRoot])
end Go.Proofs.YtgnmjdcmaahlnaaGreat
