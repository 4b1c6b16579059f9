/- Contract of the reference's test whether an item is right. Contract of the reference's test whether a page of free numbers is right. -/
import Derived.Test.YtpionokcabjokaaGreatZi
namespace Go.Proofs.YtpionokcabjokaaGreat
open Go.RowKit Go.Sort

def hasLong (x : ItemD) : Bool := x.run != 0 || x.len != 0
def hasDup (x : ItemD) : Bool := decide (0 < x.vals.length) || x.dup != 0
def hasRoot (x : ItemD) : Bool := !(x.root.page == 0 && (x.root.count == 0 && x.root.flags == 0))
def itemB (x : ItemD) : Bool :=
  if x.kind = 1 then shortB x.key && decide (x.val.size ≤ 12) && !hasLong x && !hasDup x && !hasRoot x
  else if x.kind = 2 then shortB x.key && x.val.toList.isEmpty && pageB x.run && decide (12 < x.len) && decide (x.len ≤ 1000) && !hasDup x && !hasRoot x
  else if x.kind = 3 then shortB x.key && x.val.toList.isEmpty && !hasLong x && !hasRoot x && (x.dup == 0 && valsB x.vals 1 3 || pageB x.dup && decide (x.vals.length = 0))
  else if x.kind = 4 then shortB x.key && x.val.toList.isEmpty && !hasLong x && !hasDup x && rootB x.root
  else false

theorem len_zero (n : Nat) : ((n : Int) == 0) = decide (n = 0) := by rw [Bool.eq_iff_iff]; simp
theorem neqRoot (a b c : Int) (w : World) : (binOp .neq 31 (.agg #[.int .i64 a, .int .i64 b, .int .i64 c]) (.agg #[.int .i64 0, .int .i64 0, .int .i64 0])).run Tryz.prog w = .ok (.bool (!(a == 0 && (b == 0 && c == 0)))) w := by
  by_cases ha : a = 0
  all_goals by_cases hb : b = 0
  all_goals by_cases hc : c = 0
  all_goals go_simp
set_option maxHeartbeats 2000000 in
theorem refItem_any (x : ItemD) (v : Value) (w : World) (hv : StrsAt w v x.vals) (hk : x.key.size ≤ maxLen) (hl : x.val.size ≤ maxLen) :
    Calls Tryz.prog 50 #[.agg (itemCells x v).toArray] w fun e w' => e = .returned (.bool (itemB x)) ∧ Below w.heap.size w w' := by
  obtain ⟨k1, d1, l1, r1, n1, s1, p1, ⟨g1, c1, f1⟩⟩ := x
  have HV : Hid (∀ W, Below w.heap.size w W → StrsAt W v s1) := fun W hW => hv.below hW
  obtain ⟨ao, cap, rfl, hsm, _⟩ := hv
  have HK := hid hk
  simp only at hk hl hsm
  unfold maxLen at hk hl hsm
  show Calls Tryz.prog _ #[.agg #[.string k1, .int .i64 d1, .string l1, .int .i64 r1, .int .i64 n1, .slice ao s1.length cap, .int .i64 p1, .int .i64 g1, .int .i64 c1, .int .i64 f1]] w _
  have HP := hid (fun (n : Int) W => refPage_any n W)
  have HSH := hid (fun W => refShort_any k1 W HK.out)
  have HR := hid (fun W => refRoot_any ⟨g1, c1, f1⟩ W)
  have HVA := hid (fun W hW => refVals_any s1 _ 1 3 W (HV.out W hW))
  have hnr := neqRoot g1 c1 f1
  clear HK HV
  cases hr : (r1 != 0)
  all_goals cases hs : decide (0 < s1.length)
  all_goals
    go_enter Tryz.func50, Tryz.ntmps50
    go_wp2_with fail
    refine wp_region_quiet_lit (by kernel_rfl) (by kernel_rfl) ?_
    repeat (go_big_quiet_step (fail))
    refine wpQuiet_nil ?_
    intro _ hw'
    obtain ⟨nq, hw''⟩ := hw'
    subst hw''
    clear hnr
    have hbX : Below w.heap.size w ((w.alloc (.cells #[.string k1, .int .i64 d1, .string l1, .int .i64 r1, .int .i64 n1, .slice ao s1.length cap, .int .i64 p1, .int .i64 g1, .int .i64 c1, .int .i64 f1] 67)).drewN nq) := ((Below.refl _ _).alloc (Nat.le_refl _) _).trans ((below_draws _ nq).mono (by simp))
    have hsz : w.heap.size < ((w.alloc (.cells #[.string k1, .int .i64 d1, .string l1, .int .i64 r1, .int .i64 n1, .slice ao s1.length cap, .int .i64 p1, .int .i64 g1, .int .i64 c1, .int .i64 f1] 67)).drewN nq).heap.size := by simp
    have hj0 : ((w.alloc (.cells #[.string k1, .int .i64 d1, .string l1, .int .i64 r1, .int .i64 n1, .slice ao s1.length cap, .int .i64 p1, .int .i64 g1, .int .i64 c1, .int .i64 f1] 67)).drewN nq).cell? ⟨w.heap.size, 0, none⟩ = some (.string k1) := by simp
    have hj1 : ((w.alloc (.cells #[.string k1, .int .i64 d1, .string l1, .int .i64 r1, .int .i64 n1, .slice ao s1.length cap, .int .i64 p1, .int .i64 g1, .int .i64 c1, .int .i64 f1] 67)).drewN nq).cell? ⟨w.heap.size, 1, none⟩ = some (.int .i64 d1) := by simp
    have hj2 : ((w.alloc (.cells #[.string k1, .int .i64 d1, .string l1, .int .i64 r1, .int .i64 n1, .slice ao s1.length cap, .int .i64 p1, .int .i64 g1, .int .i64 c1, .int .i64 f1] 67)).drewN nq).cell? ⟨w.heap.size, 2, none⟩ = some (.string l1) := by simp
    have hj3 : ((w.alloc (.cells #[.string k1, .int .i64 d1, .string l1, .int .i64 r1, .int .i64 n1, .slice ao s1.length cap, .int .i64 p1, .int .i64 g1, .int .i64 c1, .int .i64 f1] 67)).drewN nq).cell? ⟨w.heap.size, 3, none⟩ = some (.int .i64 r1) := by simp
    have hj4 : ((w.alloc (.cells #[.string k1, .int .i64 d1, .string l1, .int .i64 r1, .int .i64 n1, .slice ao s1.length cap, .int .i64 p1, .int .i64 g1, .int .i64 c1, .int .i64 f1] 67)).drewN nq).cell? ⟨w.heap.size, 4, none⟩ = some (.int .i64 n1) := by simp
    have hj5 : ((w.alloc (.cells #[.string k1, .int .i64 d1, .string l1, .int .i64 r1, .int .i64 n1, .slice ao s1.length cap, .int .i64 p1, .int .i64 g1, .int .i64 c1, .int .i64 f1] 67)).drewN nq).cell? ⟨w.heap.size, 5, none⟩ = some (.slice ao s1.length cap) := by simp
    have hj6 : ((w.alloc (.cells #[.string k1, .int .i64 d1, .string l1, .int .i64 r1, .int .i64 n1, .slice ao s1.length cap, .int .i64 p1, .int .i64 g1, .int .i64 c1, .int .i64 f1] 67)).drewN nq).cell? ⟨w.heap.size, 6, none⟩ = some (.int .i64 p1) := by simp
    have hj7 : ((w.alloc (.cells #[.string k1, .int .i64 d1, .string l1, .int .i64 r1, .int .i64 n1, .slice ao s1.length cap, .int .i64 p1, .int .i64 g1, .int .i64 c1, .int .i64 f1] 67)).drewN nq).cell? ⟨w.heap.size, 7, none⟩ = some (.int .i64 g1) := by simp
    have hj8 : ((w.alloc (.cells #[.string k1, .int .i64 d1, .string l1, .int .i64 r1, .int .i64 n1, .slice ao s1.length cap, .int .i64 p1, .int .i64 g1, .int .i64 c1, .int .i64 f1] 67)).drewN nq).cell? ⟨w.heap.size, 8, none⟩ = some (.int .i64 c1) := by simp
    have hj9 : ((w.alloc (.cells #[.string k1, .int .i64 d1, .string l1, .int .i64 r1, .int .i64 n1, .slice ao s1.length cap, .int .i64 p1, .int .i64 g1, .int .i64 c1, .int .i64 f1] 67)).drewN nq).cell? ⟨w.heap.size, 9, none⟩ = some (.int .i64 f1) := by simp
    generalize (w.alloc (.cells #[.string k1, .int .i64 d1, .string l1, .int .i64 r1, .int .i64 n1, .slice ao s1.length cap, .int .i64 p1, .int .i64 g1, .int .i64 c1, .int .i64 f1] 67)).drewN nq = X at *
    go_wp2_with (first
      | (go_at_call 52; refine Calls.mono (HSH.out _) ?_; rintro e w2 ⟨rfl, rfl⟩)
      | (go_at_call 51; refine Calls.mono (HP.out _ _) ?_; rintro e w2 ⟨rfl, rfl⟩)
      | (go_at_call 55; refine Calls.mono (HR.out _) ?_; rintro e w2 ⟨rfl, hb2⟩; have hX2 := hbX.trans (hb2.mono hbX.size); have hcc2 := bcell hb2; clear hb2)
      | (go_at_call 53; refine Calls.mono (HVA.out _ hbX) ?_; rintro e w2 ⟨rfl, hb2⟩; have hX3 := hbX.trans (hb2.mono hbX.size); have hcc3 := bcell hb2; clear hb2))
  all_goals
    go_ret
    refine ⟨ret_bool ?_, by assumption⟩
    clear hj0 hj1 hj2 hj3 hj4 hj5 hj6 hj7 hj8 hj9 hsz HP HSH HR HVA hbX
    try clear hX2 hcc2
    try clear hX3 hcc3
  all_goals first
    | (simp_all [itemB, hasLong, hasDup, hasRoot]; done)
    | (simp_all [itemB, hasLong, hasDup, hasRoot]; omega)
    | (rw [len_zero s1.length]; simp_all [itemB, hasLong, hasRoot])
end Go.Proofs.YtpionokcabjokaaGreat

namespace Go.Proofs.YtpionokcabjokaaGreat
open Go.RowKit Go.Sort

def goodID (ids : List Int) (k : Nat) : Bool := pageB (ids.getD k 0) && (k == 0 || decide (ids.getD (k - 1) 0 < ids.getD k 0))
def freeAt (l : List FreeD) (i : Nat) : FreeD := l.getD i ⟨0, []⟩
def goodF (l : List FreeD) (i : Nat) : Bool :=
  !decide ((freeAt l i).ids.length = 0) && (i == 0 || decide ((freeAt l (i - 1)).txn ≤ (freeAt l i).txn)) && (List.range (freeAt l i).ids.length).all (goodID (freeAt l i).ids)
def sumLen (l : List FreeD) : Nat → Nat
  | 0 => 0
  | k + 1 => sumLen l k + (freeAt l k).ids.length
def freesB (l : List FreeD) (next : Int) : Bool := (List.range l.length).all (goodF l) && decide (sumLen l l.length ≤ 20) && (next == 0 || pageB next)

theorem ids_ge (ids : List Int) : ∀ k, (List.range (k + 1)).all (goodID ids) = true → (2 : Int) + k ≤ ids.getD k 0
  | 0, h => by
    rw [all_range_succ] at h
    simp [goodID, pageB] at h
    simp
    omega
  | k + 1, h => by
    rw [all_range_succ, Bool.and_eq_true] at h
    have h1 := ids_ge ids k h.1
    have h2 := h.2
    simp only [goodID, Bool.and_eq_true, Bool.or_eq_true, decide_eq_true_eq, beq_iff_eq, Nat.add_sub_cancel] at h2
    omega
theorem ids_few (ids : List Int) (n : Nat) (h : (List.range n).all (goodID ids) = true) : n ≤ 398 := by
  match n, h with
  | 0, _ => omega
  | k + 1, h =>
    have h1 := ids_ge ids k h
    rw [all_range_succ, Bool.and_eq_true] at h
    have h2 := h.2
    simp only [goodID, pageB, Bool.and_eq_true, decide_eq_true_eq] at h2
    omega
theorem sum_few (l : List FreeD) : ∀ k, (List.range k).all (goodF l) = true → sumLen l k ≤ 398 * k
  | 0, _ => by simp [sumLen]
  | k + 1, h => by
    rw [all_range_succ, Bool.and_eq_true] at h
    have h1 := sum_few l k h.1
    have h2 := h.2
    simp only [goodF, Bool.and_eq_true] at h2
    have h3 := ids_few _ _ h2.2
    simp only [sumLen]
    omega

set_option maxHeartbeats 4000000 in
set_option maxRecDepth 100000 in
theorem refFrees_any (p : PageD) (vi vk vd vv vf : Value) (w : World) (hp : FreesAt w vf p.free) (hl : p.free.length ≤ 140737488355328) :
    Calls Tryz.prog 54 #[.agg (pageCells p vi vk vd vv vf).toArray] w fun e w' => e = .returned (.bool (freesB p.free p.next)) ∧ Below w.heap.size w w' := by
  obtain ⟨k1, i1, y1, d1, t1, v1, f1, n1, ⟨x1, ⟨g1, c1, q1⟩, r1, l1⟩⟩ := p
  obtain ⟨ao, cap, rfl, him, hit⟩ := hp.old
  simp only at hit him hl
  have HI := hid hit
  have HP := hid (fun (n : Int) W => refPage_any n W)
  clear hit him
  show Calls Tryz.prog _ #[.agg #[.int .i64 k1, vi, vk, vd, .string t1, vv, .slice ao f1.length cap, .int .i64 n1, .int .u64 x1, .int .i64 g1, .int .i64 c1, .int .i64 q1, .int .i64 r1, .int .i64 l1]] w _
  go_enter Tryz.func54, Tryz.ntmps54
  go_wp2
  have hbX : Below w.heap.size w (w.alloc (.cells #[.int .i64 k1, vi, vk, vd, .string t1, vv, .slice ao f1.length cap, .int .i64 n1, .int .u64 x1, .int .i64 g1, .int .i64 c1, .int .i64 q1, .int .i64 r1, .int .i64 l1] 35)) := (Below.refl _ _).alloc (Nat.le_refl _) _
  have hszX : w.heap.size < (w.alloc (.cells #[.int .i64 k1, vi, vk, vd, .string t1, vv, .slice ao f1.length cap, .int .i64 n1, .int .u64 x1, .int .i64 g1, .int .i64 c1, .int .i64 q1, .int .i64 r1, .int .i64 l1] 35)).heap.size := by simp
  have hx6 : (w.alloc (.cells #[.int .i64 k1, vi, vk, vd, .string t1, vv, .slice ao f1.length cap, .int .i64 n1, .int .u64 x1, .int .i64 g1, .int .i64 c1, .int .i64 q1, .int .i64 r1, .int .i64 l1] 35)).cell? ⟨w.heap.size, 6, none⟩ = some (.slice ao f1.length cap) := by simp
  have hx7 : (w.alloc (.cells #[.int .i64 k1, vi, vk, vd, .string t1, vv, .slice ao f1.length cap, .int .i64 n1, .int .u64 x1, .int .i64 g1, .int .i64 c1, .int .i64 q1, .int .i64 r1, .int .i64 l1] 35)).cell? ⟨w.heap.size, 7, none⟩ = some (.int .i64 n1) := by simp
  generalize w.alloc (.cells #[.int .i64 k1, vi, vk, vd, .string t1, vv, .slice ao f1.length cap, .int .i64 n1, .int .u64 x1, .int .i64 g1, .int .i64 c1, .int .i64 q1, .int .i64 r1, .int .i64 l1] 35) = X at *
  have HX := hid hbX
  have HX6 := hid hx6
  have HX7 := hid hx7
  clear hbX hx6 hx7
  go_loopw [3, 4] (fun n i wr => ∃ k : Nat, k ≤ f1.length ∧ i = .int .i64 k ∧ n = .int .i64 (sumLen f1 k) ∧ Hid ((List.range k).all (goodF f1) = true) ∧ Below X.heap.size X wr) (fun _ i _ => f1.length - (intOf i).toNat)
  case atStart => exact ⟨0, Nat.zero_le _, rfl, rfl, rfl, Below.refl _ _⟩
  case round =>
    obtain ⟨k, hk, rfl, rfl, hall, hbel⟩ := hrel
    have hsf := sum_few f1 k hall.out
    have hbw := HX.out.trans (hbel.mono HX.out.size)
    have hx6 : wr.cell? ⟨w.heap.size, 6, none⟩ = some (.slice ao f1.length cap) := (hbel.cell (p := ⟨w.heap.size, 6, none⟩) hszX).trans HX6.out
    have hx7 : wr.cell? ⟨w.heap.size, 7, none⟩ = some (.int .i64 n1) := (hbel.cell (p := ⟨w.heap.size, 7, none⟩) hszX).trans HX7.out
    by_cases hlt : k < f1.length
    · obtain ⟨a, x, ha, hce, hcf, hx⟩ := HI.out k hlt
      have hc1 : wr.cell? (a.add (k * 2)) = some (.int .u64 f1[k].txn) := (hbw.cell (p := a.add (k * 2)) (World.block_lt_of_cell? w _ hce)).trans hce
      have hc2 : wr.cell? ⟨(a.add (k * 2)).block, (a.add (k * 2)).off + 1, none⟩ = some x := (hbw.cell (p := ⟨(a.add (k * 2)).block, (a.add (k * 2)).off + 1, none⟩) (World.block_lt_of_cell? w _ hcf)).trans hcf
      have hia := atFrees (ao := ao) f1.length cap k ha hlt
      obtain ⟨ao2, cap2, rfl, hm2, hcs⟩ := hx
      unfold maxLen at hm2
      have HG : Hid (freeAt f1 k = f1[k]) := by show _ = _; simp [freeAt, hlt]
      have HCS := hid hcs
      have HBD := hid (all_range_bad (goodF f1) k f1.length hlt)
      have HSU := hid (all_range_succ (goodF f1) k)
      clear hce hcf ha hcs
      have hbF : Below X.heap.size X (wr.alloc (.cells #[.int .u64 f1[k].txn, .slice ao2 f1[k].ids.length cap2] 74)) := hbel.alloc hbel.size _
      have hszF : wr.heap.size < (wr.alloc (.cells #[.int .u64 f1[k].txn, .slice ao2 f1[k].ids.length cap2] 74)).heap.size := by simp
      have hszG : w.heap.size < (wr.alloc (.cells #[.int .u64 f1[k].txn, .slice ao2 f1[k].ids.length cap2] 74)).heap.size := by have := hbw.size; simp; omega
      have hf0 : (wr.alloc (.cells #[.int .u64 f1[k].txn, .slice ao2 f1[k].ids.length cap2] 74)).cell? ⟨wr.heap.size, 0, none⟩ = some (.int .u64 f1[k].txn) := by simp
      have hf1 : (wr.alloc (.cells #[.int .u64 f1[k].txn, .slice ao2 f1[k].ids.length cap2] 74)).cell? ⟨wr.heap.size, 1, none⟩ = some (.slice ao2 f1[k].ids.length cap2) := by simp
      have hf6 : (wr.alloc (.cells #[.int .u64 f1[k].txn, .slice ao2 f1[k].ids.length cap2] 74)).cell? ⟨w.heap.size, 6, none⟩ = some (.slice ao f1.length cap) := (hbF.cell (p := ⟨w.heap.size, 6, none⟩) hszX).trans HX6.out
      have HPREV : Hid (∀ j (h : j < f1.length), ∃ a, ao = some a ∧ (wr.alloc (.cells #[.int .u64 f1[k].txn, .slice ao2 f1[k].ids.length cap2] 74)).cell? (a.add (j * 2)) = some (.int .u64 f1[j].txn)) := by
        intro j hj
        obtain ⟨a', x', ha', hce', _, _⟩ := HI.out j hj
        have hbw2 := HX.out.trans (hbF.mono HX.out.size)
        exact ⟨a', ha', (hbw2.cell (p := a'.add (j * 2)) (World.block_lt_of_cell? w _ hce')).trans hce'⟩
      have HIDS : Hid (∀ j (h : j < f1[k].ids.length), ∃ a, ao2 = some a ∧ (wr.alloc (.cells #[.int .u64 f1[k].txn, .slice ao2 f1[k].ids.length cap2] 74)).cell? (a.add j) = some (.int .i64 f1[k].ids[j])) := by
        intro j hj
        obtain ⟨a', ha', hce'⟩ := HCS.out j hj
        have hbw2 := HX.out.trans (hbF.mono HX.out.size)
        exact ⟨a', ha', (hbw2.cell (p := a'.add j) (World.block_lt_of_cell? w _ hce')).trans hce'⟩
      go_wp2_with fail
      clear hc1 hc2 hia hx6 hx7 HCS
      generalize wr.alloc (.cells #[.int .u64 f1[k].txn, .slice ao2 f1[k].ids.length cap2] 74) = F at *
      generalize wr.heap.size = fb at *
      by_cases hz : f1[k].ids.length = 0
      · have hzB : ((f1[k].ids.length : Int) == 0) = true := by rw [hz]; rfl
        have HGO : Hid (goodF f1 k = false) := by show _ = _; unfold goodF; rw [HG.out]; simp [hz]
        clear hz
        go_quiet (fail)
        go_wp2
        go_ret
        refine ⟨ret_bool ?_, (HX.out.trans (hbF.mono HX.out.size)).trans ((below_draws F nq).mono (HX.out.trans (hbF.mono HX.out.size)).size)⟩
        simp [freesB, HBD.out HGO.out]
      · have hzB : ((f1[k].ids.length : Int) == 0) = false := beq_eq_false_iff_ne.2 (by omega)
        have HZ : Hid (decide (f1[k].ids.length = 0) = false) := decide_eq_false hz
        clear hz
        cases hT : (k == 0 || decide ((freeAt f1 (k - 1)).txn ≤ (freeAt f1 k).txn))
        · have hk0 : 0 < k := by
            simp at hT
            omega
          have hd : decide (0 < k) = true := by simp; omega
          obtain ⟨j, hj1, hj2⟩ : ∃ j : Nat, (j : Int) + 1 ≤ (k : Int) ∧ (k : Int) ≤ (j : Int) + 1 := ⟨k - 1, by omega, by omega⟩
          obtain ⟨a', ha', hce'⟩ := HPREV.out j (by omega)
          have hjl : j < f1.length := by omega
          have hia' := atFrees (ao := ao) f1.length cap j ha' hjl
          have hkj : (k : Int) - 1 = (j : Int) := by omega
          have htx : decide (f1[k].txn < f1[j].txn) = true := by
            have e1 : freeAt f1 (k - 1) = f1[j] := by
              have : k - 1 = j := by omega
              rw [this]
              simp [freeAt, hjl]
            rw [e1, HG.out] at hT
            simp at hT
            simp
            omega
          have HGO : Hid (goodF f1 k = false) := by show _ = _; unfold goodF; rw [hT]; simp
          clear hT ha'
          go_quiet (fail)
          go_wp2
          go_ret
          refine ⟨ret_bool ?_, (HX.out.trans (hbF.mono HX.out.size)).trans ((below_draws F nq).mono (HX.out.trans (hbF.mono HX.out.size)).size)⟩
          simp [freesB, HBD.out HGO.out]
        · have HTT := hid hT
          by_cases hk0 : 0 < k
          · have hd : decide (0 < k) = true := by simp; omega
            obtain ⟨j, hj1, hj2⟩ : ∃ j : Nat, (j : Int) + 1 ≤ (k : Int) ∧ (k : Int) ≤ (j : Int) + 1 := ⟨k - 1, by omega, by omega⟩
            obtain ⟨a', ha', hce'⟩ := HPREV.out j (by omega)
            have hjl : j < f1.length := by omega
            have hia' := atFrees (ao := ao) f1.length cap j ha' hjl
            have hkj : (k : Int) - 1 = (j : Int) := by omega
            have htx : decide (f1[k].txn < f1[j].txn) = false := by
              have e1 : freeAt f1 (k - 1) = f1[j] := by
                have : k - 1 = j := by omega
                rw [this]
                simp [freeAt, hjl]
              rw [e1, HG.out] at hT
              simp at hT
              simp
              omega
            clear hT ha'
            go_quiet (fail)
            go_wp2
            clear hce' hia' hkj htx
            clear hzB hd hszG hf0 hf6 HPREV
            go_loopw [6] (fun i wq => ∃ m : Nat, m ≤ f1[k].ids.length ∧ i = .int .i64 m ∧ Hid ((List.range m).all (goodID f1[k].ids) = true) ∧ Below F.heap.size F wq) (fun i _ => f1[k].ids.length - (intOf i).toNat)
            case atStart => exact ⟨0, Nat.zero_le _, rfl, rfl, below_draws F nq⟩
            case round =>
              obtain ⟨m, hm, rfl, hallm, hbq⟩ := hrel
              have HBW := hid ((HX.out.trans (hbF.mono HX.out.size)).trans (hbq.mono (HX.out.trans (hbF.mono HX.out.size)).size))
              have HBX := hid (hbF.trans (hbq.mono hbF.size))
              have hq1 : wr.cell? ⟨fb, 1, none⟩ = some (.slice ao2 f1[k].ids.length cap2) := (hbq.cell (p := ⟨fb, 1, none⟩) hszF).trans hf1
              by_cases hltm : m < f1[k].ids.length
              · obtain ⟨b2, hb2, hcb⟩ := HIDS.out m hltm
                have hcm : wr.cell? (b2.add m) = some (.int .i64 f1[k].ids[m]) := (hbq.cell (p := b2.add m) (World.block_lt_of_cell? F _ hcb)).trans hcb
                have hib := atInts (ao := ao2) f1[k].ids.length cap2 m hb2 hltm
                have HGm : Hid (f1[k].ids.getD m 0 = f1[k].ids[m]) := by show _ = _; simp [hltm]
                have HBDm := hid (all_range_bad (goodID f1[k].ids) m f1[k].ids.length hltm)
                have HSUm := hid (all_range_succ (goodID f1[k].ids) m)
                clear hcb hb2
                cases hpg : pageB f1[k].ids[m]
                · have HGO : Hid (goodF f1 k = false) := by
                    show _ = _
                    have h1 : goodID f1[k].ids m = false := by unfold goodID; rw [HGm.out, hpg]; rfl
                    unfold goodF
                    rw [HG.out, HBDm.out h1]
                    simp
                  go_wp2_with fail
                  go_quiet ((go_at_call 51; exact Calls.quiet_of_same (HP.out _ _)))
                  go_wp2
                  go_ret
                  refine ⟨ret_bool ?_, HBW.out.trans ((below_draws wr nq).mono HBW.out.size)⟩
                  simp [freesB, HBD.out HGO.out]
                · by_cases hm0 : 0 < m
                  · have hdm : decide (0 < m) = true := by simp; omega
                    obtain ⟨i, hi1, hi2⟩ : ∃ i : Nat, (i : Int) + 1 ≤ (m : Int) ∧ (m : Int) ≤ (i : Int) + 1 := ⟨m - 1, by omega, by omega⟩
                    have hil : i < f1[k].ids.length := by omega
                    obtain ⟨b3, hb3, hcb3⟩ := HIDS.out i hil
                    have hci : wr.cell? (b3.add i) = some (.int .i64 f1[k].ids[i]) := (hbq.cell (p := b3.add i) (World.block_lt_of_cell? F _ hcb3)).trans hcb3
                    have hib3 := atInts (ao := ao2) f1[k].ids.length cap2 i hb3 hil
                    have hmi : (m : Int) - 1 = (i : Int) := by omega
                    have HGi : Hid (f1[k].ids.getD (m - 1) 0 = f1[k].ids[i]) := by
                      show _ = _
                      have : m - 1 = i := by omega
                      rw [this]
                      simp [hil]
                    have HM0 : Hid ((m == 0) = false) := by show _ = _; simp; omega
                    clear hcb3 hb3 hm0
                    cases hle : decide (f1[k].ids[m] ≤ f1[k].ids[i])
                    · have HGD : Hid (goodID f1[k].ids m = true) := by
                        show _ = _
                        unfold goodID
                        rw [HGm.out, HGi.out, hpg, HM0.out]
                        simp at hle
                        simp
                        omega
                      go_wp2_with fail
                      go_quiet ((go_at_call 51; exact Calls.quiet_of_same (HP.out _ _)))
                      go_wp2
                      go_roundw
                      case rel => exact ⟨m + 1, by omega, by go_num, by show _ = _; rw [HSUm.out, hallm.out, HGD.out]; rfl, hbq.trans ((below_draws wr nq).mono hbq.size)⟩
                      case measure => simp [intOf]; omega
                    · have HGO : Hid (goodF f1 k = false) := by
                        show _ = _
                        have h1 : goodID f1[k].ids m = false := by
                          unfold goodID
                          rw [HGm.out, HGi.out, hpg, HM0.out]
                          simp at hle
                          simp
                          omega
                        unfold goodF
                        rw [HG.out, HBDm.out h1]
                        simp
                      go_wp2_with fail
                      go_quiet ((go_at_call 51; exact Calls.quiet_of_same (HP.out _ _)))
                      go_wp2
                      go_ret
                      refine ⟨ret_bool ?_, HBW.out.trans ((below_draws wr nq).mono HBW.out.size)⟩
                      simp [freesB, HBD.out HGO.out]
                  · have hdm : decide (0 < m) = false := by simp; omega
                    have HGD : Hid (goodID f1[k].ids m = true) := by
                      show _ = _
                      have h3 : (m == 0) = true := by simp; omega
                      unfold goodID
                      rw [HGm.out, hpg, h3]
                      rfl
                    clear hm0
                    go_wp2_with fail
                    go_quiet ((go_at_call 51; exact Calls.quiet_of_same (HP.out _ _)))
                    go_wp2
                    go_roundw
                    case rel => exact ⟨m + 1, by omega, by go_num, by show _ = _; rw [HSUm.out, hallm.out, HGD.out]; rfl, hbq.trans ((below_draws wr nq).mono hbq.size)⟩
                    case measure => simp [intOf]; omega
              · have hme : m = f1[k].ids.length := by omega
                have HGF : Hid (goodF f1 k = true) := by
                  show _ = _
                  have h1 := hallm.out
                  rw [hme] at h1
                  unfold goodF
                  rw [HTT.out, HG.out, HZ.out, h1]
                  rfl
                have h398 := ids_few _ _ hallm.out
                have HSL : Hid (sumLen f1 (k + 1) = sumLen f1 k + f1[k].ids.length) := by show _ = _; rw [sumLen, HG.out]
                have hmle : f1[k].ids.length ≤ 398 := by omega
                clear hme h398
                go_wp2
                go_roundw
                case rel => exact ⟨k + 1, by omega, by go_num, by rw [HSL.out]; go_num, by show _ = _; rw [HSU.out, hall.out, HGF.out]; rfl, HBX.out⟩
                case measure => simp [intOf]; omega
          · have hd : decide (0 < k) = false := by simp; omega
            clear hT hk0
            go_quiet (fail)
            go_wp2
            clear hzB hd hszG hf0 hf6 HPREV
            go_loopw [6] (fun i wq => ∃ m : Nat, m ≤ f1[k].ids.length ∧ i = .int .i64 m ∧ Hid ((List.range m).all (goodID f1[k].ids) = true) ∧ Below F.heap.size F wq) (fun i _ => f1[k].ids.length - (intOf i).toNat)
            case atStart => exact ⟨0, Nat.zero_le _, rfl, rfl, below_draws F nq⟩
            case round =>
              obtain ⟨m, hm, rfl, hallm, hbq⟩ := hrel
              have HBW := hid ((HX.out.trans (hbF.mono HX.out.size)).trans (hbq.mono (HX.out.trans (hbF.mono HX.out.size)).size))
              have HBX := hid (hbF.trans (hbq.mono hbF.size))
              have hq1 : wr.cell? ⟨fb, 1, none⟩ = some (.slice ao2 f1[k].ids.length cap2) := (hbq.cell (p := ⟨fb, 1, none⟩) hszF).trans hf1
              by_cases hltm : m < f1[k].ids.length
              · obtain ⟨b2, hb2, hcb⟩ := HIDS.out m hltm
                have hcm : wr.cell? (b2.add m) = some (.int .i64 f1[k].ids[m]) := (hbq.cell (p := b2.add m) (World.block_lt_of_cell? F _ hcb)).trans hcb
                have hib := atInts (ao := ao2) f1[k].ids.length cap2 m hb2 hltm
                have HGm : Hid (f1[k].ids.getD m 0 = f1[k].ids[m]) := by show _ = _; simp [hltm]
                have HBDm := hid (all_range_bad (goodID f1[k].ids) m f1[k].ids.length hltm)
                have HSUm := hid (all_range_succ (goodID f1[k].ids) m)
                clear hcb hb2
                cases hpg : pageB f1[k].ids[m]
                · have HGO : Hid (goodF f1 k = false) := by
                    show _ = _
                    have h1 : goodID f1[k].ids m = false := by unfold goodID; rw [HGm.out, hpg]; rfl
                    unfold goodF
                    rw [HG.out, HBDm.out h1]
                    simp
                  go_wp2_with fail
                  go_quiet ((go_at_call 51; exact Calls.quiet_of_same (HP.out _ _)))
                  go_wp2
                  go_ret
                  refine ⟨ret_bool ?_, HBW.out.trans ((below_draws wr nq).mono HBW.out.size)⟩
                  simp [freesB, HBD.out HGO.out]
                · by_cases hm0 : 0 < m
                  · have hdm : decide (0 < m) = true := by simp; omega
                    obtain ⟨i, hi1, hi2⟩ : ∃ i : Nat, (i : Int) + 1 ≤ (m : Int) ∧ (m : Int) ≤ (i : Int) + 1 := ⟨m - 1, by omega, by omega⟩
                    have hil : i < f1[k].ids.length := by omega
                    obtain ⟨b3, hb3, hcb3⟩ := HIDS.out i hil
                    have hci : wr.cell? (b3.add i) = some (.int .i64 f1[k].ids[i]) := (hbq.cell (p := b3.add i) (World.block_lt_of_cell? F _ hcb3)).trans hcb3
                    have hib3 := atInts (ao := ao2) f1[k].ids.length cap2 i hb3 hil
                    have hmi : (m : Int) - 1 = (i : Int) := by omega
                    have HGi : Hid (f1[k].ids.getD (m - 1) 0 = f1[k].ids[i]) := by
                      show _ = _
                      have : m - 1 = i := by omega
                      rw [this]
                      simp [hil]
                    have HM0 : Hid ((m == 0) = false) := by show _ = _; simp; omega
                    clear hcb3 hb3 hm0
                    cases hle : decide (f1[k].ids[m] ≤ f1[k].ids[i])
                    · have HGD : Hid (goodID f1[k].ids m = true) := by
                        show _ = _
                        unfold goodID
                        rw [HGm.out, HGi.out, hpg, HM0.out]
                        simp at hle
                        simp
                        omega
                      go_wp2_with fail
                      go_quiet ((go_at_call 51; exact Calls.quiet_of_same (HP.out _ _)))
                      go_wp2
                      go_roundw
                      case rel => exact ⟨m + 1, by omega, by go_num, by show _ = _; rw [HSUm.out, hallm.out, HGD.out]; rfl, hbq.trans ((below_draws wr nq).mono hbq.size)⟩
                      case measure => simp [intOf]; omega
                    · have HGO : Hid (goodF f1 k = false) := by
                        show _ = _
                        have h1 : goodID f1[k].ids m = false := by
                          unfold goodID
                          rw [HGm.out, HGi.out, hpg, HM0.out]
                          simp at hle
                          simp
                          omega
                        unfold goodF
                        rw [HG.out, HBDm.out h1]
                        simp
                      go_wp2_with fail
                      go_quiet ((go_at_call 51; exact Calls.quiet_of_same (HP.out _ _)))
                      go_wp2
                      go_ret
                      refine ⟨ret_bool ?_, HBW.out.trans ((below_draws wr nq).mono HBW.out.size)⟩
                      simp [freesB, HBD.out HGO.out]
                  · have hdm : decide (0 < m) = false := by simp; omega
                    have HGD : Hid (goodID f1[k].ids m = true) := by
                      show _ = _
                      have h3 : (m == 0) = true := by simp; omega
                      unfold goodID
                      rw [HGm.out, hpg, h3]
                      rfl
                    clear hm0
                    go_wp2_with fail
                    go_quiet ((go_at_call 51; exact Calls.quiet_of_same (HP.out _ _)))
                    go_wp2
                    go_roundw
                    case rel => exact ⟨m + 1, by omega, by go_num, by show _ = _; rw [HSUm.out, hallm.out, HGD.out]; rfl, hbq.trans ((below_draws wr nq).mono hbq.size)⟩
                    case measure => simp [intOf]; omega
              · have hme : m = f1[k].ids.length := by omega
                have HGF : Hid (goodF f1 k = true) := by
                  show _ = _
                  have h1 := hallm.out
                  rw [hme] at h1
                  unfold goodF
                  rw [HTT.out, HG.out, HZ.out, h1]
                  rfl
                have h398 := ids_few _ _ hallm.out
                have HSL : Hid (sumLen f1 (k + 1) = sumLen f1 k + f1[k].ids.length) := by show _ = _; rw [sumLen, HG.out]
                have hmle : f1[k].ids.length ≤ 398 := by omega
                clear hme h398
                go_wp2
                go_roundw
                case rel => exact ⟨k + 1, by omega, by go_num, by rw [HSL.out]; go_num, by show _ = _; rw [HSU.out, hall.out, HGF.out]; rfl, HBX.out⟩
                case measure => simp [intOf]; omega
    · have hke : k = f1.length := by omega
      subst hke
      go_wp2_with (go_at_call 51; refine Calls.mono (HP.out _ _) ?_; rintro e w2 ⟨rfl, rfl⟩)
      all_goals
        go_ret
        refine ⟨ret_bool ?_, hbw⟩
        have h0 := hall.out
        clear hall hx6 hx7 hbel hbw hsf HX HX6 HX7 HP HI
      all_goals first
        | (simp_all [freesB]; done)
        | (simp_all [freesB]; omega)
end Go.Proofs.YtpionokcabjokaaGreat
