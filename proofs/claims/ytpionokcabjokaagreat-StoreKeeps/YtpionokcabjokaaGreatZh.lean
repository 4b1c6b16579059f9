/- Contract of the reference's test whether a page is right: leaves. Contract of the reference's test whether a page is right: branches. -/
import Derived.Test.YtpionokcabjokaaGreatZg
namespace Go.Proofs.YtpionokcabjokaaGreat
open Go.RowKit Go.Sort

def goodI (l : List ItemD) (i : Nat) : Bool := itemB (itemAt l i) && (i == 0 || ltB (itemAt l (i - 1)).key (itemAt l i).key)
def leafB (p : PageD) : Bool := (List.range p.items.length).all (goodI p.items) && (decide (0 < p.items.length) && decide (p.items.length ≤ 4) && !hasKids p && noText p && noVals p && !hasFree p && !hasMeta p)

set_option maxHeartbeats 8000000 in
set_option maxRecDepth 100000 in
theorem refIs_leaf (p : PageD) (vi vk vd vv vf : Value) (w : World) (hp : Hangs w p vi vk vd vv vf) (hkd : (p.kind == 1) = true) (hfl : p.free.length ≤ 140737488355328) :
    Calls Tryz.prog 28 #[.agg (pageCells p vi vk vd vv vf).toArray] w fun e w' => e = .returned (.bool (leafB p)) ∧ Below w.heap.size w w' := by
  obtain ⟨k1, i1, y1, d1, t1, v1, f1, n1, ⟨x1, ⟨g1, c1, q1⟩, r1, l1⟩⟩ := p
  have HH : Hid (∀ W, Below w.heap.size w W → Hangs W _ vi vk vd vv vf) := fun W hW => hp.below hW
  obtain ⟨aoI, capI, rfl, him, hitI⟩ := hp.items
  obtain ⟨aoK, capK, rfl, hkm, hitK⟩ := hp.keys
  obtain ⟨aoD, capD, rfl, hdm, hitD⟩ := hp.kids
  obtain ⟨aoV, capV, rfl, hvm, _⟩ := hp.vals
  obtain ⟨aoF, capF, rfl, hfm, _⟩ := hp.free
  have htm := hp.text
  simp only at him hkm hdm hvm hfm htm hitI hitK hitD hkd hfl
  unfold maxLen at him hkm hdm hvm hfm htm
  have HII := hid hitI
  have HIK := hid hitK
  have HID := hid hitD
  have HFL := hid hfl
  clear hp hitI hitK hitD hfl HIK HID HFL HH
  have hnm := neqMeta x1 g1 c1 q1 r1 l1
  show Calls Tryz.prog _ #[.agg #[.int .i64 k1, .slice aoI i1.length capI, .slice aoK y1.length capK, .slice aoD d1.length capD, .string t1, .slice aoV v1.length capV, .slice aoF f1.length capF, .int .i64 n1, .int .u64 x1, .int .i64 g1, .int .i64 c1, .int .i64 q1, .int .i64 r1, .int .i64 l1]] w _
  cases hs1 : decide (0 < y1.length)
  all_goals cases hs2 : decide (0 < f1.length)
  all_goals
    go_enter Tryz.func28, Tryz.ntmps28
    go_wp2_with fail
    refine wp_region_quiet_lit (by kernel_rfl) (by kernel_rfl) ?_
    repeat (go_big_quiet_step (fail))
    refine wpQuiet_nil ?_
    intro _ hw'
    obtain ⟨nq, hw''⟩ := hw'
    subst hw''
    clear hnm
    have hbX : Below w.heap.size w ((w.alloc (.cells #[.int .i64 k1, .slice aoI i1.length capI, .slice aoK y1.length capK, .slice aoD d1.length capD, .string t1, .slice aoV v1.length capV, .slice aoF f1.length capF, .int .i64 n1, .int .u64 x1, .int .i64 g1, .int .i64 c1, .int .i64 q1, .int .i64 r1, .int .i64 l1] 35)).drewN nq) := ((Below.refl _ _).alloc (Nat.le_refl _) _).trans ((below_draws _ nq).mono (by simp))
    have hsz : w.heap.size < ((w.alloc (.cells #[.int .i64 k1, .slice aoI i1.length capI, .slice aoK y1.length capK, .slice aoD d1.length capD, .string t1, .slice aoV v1.length capV, .slice aoF f1.length capF, .int .i64 n1, .int .u64 x1, .int .i64 g1, .int .i64 c1, .int .i64 q1, .int .i64 r1, .int .i64 l1] 35)).drewN nq).heap.size := by simp
    have hj0 : ((w.alloc (.cells #[.int .i64 k1, .slice aoI i1.length capI, .slice aoK y1.length capK, .slice aoD d1.length capD, .string t1, .slice aoV v1.length capV, .slice aoF f1.length capF, .int .i64 n1, .int .u64 x1, .int .i64 g1, .int .i64 c1, .int .i64 q1, .int .i64 r1, .int .i64 l1] 35)).drewN nq).cell? ⟨w.heap.size, 0, none⟩ = some (.int .i64 k1) := by simp
    have hj1 : ((w.alloc (.cells #[.int .i64 k1, .slice aoI i1.length capI, .slice aoK y1.length capK, .slice aoD d1.length capD, .string t1, .slice aoV v1.length capV, .slice aoF f1.length capF, .int .i64 n1, .int .u64 x1, .int .i64 g1, .int .i64 c1, .int .i64 q1, .int .i64 r1, .int .i64 l1] 35)).drewN nq).cell? ⟨w.heap.size, 1, none⟩ = some (.slice aoI i1.length capI) := by simp
    have hj2 : ((w.alloc (.cells #[.int .i64 k1, .slice aoI i1.length capI, .slice aoK y1.length capK, .slice aoD d1.length capD, .string t1, .slice aoV v1.length capV, .slice aoF f1.length capF, .int .i64 n1, .int .u64 x1, .int .i64 g1, .int .i64 c1, .int .i64 q1, .int .i64 r1, .int .i64 l1] 35)).drewN nq).cell? ⟨w.heap.size, 2, none⟩ = some (.slice aoK y1.length capK) := by simp
    have hj3 : ((w.alloc (.cells #[.int .i64 k1, .slice aoI i1.length capI, .slice aoK y1.length capK, .slice aoD d1.length capD, .string t1, .slice aoV v1.length capV, .slice aoF f1.length capF, .int .i64 n1, .int .u64 x1, .int .i64 g1, .int .i64 c1, .int .i64 q1, .int .i64 r1, .int .i64 l1] 35)).drewN nq).cell? ⟨w.heap.size, 3, none⟩ = some (.slice aoD d1.length capD) := by simp
    have hj4 : ((w.alloc (.cells #[.int .i64 k1, .slice aoI i1.length capI, .slice aoK y1.length capK, .slice aoD d1.length capD, .string t1, .slice aoV v1.length capV, .slice aoF f1.length capF, .int .i64 n1, .int .u64 x1, .int .i64 g1, .int .i64 c1, .int .i64 q1, .int .i64 r1, .int .i64 l1] 35)).drewN nq).cell? ⟨w.heap.size, 4, none⟩ = some (.string t1) := by simp
    have hj5 : ((w.alloc (.cells #[.int .i64 k1, .slice aoI i1.length capI, .slice aoK y1.length capK, .slice aoD d1.length capD, .string t1, .slice aoV v1.length capV, .slice aoF f1.length capF, .int .i64 n1, .int .u64 x1, .int .i64 g1, .int .i64 c1, .int .i64 q1, .int .i64 r1, .int .i64 l1] 35)).drewN nq).cell? ⟨w.heap.size, 5, none⟩ = some (.slice aoV v1.length capV) := by simp
    have hj6 : ((w.alloc (.cells #[.int .i64 k1, .slice aoI i1.length capI, .slice aoK y1.length capK, .slice aoD d1.length capD, .string t1, .slice aoV v1.length capV, .slice aoF f1.length capF, .int .i64 n1, .int .u64 x1, .int .i64 g1, .int .i64 c1, .int .i64 q1, .int .i64 r1, .int .i64 l1] 35)).drewN nq).cell? ⟨w.heap.size, 6, none⟩ = some (.slice aoF f1.length capF) := by simp
    have hj7 : ((w.alloc (.cells #[.int .i64 k1, .slice aoI i1.length capI, .slice aoK y1.length capK, .slice aoD d1.length capD, .string t1, .slice aoV v1.length capV, .slice aoF f1.length capF, .int .i64 n1, .int .u64 x1, .int .i64 g1, .int .i64 c1, .int .i64 q1, .int .i64 r1, .int .i64 l1] 35)).drewN nq).cell? ⟨w.heap.size, 7, none⟩ = some (.int .i64 n1) := by simp
    have hj8 : ((w.alloc (.cells #[.int .i64 k1, .slice aoI i1.length capI, .slice aoK y1.length capK, .slice aoD d1.length capD, .string t1, .slice aoV v1.length capV, .slice aoF f1.length capF, .int .i64 n1, .int .u64 x1, .int .i64 g1, .int .i64 c1, .int .i64 q1, .int .i64 r1, .int .i64 l1] 35)).drewN nq).cell? ⟨w.heap.size, 8, none⟩ = some (.int .u64 x1) := by simp
    have hj9 : ((w.alloc (.cells #[.int .i64 k1, .slice aoI i1.length capI, .slice aoK y1.length capK, .slice aoD d1.length capD, .string t1, .slice aoV v1.length capV, .slice aoF f1.length capF, .int .i64 n1, .int .u64 x1, .int .i64 g1, .int .i64 c1, .int .i64 q1, .int .i64 r1, .int .i64 l1] 35)).drewN nq).cell? ⟨w.heap.size, 9, none⟩ = some (.int .i64 g1) := by simp
    have hj10 : ((w.alloc (.cells #[.int .i64 k1, .slice aoI i1.length capI, .slice aoK y1.length capK, .slice aoD d1.length capD, .string t1, .slice aoV v1.length capV, .slice aoF f1.length capF, .int .i64 n1, .int .u64 x1, .int .i64 g1, .int .i64 c1, .int .i64 q1, .int .i64 r1, .int .i64 l1] 35)).drewN nq).cell? ⟨w.heap.size, 10, none⟩ = some (.int .i64 c1) := by simp
    have hj11 : ((w.alloc (.cells #[.int .i64 k1, .slice aoI i1.length capI, .slice aoK y1.length capK, .slice aoD d1.length capD, .string t1, .slice aoV v1.length capV, .slice aoF f1.length capF, .int .i64 n1, .int .u64 x1, .int .i64 g1, .int .i64 c1, .int .i64 q1, .int .i64 r1, .int .i64 l1] 35)).drewN nq).cell? ⟨w.heap.size, 11, none⟩ = some (.int .i64 q1) := by simp
    have hj12 : ((w.alloc (.cells #[.int .i64 k1, .slice aoI i1.length capI, .slice aoK y1.length capK, .slice aoD d1.length capD, .string t1, .slice aoV v1.length capV, .slice aoF f1.length capF, .int .i64 n1, .int .u64 x1, .int .i64 g1, .int .i64 c1, .int .i64 q1, .int .i64 r1, .int .i64 l1] 35)).drewN nq).cell? ⟨w.heap.size, 12, none⟩ = some (.int .i64 r1) := by simp
    have hj13 : ((w.alloc (.cells #[.int .i64 k1, .slice aoI i1.length capI, .slice aoK y1.length capK, .slice aoD d1.length capD, .string t1, .slice aoV v1.length capV, .slice aoF f1.length capF, .int .i64 n1, .int .u64 x1, .int .i64 g1, .int .i64 c1, .int .i64 q1, .int .i64 r1, .int .i64 l1] 35)).drewN nq).cell? ⟨w.heap.size, 13, none⟩ = some (.int .i64 l1) := by simp
    generalize (w.alloc (.cells #[.int .i64 k1, .slice aoI i1.length capI, .slice aoK y1.length capK, .slice aoD d1.length capD, .string t1, .slice aoV v1.length capV, .slice aoF f1.length capF, .int .i64 n1, .int .u64 x1, .int .i64 g1, .int .i64 c1, .int .i64 q1, .int .i64 r1, .int .i64 l1] 35)).drewN nq = X at *
    have HX := hid hbX
    have HJ1 := hid hj1
    go_wp2
    clear hj0 hj1 hj2 hj3 hj4 hj5 hj6 hj7 hj8 hj9 hj10 hj11 hj12 hj13 hbX
    go_loopw [9] (fun i wr => ∃ k : Nat, k ≤ i1.length ∧ i = .int .i64 k ∧ Hid ((List.range k).all (goodI i1) = true) ∧ Below X.heap.size X wr) (fun i _ => i1.length - (intOf i).toNat)
    case atStart => exact ⟨0, Nat.zero_le _, rfl, rfl, Below.refl _ _⟩
    case round =>
      obtain ⟨k, hk, rfl, hall, hbel⟩ := hrel
      have hk1 : wr.cell? ⟨w.heap.size, 1, none⟩ = some (.slice aoI i1.length capI) := (hbel.cell (p := ⟨w.heap.size, 1, none⟩) hsz).trans HJ1.out
      have hbw := HX.out.trans (hbel.mono HX.out.size)
      by_cases hlt : k < i1.length
      · obtain ⟨b, o, u, hao, hbl, hr, hu, hks, hvs⟩ := HII.out k hlt
        have hia := atItems (ao := aoI) i1.length capI k hao hlt
        have hR := range_below hr hbw hbl
        have hl1 := fun d os => range10 (range_below hR (below_regrown wr d os) (Nat.lt_of_lt_of_le hbl hbw.size))
        have hj1 := cell_regrown hk1
        have HIT : Hid (∀ d os, Calls Tryz.prog 50 #[.agg #[.string i1[k].key, .int .i64 i1[k].kind, .string i1[k].val, .int .i64 i1[k].run, .int .i64 i1[k].len, u, .int .i64 i1[k].dup, .int .i64 i1[k].root.page, .int .i64 i1[k].root.count, .int .i64 i1[k].root.flags]] (grow (redrawn wr d) os) fun e w'' => e = .returned (.bool (itemB i1[k])) ∧ ∃ p : Regrown, w'' = grow (redrawn wr p.d) p.os) := fun d os =>
          Calls.regrown_of (refItem_any i1[k] u _ ((hu.below hbw).below (below_regrown wr d os)) hks hvs)
        have HG : Hid (itemAt i1 k = i1[k]) := by show _ = _; simp [itemAt, hlt]
        have HSU := hid (all_range_succ (goodI i1) k)
        have HBD := hid (all_range_bad (goodI i1) k i1.length hlt)
        clear hr hR hu hao hbl hks hvs
        cases hib : itemB i1[k]
        · have HGO : Hid (goodI i1 k = false) := by show _ = _; unfold goodI; rw [HG.out, hib]; rfl
          rw [hib] at HIT
          go_wp2_with fail
          refine wp_region_quiet_below (by kernel_rfl) (by kernel_rfl) ?_
          repeat (go_big_quiet_step (exact HIT.out _ _))
          refine wpQuiet_nil ?_
          intro _ hw'
          obtain ⟨⟨dq, osq⟩, hw''⟩ := hw'
          subst hw''
          have HBE := hid (hbel.trans ((below_regrown wr dq osq).mono hbel.size))
          clear hl1 hia hbel hk1 hbw
          go_wp2
          go_ret
          refine ⟨ret_bool ?_, HX.out.trans (HBE.out.mono HX.out.size)⟩
          rw [leafB, HBD.out HGO.out]
          rfl
        · rw [hib] at HIT
          by_cases hk0 : 0 < k
          · have hd : decide (0 < k) = true := by simp; omega
            obtain ⟨j, hj2, hj3⟩ : ∃ j : Nat, (j : Int) + 1 ≤ (k : Int) ∧ (k : Int) ≤ (j : Int) + 1 := ⟨k - 1, by omega, by omega⟩
            have hjl : j < i1.length := by omega
            obtain ⟨b2, o2, u2, hao2, hbl2, hr2, _, _, _⟩ := HII.out j hjl
            have hia2 := atItems (ao := aoI) i1.length capI j hao2 hjl
            have hl2 := fun d os => (range10 (range_below (range_below hr2 hbw hbl2) (below_regrown wr d os) (Nat.lt_of_lt_of_le hbl2 hbw.size))).1
            have hkj : (k : Int) - 1 = (j : Int) := by omega
            have HGJ : Hid (itemAt i1 (k - 1) = i1[j]) := by
              show _ = _
              have : k - 1 = j := by omega
              rw [this]
              simp [itemAt, hjl]
            have HK0 : Hid ((k == 0) = false) := by show _ = _; simp; omega
            clear hr2 hao2 hbl2 hk0
            cases hlb : ltB i1[j].key i1[k].key
            · have HGO : Hid (goodI i1 k = false) := by show _ = _; unfold goodI; rw [HG.out, HGJ.out, hib, hlb, HK0.out]; rfl
              have hop : Op.bytesLess i1[j].key.toList i1[k].key.toList = false := hlb
              clear hlb
              go_wp2_with fail
              refine wp_region_quiet_below (by kernel_rfl) (by kernel_rfl) ?_
              repeat (go_big_quiet_step (exact HIT.out _ _))
              refine wpQuiet_nil ?_
              intro _ hw'
              obtain ⟨⟨dq, osq⟩, hw''⟩ := hw'
              subst hw''
              have HBE := hid (hbel.trans ((below_regrown wr dq osq).mono hbel.size))
              clear hl1 hia hbel hk1 hbw
              go_wp2
              go_ret
              refine ⟨ret_bool ?_, HX.out.trans (HBE.out.mono HX.out.size)⟩
              rw [leafB, HBD.out HGO.out]
              rfl
            · have HGO : Hid (goodI i1 k = true) := by show _ = _; unfold goodI; rw [HG.out, HGJ.out, hib, hlb, HK0.out]; rfl
              have hop : Op.bytesLess i1[j].key.toList i1[k].key.toList = true := hlb
              clear hlb
              go_wp2_with fail
              refine wp_region_quiet_below (by kernel_rfl) (by kernel_rfl) ?_
              repeat (go_big_quiet_step (exact HIT.out _ _))
              refine wpQuiet_nil ?_
              intro _ hw'
              obtain ⟨⟨dq, osq⟩, hw''⟩ := hw'
              subst hw''
              have HBE := hid (hbel.trans ((below_regrown wr dq osq).mono hbel.size))
              clear hl1 hia hbel hk1 hbw
              go_wp2
              go_roundw
              case rel => exact ⟨k + 1, by omega, by go_num, by show _ = _; rw [HSU.out, hall.out, HGO.out]; rfl, HBE.out⟩
              case measure => simp [intOf]; omega
          · have hd : decide (0 < k) = false := by simp; omega
            have HGO : Hid (goodI i1 k = true) := by
              show _ = _
              have h3 : (k == 0) = true := by simp; omega
              unfold goodI
              rw [HG.out, hib, h3]
              rfl
            clear hk0
            go_wp2_with fail
            refine wp_region_quiet_below (by kernel_rfl) (by kernel_rfl) ?_
            repeat (go_big_quiet_step (exact HIT.out _ _))
            refine wpQuiet_nil ?_
            intro _ hw'
            obtain ⟨⟨dq, osq⟩, hw''⟩ := hw'
            subst hw''
            have HBE := hid (hbel.trans ((below_regrown wr dq osq).mono hbel.size))
            clear hl1 hia hbel hk1 hbw
            go_wp2
            go_roundw
            case rel => exact ⟨k + 1, by omega, by go_num, by show _ = _; rw [HSU.out, hall.out, HGO.out]; rfl, HBE.out⟩
            case measure => simp [intOf]; omega
      · have hke : k = i1.length := by omega
        have HAL : Hid ((List.range i1.length).all (goodI i1) = true) := by show _ = _; rw [← hke]; exact hall.out
        have HBW := hid hbw
        clear hke hall hbw
        go_wp2
        all_goals
          go_ret
          refine ⟨ret_bool ?_, HBW.out⟩
          rw [leafB, HAL.out]
          clear HBW HAL HX HJ1 HII hbel hk1
        all_goals first
          | (simp_all [noText, noVals, hasKids, hasFree, hasMeta]; done)
          | (simp_all [noText, noVals, hasKids, hasFree, hasMeta]; omega)
          | (rw [Bool.eq_iff_iff]; simp_all [noText, noVals, hasKids, hasFree, hasMeta]; done)
          | (rw [Bool.eq_iff_iff]; simp_all [noText, noVals, hasKids, hasFree, hasMeta]; omega)
end Go.Proofs.YtpionokcabjokaaGreat

namespace Go.Proofs.YtpionokcabjokaaGreat
open Go.RowKit Go.Sort

def keyAt (l : List ByteArray) (i : Nat) : ByteArray := l.getD i ⟨#[]⟩
def goodB (y : List ByteArray) (d : List Int) (i : Nat) : Bool := pageB (d.getD i 0) && (if i = 0 then (keyAt y 0).toList.isEmpty else shortB (keyAt y i) && ltB (keyAt y (i - 1)) (keyAt y i))
def branchB (p : PageD) : Bool := decide (p.keys.length = p.kids.length) && (List.range p.kids.length).all (goodB p.keys p.kids) && (decide (2 ≤ p.kids.length) && decide (p.kids.length ≤ 4) && noItems p && noText p && noVals p && !hasFree p && !hasMeta p)

end Go.Proofs.YtpionokcabjokaaGreat
