/- Contracts of package page's rightItem and rightFree. -/
import Derived.Test.YtgnmjdcmaahlnaaLb
namespace Go.Proofs.Ytgnmjdcmaahlnaa
open Go.RowKit Go.Sort

def rightItemB (x : ItemD) : Bool :=
  if x.kind = 1 then sizedB x.val 0 12
  else if x.kind = 2 then pageB x.run && withinB x.len 13 1000
  else if x.kind = 3 then (if x.dup = 0 then rightValsB x.vals 1 3 else pageB x.dup && decide (x.vals.length = 0))
  else if x.kind = 4 then rootB x.root
  else false

theorem len_zeroB (n : Nat) : ((n : Int) == 0) = decide (n = 0) := by rw [Bool.eq_iff_iff]; simp

set_option maxHeartbeats 1000000 in
theorem rightItem_any (x : ItemD) (v : Value) (w : World) (hv : StrsAt w v x.vals) (hl : x.val.size ≤ maxLen) :
    Calls Try.prog 63 #[.agg (itemCells x v).toArray] w fun e w' => e = .returned (.bool (rightItemB x)) ∧ Below w.heap.size w w' := by
  obtain ⟨k1, d1, l1, r1, n1, s1, p1, ⟨g1, c1, f1⟩⟩ := x
  have HV : Hid (∀ W, Below w.heap.size w W → StrsAt W v s1) := fun W hW => hv.below hW
  obtain ⟨ao, cap, rfl, hsm, -⟩ := hv
  have HL : Hid (l1.size ≤ maxLen) := hl
  simp only at hsm
  unfold maxLen at hsm
  clear hl
  show Calls Try.prog _ #[.agg #[.string k1, .int .i64 d1, .string l1, .int .i64 r1, .int .i64 n1, .slice ao s1.length cap, .int .i64 p1, .int .i64 g1, .int .i64 c1, .int .i64 f1]] w _
  go_enter Try.func63, Try.ntmps63
  go_wp2_with (first
    | (go_at_call 39; refine Calls.mono (sized_any _ _ _ _ HL.out) ?_; rintro e w2 ⟨rfl, rfl⟩)
    | (go_at_call 68; refine Calls.mono (number_page _ _) ?_; rintro e w2 ⟨rfl, rfl⟩)
    | (go_at_call 44; refine Calls.mono (within_any _ _ _ _) ?_; rintro e w2 ⟨rfl, rfl⟩)
    | (go_at_call 40; refine Calls.mono (rightVals_any s1 _ _ _ _ (HV.out _ ((Below.refl _ _).alloc (Nat.le_refl _) _))) ?_; rintro e w2 ⟨rfl, hb2⟩)
    | (go_at_call 43; refine Calls.mono (rightRoot_any ⟨g1, c1, f1⟩ _) ?_; rintro e w2 ⟨rfl, hb2⟩))
  all_goals
    go_ret
    refine ⟨ret_bool ?_, by first | exact (Below.refl _ _).alloc (Nat.le_refl _) _ | exact ((Below.refl _ _).alloc (Nat.le_refl _) _).trans (hb2.mono (by simp))⟩
    clear HV HL
    try clear hb2
    try rw [len_zeroB]
    simp_all [rightItemB]

/-- Whether the rest of the rows is right: so many numbers have room; the last transaction was txn. -/
def rightFreeL : Int → Int → List FreeD → Bool
  | _, _, [] => true
  | room, txn, f :: r => withinB f.ids.length 1 room && upI f.ids && f.ids.all pageB && decide (txn ≤ f.txn) && rightFreeL (room - f.ids.length) f.txn r
def rightFreeB (l : List FreeD) : Bool := rightFreeL 20 0 l

set_option maxHeartbeats 1000000 in
theorem rightFree_any (l : List FreeD) (v : Value) (w : World) (hv : FreesAt w v l) :
    Calls Try.prog 41 #[v] w fun e w' => e = .returned (.bool (rightFreeB l)) ∧ Below w.heap.size w w' := by
  obtain ⟨ao, cap, rfl, hlm, hc⟩ := hv
  unfold maxLen at hlm
  have HC := hid hc
  clear hc
  go_enter Try.func41, Try.ntmps41
  go_wp2
  go_loopw [3, 4, 9] (fun rm tx i wr => ∃ (k : Nat) (room txn : Int), k ≤ l.length ∧ i = .int .i64 k ∧ rm = .int .i64 room ∧ tx = .int .u64 txn ∧ 0 ≤ room ∧ room ≤ 20 ∧ Hid (rightFreeB l = rightFreeL room txn (l.drop k)) ∧ Below w.heap.size w wr) (fun _ _ i _ => l.length - (intOf i).toNat)
  case atStart => exact ⟨0, 20, 0, Nat.zero_le _, rfl, rfl, rfl, by omega, by omega, rfl, Below.refl _ _⟩
  case round =>
    obtain ⟨k, room, txn, hk, rfl, rfl, rfl, hr0, hr1, hall, hbel⟩ := hrel
    by_cases hlt : k < l.length
    · obtain ⟨b, o, x, hao, hbl, hc1, hc2, hx⟩ := HC.out k hlt
      have hia := atFreesM (ao := ao) l.length cap k hao hlt
      have hl1 : wr.cell? ⟨b, o + k * 2, none⟩ = some (.int .u64 l[k].txn) := (hbel.cell (p := ⟨b, o + k * 2, none⟩) hbl).trans hc1
      have hl2 : wr.cell? ⟨b, o + k * 2 + 1, none⟩ = some x := (hbel.cell (p := ⟨b, o + k * 2 + 1, none⟩) hbl).trans hc2
      have HX : Hid (∀ W, Below w.heap.size w W → IntsAt W x l[k].ids) := fun W hW => hx.below hW
      have HD : Hid (l.drop k = l[k] :: l.drop (k + 1)) := List.drop_eq_getElem_cons hlt
      obtain ⟨ax, cx, hxe, hxl, -⟩ := hx
      unfold maxLen at hxl
      subst hxe
      clear hc1 hc2 hao hbl
      generalize l[k] = X at *
      obtain ⟨tx, ids⟩ := X
      simp only at hl1 hl2 hxl HX HD
      have HB1 : Hid (∀ o1, Below w.heap.size w (wr.alloc o1)) := fun o1 => hbel.alloc hbel.size o1
      cases hw : withinB ids.length 1 room
      · go_wp2_with (first
          | (go_at_call 44; refine Calls.mono (within_any _ _ _ _) ?_; rintro e w2 ⟨rfl, rfl⟩)
          | (go_at_call 67; refine Calls.mono (risingI_any ids _ _ (HX.out _ (HB1.out _))) ?_; rintro e w2 ⟨rfl, hb2⟩; have hcc2 := bcell hb2)
          | (go_at_call 66; refine Calls.mono (numbers_any ids _ _ (HX.out _ ((HB1.out _).trans (hb2.mono (by have := hbel.size; simp; omega))))) ?_; rintro e w2 ⟨rfl, rfl⟩))
        go_ret
        refine ⟨ret_bool ?_, HB1.out _⟩
        rw [hall.out, HD.out]
        simp [rightFreeL, hw]
      have hwi : 1 ≤ ids.length ∧ (ids.length : Int) ≤ room := by simp [withinB] at hw; omega
      cases hu : upI ids
      · go_wp2_with (first
          | (go_at_call 44; refine Calls.mono (within_any _ _ _ _) ?_; rintro e w2 ⟨rfl, rfl⟩)
          | (go_at_call 67; refine Calls.mono (risingI_any ids _ _ (HX.out _ (HB1.out _))) ?_; rintro e w2 ⟨rfl, hb2⟩; have hcc2 := bcell hb2)
          | (go_at_call 66; refine Calls.mono (numbers_any ids _ _ (HX.out _ ((HB1.out _).trans (hb2.mono (by have := hbel.size; simp; omega))))) ?_; rintro e w2 ⟨rfl, rfl⟩))
        go_ret
        refine ⟨ret_bool ?_, (HB1.out _).trans (hb2.mono (by have := hbel.size; simp; omega))⟩
        rw [hall.out, HD.out]
        simp [rightFreeL, hu]
      cases hp : ids.all pageB
      · go_wp2_with (first
          | (go_at_call 44; refine Calls.mono (within_any _ _ _ _) ?_; rintro e w2 ⟨rfl, rfl⟩)
          | (go_at_call 67; refine Calls.mono (risingI_any ids _ _ (HX.out _ (HB1.out _))) ?_; rintro e w2 ⟨rfl, hb2⟩; have hcc2 := bcell hb2)
          | (go_at_call 66; refine Calls.mono (numbers_any ids _ _ (HX.out _ ((HB1.out _).trans (hb2.mono (by have := hbel.size; simp; omega))))) ?_; rintro e w2 ⟨rfl, rfl⟩))
        go_ret
        refine ⟨ret_bool ?_, (HB1.out _).trans (hb2.mono (by have := hbel.size; simp; omega))⟩
        rw [hall.out, HD.out]
        simp only [rightFreeL, hp]
        simp
      by_cases ht : tx < txn
      · have htB : decide (tx < txn) = true := by simpa using ht
        go_wp2_with (first
          | (go_at_call 44; refine Calls.mono (within_any _ _ _ _) ?_; rintro e w2 ⟨rfl, rfl⟩)
          | (go_at_call 67; refine Calls.mono (risingI_any ids _ _ (HX.out _ (HB1.out _))) ?_; rintro e w2 ⟨rfl, hb2⟩; have hcc2 := bcell hb2)
          | (go_at_call 66; refine Calls.mono (numbers_any ids _ _ (HX.out _ ((HB1.out _).trans (hb2.mono (by have := hbel.size; simp; omega))))) ?_; rintro e w2 ⟨rfl, rfl⟩))
        go_ret
        refine ⟨ret_bool ?_, (HB1.out _).trans (hb2.mono (by have := hbel.size; simp; omega))⟩
        rw [hall.out, HD.out]
        have ht2 : decide (txn ≤ tx) = false := by simp; omega
        simp only [rightFreeL, ht2]
        simp
      · have htB : decide (tx < txn) = false := by simpa using ht
        have ht2 : decide (txn ≤ tx) = true := by simp; omega
        have HH : Hid (rightFreeB l = rightFreeL (room - ids.length) tx (l.drop (k + 1))) := by
          show _ = _
          rw [hall.out, HD.out]
          simp only [rightFreeL, hw, hu, hp, ht2]
          simp
        clear ht2 ht
        go_wp2_with (first
          | (go_at_call 44; refine Calls.mono (within_any _ _ _ _) ?_; rintro e w2 ⟨rfl, rfl⟩)
          | (go_at_call 67; refine Calls.mono (risingI_any ids _ _ (HX.out _ (HB1.out _))) ?_; rintro e w2 ⟨rfl, hb2⟩; have hcc2 := bcell hb2)
          | (go_at_call 66; refine Calls.mono (numbers_any ids _ _ (HX.out _ ((HB1.out _).trans (hb2.mono (by have := hbel.size; simp; omega))))) ?_; rintro e w2 ⟨rfl, rfl⟩))
        go_roundw
        case rel => exact ⟨k + 1, room - ids.length, tx, by omega, by go_num, by go_num, rfl, by omega, by omega, HH.out, (HB1.out _).trans (hb2.mono (by have := hbel.size; simp; omega))⟩
        case measure => simp [intOf]; omega
    · go_wp2
      go_ret
      refine ⟨ret_bool ?_, hbel⟩
      have h := hall.out
      rw [List.drop_of_length_le (by omega)] at h
      rw [h]
      rfl
end Go.Proofs.Ytgnmjdcmaahlnaa
