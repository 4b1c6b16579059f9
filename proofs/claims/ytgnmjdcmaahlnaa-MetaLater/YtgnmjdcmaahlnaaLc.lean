/- Contracts of package page's sameItem and sameFree, and of slices.EqualFunc by them. -/
import Derived.Test.YtgnmjdcmaahlnaaLb
namespace Go.Proofs.Ytgnmjdcmaahlnaa
open Go.RowKit Go.Sort

set_option maxHeartbeats 1000000 in
theorem sameItem_any (x y : ItemD) (v u : Value) (w : World) (hv : StrsAt w v x.vals) (hu : StrsAt w u y.vals) :
    Calls Try.prog 46 #[.agg (itemCells x v).toArray, .agg (itemCells y u).toArray] w fun e w' => e = .returned (.bool (sameItemB x y)) ∧ Below w.heap.size w w' := by
  obtain ⟨k1, d1, l1, r1, n1, s1, p1, ⟨g1, c1, f1⟩⟩ := x
  obtain ⟨k2, d2, l2, r2, n2, s2, p2, ⟨g2, c2, f2⟩⟩ := y
  have HV : Hid (∀ W, Below w.heap.size w W → StrsAt W v s1) := fun W hW => hv.below hW
  have HU : Hid (∀ W, Below w.heap.size w W → StrsAt W u s2) := fun W hW => hu.below hW
  clear hv hu
  show Calls Try.prog _ #[.agg #[.string k1, .int .i64 d1, .string l1, .int .i64 r1, .int .i64 n1, v, .int .i64 p1, .int .i64 g1, .int .i64 c1, .int .i64 f1], .agg #[.string k2, .int .i64 d2, .string l2, .int .i64 r2, .int .i64 n2, u, .int .i64 p2, .int .i64 g2, .int .i64 c2, .int .i64 f2]] w _
  go_enter Try.func46, Try.ntmps46
  go_wp2_with (go_at_call 47; refine Calls.mono (equalS_any s1 s2 v u _ (HV.out _ (Below.alloc (Below.alloc (Below.refl _ _) (Nat.le_refl _) _) (by simp) _)) (HU.out _ (Below.alloc (Below.alloc (Below.refl _ _) (Nat.le_refl _) _) (by simp) _))) ?_; rintro e w2 ⟨rfl, hb2⟩; have hcc := bcell hb2)
  all_goals
    go_ret
    refine ⟨ret_bool ?_, ?_⟩
    · clear HV HU
      try clear hcc hb2
      simp_all [sameItemB, sameRootB]
    · first
        | exact Below.alloc (Below.alloc (Below.refl _ _) (Nat.le_refl _) _) (by simp) _
        | exact (Below.alloc (Below.alloc (Below.refl _ _) (Nat.le_refl _) _) (by simp) _).trans (hb2.mono (by simp; omega))


set_option maxHeartbeats 1000000 in
theorem sameFree_any (x y : FreeD) (v u : Value) (w : World) (hv : IntsAt w v x.ids) (hu : IntsAt w u y.ids) :
    Calls Try.prog 50 #[.agg #[.int .u64 x.txn, v], .agg #[.int .u64 y.txn, u]] w fun e w' => e = .returned (.bool (sameFreeB x y)) ∧ Below w.heap.size w w' := by
  obtain ⟨k1, s1⟩ := x
  obtain ⟨k2, s2⟩ := y
  have HV : Hid (∀ W, Below w.heap.size w W → IntsAt W v s1) := fun W hW => hv.below hW
  have HU : Hid (∀ W, Below w.heap.size w W → IntsAt W u s2) := fun W hW => hu.below hW
  clear hv hu
  show Calls Try.prog _ #[.agg #[.int .u64 k1, v], .agg #[.int .u64 k2, u]] w _
  go_enter Try.func50, Try.ntmps50
  go_wp2_with (go_at_call 48; refine Calls.mono (equalI_any s1 s2 v u _ (HV.out _ (Below.alloc (Below.alloc (Below.refl _ _) (Nat.le_refl _) _) (by simp) _)) (HU.out _ (Below.alloc (Below.alloc (Below.refl _ _) (Nat.le_refl _) _) (by simp) _))) ?_; rintro e w2 ⟨rfl, hb2⟩; have hcc := bcell hb2)
  all_goals
    go_ret
    refine ⟨ret_bool ?_, ?_⟩
    · clear HV HU
      try clear hcc hb2
      simp_all [sameFreeB]
    · first
        | exact Below.alloc (Below.alloc (Below.refl _ _) (Nat.le_refl _) _) (by simp) _
        | exact (Below.alloc (Below.alloc (Below.refl _ _) (Nat.le_refl _) _) (by simp) _).trans (hb2.mono (by simp; omega))

def sameItemsB (l m : List ItemD) : Bool := decide (l.length = m.length) && (List.range l.length).all fun i => sameItemB (itemAt l i) (itemAt m i)

theorem stepA {w wr X : World} {o1 o2 : Obj} (h : Below w.heap.size w wr) (hb : Below ((wr.alloc o1).alloc o2).heap.size ((wr.alloc o1).alloc o2) X) : Below w.heap.size w X :=
  (Below.alloc (Below.alloc h h.size o1) (by have := h.size; simp; omega) o2).trans (hb.mono (by have := h.size; simp; omega))

set_option maxHeartbeats 1000000 in
theorem equalItems_any (l m : List ItemD) (v u : Value) (w : World) (hv : ItemsAt w v l) (hu : ItemsAt w u m) :
    Calls Try.prog 45 #[v, u, .func (.func 46) #[] #[]] w fun e w' => e = .returned (.bool (sameItemsB l m)) ∧ Below w.heap.size w w' := by
  obtain ⟨ao, cap, rfl, hlm, hc⟩ := hv
  obtain ⟨ao2, cap2, rfl, hlm2, hc2⟩ := hu
  unfold maxLen at hlm hlm2
  have HC := hid hc
  have HC2 := hid hc2
  clear hc hc2
  by_cases hne : l.length = m.length
  · have hneB : ((l.length : Int) != (m.length : Int)) = false := by simp; omega
    have HNE := hid hne
    clear hne
    go_enter Try.func45, Try.ntmps45
    go_wp2
    go_loopw [17] (fun i wr => ∃ k : Nat, k ≤ l.length ∧ i = .int .i64 k ∧ Hid ((List.range k).all (fun i => sameItemB (itemAt l i) (itemAt m i)) = true) ∧ Below w.heap.size w wr) (fun i _ => l.length - (intOf i).toNat)
    case atStart => exact ⟨0, Nat.zero_le _, rfl, rfl, Below.refl _ _⟩
    case round =>
      obtain ⟨k, hk, rfl, hall, hbel⟩ := hrel
      by_cases hlt : k < l.length
      · have hlt2 : k < m.length := by rw [← HNE.out]; exact hlt
        obtain ⟨b, o, x, hao, hbl, hr, hx, _, _⟩ := HC.out k hlt
        obtain ⟨b2, o2, x2, hao2, hbl2, hr2, hx2, _, _⟩ := HC2.out k hlt2
        have hia := atItems (ao := ao) l.length cap k hao hlt
        have hia2 := atItems (ao := ao2) m.length cap2 k hao2 hlt2
        have hl1 := range10 (range_below hr hbel hbl)
        have hl2' := range_below hr2 hbel hbl2
        have hl2 := fun o1 => range10 (range_below hl2' ((Below.refl wr.heap.size wr).alloc (Nat.le_refl _) o1) (Nat.lt_of_lt_of_le hbl2 hbel.size))
        have HS : Hid (∀ W, Below w.heap.size w W → Calls Try.prog 46 #[.agg #[.string l[k].key, .int .i64 l[k].kind, .string l[k].val, .int .i64 l[k].run, .int .i64 l[k].len, x, .int .i64 l[k].dup, .int .i64 l[k].root.page, .int .i64 l[k].root.count, .int .i64 l[k].root.flags], .agg #[.string m[k].key, .int .i64 m[k].kind, .string m[k].val, .int .i64 m[k].run, .int .i64 m[k].len, x2, .int .i64 m[k].dup, .int .i64 m[k].root.page, .int .i64 m[k].root.count, .int .i64 m[k].root.flags]] W fun e w'' => e = .returned (.bool (sameItemB l[k] m[k])) ∧ Below W.heap.size W w'') := fun W hW =>
          sameItem_any _ _ _ _ _ (hx.below hW) (hx2.below hW)
        have HG : Hid (itemAt l k = l[k] ∧ itemAt m k = m[k]) := ⟨by simp [itemAt, hlt], by simp [itemAt, hlt2]⟩
        have HSU := hid (all_range_succ (fun i => sameItemB (itemAt l i) (itemAt m i)) k)
        have HBD := hid (all_range_bad (fun i => sameItemB (itemAt l i) (itemAt m i)) k l.length hlt)
        obtain ⟨ax, cx, hxe, -⟩ := hx
        obtain ⟨ax2, cx2, hxe2, -⟩ := hx2
        subst hxe hxe2
        clear hr hr2 hl2' hao hao2 hbl hbl2
        generalize l[k] = X at *
        generalize m[k] = Y at *
        cases hsm : sameItemB X Y
        all_goals
          go_wp2_with (go_at_call 46; refine Calls.mono (HS.out _ (Below.alloc (Below.alloc hbel hbel.size _) (by have := hbel.size; simp; omega) _)) ?_; rintro e w2 ⟨rfl, hb2⟩)
        · go_ret
          refine ⟨ret_bool ?_, stepA hbel hb2⟩
          rw [sameItemsB, HBD.out (by rw [HG.out.1, HG.out.2]; exact hsm)]
          simp
        · go_roundw
          case rel => exact ⟨k + 1, by omega, by go_num, by show _ = _; rw [HSU.out, hall.out, HG.out.1, HG.out.2, hsm]; rfl, stepA hbel hb2⟩
          case measure => simp [intOf]; omega
      · have hke : k = l.length := by omega
        subst hke
        go_wp2
        go_ret
        refine ⟨ret_bool ?_, hbel⟩
        rw [sameItemsB, hall.out, HNE.out]
        simp
  · have hneB : ((l.length : Int) != (m.length : Int)) = true := by simp; omega
    have HNE := hid hne
    clear hne
    go_enter Try.func45, Try.ntmps45
    go_wp2
    go_ret
    refine ⟨ret_bool ?_, Below.refl _ _⟩
    rw [sameItemsB, decide_eq_false HNE.out]
    rfl

set_option maxHeartbeats 1000000 in
theorem equalFrees_any (l m : List FreeD) (v u : Value) (w : World) (hv : FreesAt w v l) (hu : FreesAt w u m) :
    Calls Try.prog 49 #[v, u, .func (.func 50) #[] #[]] w fun e w' => e = .returned (.bool (sameFreesB l m)) ∧ Below w.heap.size w w' := by
  obtain ⟨ao, cap, rfl, hlm, hc⟩ := hv
  obtain ⟨ao2, cap2, rfl, hlm2, hc2⟩ := hu
  unfold maxLen at hlm hlm2
  have HC := hid hc
  have HC2 := hid hc2
  clear hc hc2
  by_cases hne : l.length = m.length
  · have hneB : ((l.length : Int) != (m.length : Int)) = false := by simp; omega
    have HNE := hid hne
    clear hne
    go_enter Try.func49, Try.ntmps49
    go_wp2
    go_loopw [17] (fun i wr => ∃ k : Nat, k ≤ l.length ∧ i = .int .i64 k ∧ Hid ((List.range k).all (fun i => sameFreeB (l.getD i ⟨0, []⟩) (m.getD i ⟨0, []⟩)) = true) ∧ Below w.heap.size w wr) (fun i _ => l.length - (intOf i).toNat)
    case atStart => exact ⟨0, Nat.zero_le _, rfl, rfl, Below.refl _ _⟩
    case round =>
      obtain ⟨k, hk, rfl, hall, hbel⟩ := hrel
      by_cases hlt : k < l.length
      · have hlt2 : k < m.length := by rw [← HNE.out]; exact hlt
        obtain ⟨b, o, x, hao, hbl, hr, hs, hx⟩ := HC.out k hlt
        obtain ⟨b2, o2, x2, hao2, hbl2, hr2, hs2, hx2⟩ := HC2.out k hlt2
        have hia := atFreesM (ao := ao) l.length cap k hao hlt
        have hia2 := atFreesM (ao := ao2) m.length cap2 k hao2 hlt2
        have hl1 : wr.cell? ⟨b, o + k * 2, none⟩ = some (.int .u64 l[k].txn) := (hbel.cell (p := ⟨b, o + k * 2, none⟩) hbl).trans hr
        have hl1' : wr.cell? ⟨b, o + k * 2 + 1, none⟩ = some x := (hbel.cell (p := ⟨b, o + k * 2 + 1, none⟩) hbl).trans hs
        have hl2 := fun o1 => (((Below.refl wr.heap.size wr).alloc (Nat.le_refl _) o1).cell (p := ⟨b2, o2 + k * 2, none⟩) (Nat.lt_of_lt_of_le hbl2 hbel.size)).trans ((hbel.cell (p := ⟨b2, o2 + k * 2, none⟩) hbl2).trans hr2)
        have hl2' := fun o1 => (((Below.refl wr.heap.size wr).alloc (Nat.le_refl _) o1).cell (p := ⟨b2, o2 + k * 2 + 1, none⟩) (Nat.lt_of_lt_of_le hbl2 hbel.size)).trans ((hbel.cell (p := ⟨b2, o2 + k * 2 + 1, none⟩) hbl2).trans hs2)
        have HS : Hid (∀ W, Below w.heap.size w W → Calls Try.prog 50 #[.agg #[.int .u64 l[k].txn, x], .agg #[.int .u64 m[k].txn, x2]] W fun e w'' => e = .returned (.bool (sameFreeB l[k] m[k])) ∧ Below W.heap.size W w'') := fun W hW =>
          sameFree_any _ _ _ _ _ (hx.below hW) (hx2.below hW)
        have HG : Hid (l.getD k ⟨0, []⟩ = l[k] ∧ m.getD k ⟨0, []⟩ = m[k]) := ⟨by simp [hlt], by simp [hlt2]⟩
        have HSU := hid (all_range_succ (fun i => sameFreeB (l.getD i ⟨0, []⟩) (m.getD i ⟨0, []⟩)) k)
        have HBD := hid (all_range_bad (fun i => sameFreeB (l.getD i ⟨0, []⟩) (m.getD i ⟨0, []⟩)) k l.length hlt)
        obtain ⟨ax, cx, hxe, -⟩ := hx
        obtain ⟨ax2, cx2, hxe2, -⟩ := hx2
        subst hxe hxe2
        clear hr hr2 hs hs2 hao hao2 hbl hbl2
        generalize l[k] = X at *
        generalize m[k] = Y at *
        cases hsm : sameFreeB X Y
        all_goals
          go_wp2_with (go_at_call 50; refine Calls.mono (HS.out _ (Below.alloc (Below.alloc hbel hbel.size _) (by have := hbel.size; simp; omega) _)) ?_; rintro e w2 ⟨rfl, hb2⟩)
        · go_ret
          refine ⟨ret_bool ?_, stepA hbel hb2⟩
          rw [sameFreesB, HBD.out (by rw [HG.out.1, HG.out.2]; exact hsm)]
          simp
        · go_roundw
          case rel => exact ⟨k + 1, by omega, by go_num, by show _ = _; rw [HSU.out, hall.out, HG.out.1, HG.out.2, hsm]; rfl, stepA hbel hb2⟩
          case measure => simp [intOf]; omega
      · have hke : k = l.length := by omega
        subst hke
        go_wp2
        go_ret
        refine ⟨ret_bool ?_, hbel⟩
        rw [sameFreesB, hall.out, HNE.out]
        simp
  · have hneB : ((l.length : Int) != (m.length : Int)) = true := by simp; omega
    have HNE := hid hne
    clear hne
    go_enter Try.func49, Try.ntmps49
    go_wp2
    go_ret
    refine ⟨ret_bool ?_, Below.refl _ _⟩
    rw [sameFreesB, decide_eq_false HNE.out]
    rfl
end Go.Proofs.Ytgnmjdcmaahlnaa
