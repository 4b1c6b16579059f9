/- Contracts of package store's Set and Add. Contract of package store's Touch. -/
import Derived.Test.YtpionokcabjokaaGreatZE4
namespace Go.Proofs.YtpionokcabjokaaGreat
open Go.RowKit Go.Sort Go.Conc
open H (Up up_ext mergeL dropL Fit RunI RunIs OwnInts RowAt)

theorem bytesD_small (p : PageD) (ht : TxnOk p) : (bs (bytesD p)).size ≤ 100000000000 := by
  rw [bs_size]
  unfold bytesD
  split
  · rename_i hi
    have := partD_le p (partOk_of_is hi ht)
    simp only [List.length_append, lowB_length, bodyD, numB_length]
    omega
  · simp
theorem merge_in {l : List Int} (hu : Up l) {x : Int} (hx : l.contains x = true) : mergeL l [x] = l :=
  up_ext _ _ (H.mergeL_up _ _ hu (one_up x)) hu fun y => by
    have hx2 : x ∈ l := by simpa using hx
    rw [H.mergeL_mem, List.mem_singleton]
    constructor
    · rintro (h | rfl)
      · exact h
      · exact hx2
    · exact .inl
/-- A page that stays whatever the store does. -/
def HangsK (w : World) (sb mb : Nat) (p : PageD) (vi vk vd vv vg : Value) : Prop := ∀ W, So sb mb w W → Hangs W p vi vk vd vv vg
theorem HangsK.here {w : World} {sb mb : Nat} {p : PageD} {vi vk vd vv vg : Value} (h : HangsK w sb mb p vi vk vd vv vg) : Hangs w p vi vk vd vv vg := h w (So.refl _ _ _)
theorem HangsK.so {w w' : World} {sb mb : Nat} {p : PageD} {vi vk vd vv vg : Value} (h : HangsK w sb mb p vi vk vd vv vg) (hs : So sb mb w w') : HangsK w' sb mb p vi vk vd vv vg := fun W hW => h W (hs.trans hW)
/-- A page that is elder than the store. -/
theorem HangsK.old {w0 w : World} {sb mb : Nat} {p : PageD} {vi vk vd vv vg : Value} (h : Hangs w0 p vi vk vd vv vg) (hb : Below w0.heap.size w0 w) (h1 : w0.heap.size ≤ sb) (h2 : w0.heap.size ≤ mb) : HangsK w sb mb p vi vk vd vv vg :=
  fun _ hW => h.below (hb.trans (hW.below h1 h2 hb.size))
/-- A page that is newer than the store. -/
theorem HangsK.new {B : Nat} {w0 w : World} {sb mb : Nat} {p : PageD} {vi vk vd vv vg : Value} (h : ∀ W, Agree B w0 W → Hangs W p vi vk vd vv vg) (hb : Agree B w0 w) (h1 : sb < B) (h2 : mb < B) : HangsK w sb mb p vi vk vd vv vg :=
  fun W hW => h W ⟨Nat.le_trans hb.1 hW.size, fun q hq1 hq2 => (hW.block q (Nat.lt_of_lt_of_le hq2 hb.1) (by omega) (by omega)).trans (hb.2 q hq1 hq2)⟩
theorem neqE (e : Int) (w : World) : (binOp .neq 45 (.iface 59 (.int .i64 e)) .nilIface).run Tryz.prog w = .ok (.bool true) w := by simp [go_sem, Tryz.underlying45]
theorem neqNN (w : World) : (binOp .neq 45 .nilIface .nilIface).run Tryz.prog w = .ok (.bool false) w := by kernel_rfl

section
variable {w : World} {sb mb fb : Nat} {s : StD} {vf va : Value}
set_option maxRecDepth 10000 in
set_option maxHeartbeats 4000000 in
theorem set_any (h : StoreAt w sb mb fb s vf va) (x : Int) (hx : InI x) (p : PageD) (vi vk vd vv vg : Value) (ha : Hangs w p vi vk vd vv vg) (ht : TxnOk p) :
    Calls Tryz.prog 13 #[.pointer (some ⟨sb, 0, none⟩), .int .i64 x, .agg (pageCells p vi vk vd vv vg).toArray] w fun e w' => e = .returned (errV (setD s x p).1) ∧ StoreAt w' sb mb fb (setD s x p).2 vf va ∧ So sb mb w w' := by
  have HA : Hid (∀ W, Below w.heap.size w W → Hangs W p vi vk vd vv vg) := fun W hW => ha.below hW
  have HS := hidS h
  have HIS : Hid (∀ W, Below w.heap.size w W → Calls Tryz.prog 39 #[.agg (pageCells p vi vk vd vv vg).toArray] W fun e w' => e = .returned (.bool (isPB p)) ∧ Below W.heap.size W w') := fun W hW => is_any p _ _ _ _ _ W (HA.out W hW)
  have HBY : Hid (∀ W, Below w.heap.size w W → Calls Tryz.prog 42 #[.agg (pageCells p vi vk vd vv vg).toArray] W fun e w' => e = .returned (.string (bs (bytesD p))) ∧ Below W.heap.size W w') := fun W hW => bytes_any p _ _ _ _ _ W (HA.out W hW) ht
  have HMD : Hid (∀ W, Below w.heap.size w W → Calls Tryz.prog 41 #[.pointer (some ⟨sb, 0, none⟩), .int .i64 x] W fun e w' => e = .returned (.bool (s.dirty.contains x)) ∧ Below W.heap.size W w') := fun W hW => made_any (HS.out.below hW) x hx
  have HBS := hidS (bytesD_small p ht)
  have HME : Hid (s.dirty.contains x = true → mergeL s.dirty [x] = s.dirty) := hidS (merge_in h.ok.upD)
  have hXr := rangeNew w (pageCells p vi vk vd vv vg) 35
  have hX2 := fun (X : World) (h : Below (w.heap.size + 1) (w.alloc (.cells (pageCells p vi vk vd vv vg).toArray 35)) X) => range14 (range_below hXr (h.mono (by simp)) (by simp))
  simp only [Nat.zero_add] at hX2
  have HX := hidS hx
  unfold setD
  generalize bs (bytesD p) = BS at *
  generalize isPB p = R1 at *
  generalize s.dirty.contains x = R2 at *
  clear ha ht HA hXr h hx
  obtain ⟨k1, i1, y1, d1, t1, v1, f1, n1, ⟨x1, ⟨g1, c1, q1⟩, r1, l1⟩⟩ := p
  have hb1 : Below w.heap.size w (w.alloc (.cells #[.int .i64 k1, vi, vk, vd, .string t1, vv, vg, .int .i64 n1, .int .u64 x1, .int .i64 g1, .int .i64 c1, .int .i64 q1, .int .i64 r1, .int .i64 l1] 35)) := (Below.refl _ _).alloc (Nat.le_refl _) _
  have HIS2 : Hid (∀ W, Below w.heap.size w W → Calls Tryz.prog 39 #[.agg #[.int .i64 k1, vi, vk, vd, .string t1, vv, vg, .int .i64 n1, .int .u64 x1, .int .i64 g1, .int .i64 c1, .int .i64 q1, .int .i64 r1, .int .i64 l1]] W fun e w' => e = .returned (.bool R1) ∧ Below W.heap.size W w') := HIS.out
  have HBY2 : Hid (∀ W, Below w.heap.size w W → Calls Tryz.prog 42 #[.agg #[.int .i64 k1, vi, vk, vd, .string t1, vv, vg, .int .i64 n1, .int .u64 x1, .int .i64 g1, .int .i64 c1, .int .i64 q1, .int .i64 r1, .int .i64 l1]] W fun e w' => e = .returned (.string BS) ∧ Below W.heap.size W w') := HBY.out
  have hX3 := hidS hX2
  show Calls Tryz.prog _ #[.pointer (some ⟨sb, 0, none⟩), .int .i64 x, .agg #[.int .i64 k1, vi, vk, vd, .string t1, vv, vg, .int .i64 n1, .int .u64 x1, .int .i64 g1, .int .i64 c1, .int .i64 q1, .int .i64 r1, .int .i64 l1]] w _
  clear HIS HBY hX2
  have HSX : Hid ((w.alloc (.cells #[.int .i64 k1, vi, vk, vd, .string t1, vv, vg, .int .i64 n1, .int .u64 x1, .int .i64 g1, .int .i64 c1, .int .i64 q1, .int .i64 r1, .int .i64 l1] 35)).heap.size = w.heap.size + 1) := by show _ = _; simp
  go_enter Tryz.func13, Tryz.ntmps13
  go_wp2_with fail
  refine (HIS2.out _ hb1).mono ?_
  rintro e w2 ⟨rfl, hb2⟩
  have hbX := hidS (hb1.trans (hb2.mono hb1.size))
  cases R1
  · clear hb2
    go_wp2
    go_ret
    exact ⟨rfl, HS.out.below hbX.out, So.of_below hbX.out⟩
  · go_wp2_with fail
    refine (HMD.out _ hbX.out).mono ?_
    rintro e w3 ⟨rfl, hb3⟩
    have hbY := hidS (hbX.out.trans (hb3.mono hbX.out.size))
    cases R2
    · clear hb2 hb3
      go_wp2
      go_ret
      exact ⟨rfl, HS.out.below hbY.out, So.of_below hbY.out⟩
    · have hl3 := hX3.out w3 ((hb2.mono (Nat.le_of_eq HSX.out.symm)).trans (hb3.mono (by have := hb2.size; have := HSX.out; omega)))
      have hc3 : ∀ j, w3.cell? ⟨sb, j, none⟩ = (#[.pointer (some ⟨fb, 0, none⟩), .int .i64 (s.last : Int), .int .i64 (s.most : Int), .map (some mb), vf, va] : Array Value)[j]? := (HS.out.below hbY.out).cells
      clear hb2 hb3
      go_upto_region 3 with fail
      have HUP : Hid (∀ W, StoreAt W sb mb fb s vf va → ∃ w5, (Instr.mapUpdate 83 (.map (some mb)) (.int .i64 x) (.agg #[.string BS])).run Tryz.prog W = .ok () w5 ∧ DirtyAt w5 mb s.dirty (upd s.sh x BS) ∧ W.grownBy w5 (some mb)) := hidS fun W hW => by
        obtain ⟨w5, h1, h2, h3, _⟩ := hW.dirty.store hW.ok.upD (by have := hW.ok.few; omega) HX.out BS
        rw [HME.out (by simp)] at h2
        exact ⟨w5, h1, h2, h3⟩
      go_region_with (go_at_call 42; refine (HBY2.out _ (H.below_drew hbY.out)).mono ?_; rintro e w4 ⟨rfl, hb4⟩; have hbZ := hidS ((H.below_drew hbY.out).trans (hb4.mono (H.below_drew hbY.out).size)); have hS4 := hidS (HS.out.below hbZ.out); have hc4 : ∀ j, w4.cell? ⟨sb, j, none⟩ = (#[.pointer (some ⟨fb, 0, none⟩), .int .i64 (s.last : Int), .int .i64 (s.most : Int), .map (some mb), vf, va] : Array Value)[j]? := hS4.out.cells; obtain ⟨w5, hst, hD5, hG5⟩ := HUP.out w4 hS4.out; replace hD5 := hidS hD5; replace hG5 := hidS hG5; clear hb4)
      all_goals
        go_wp2
        go_ret
        exact ⟨rfl, hS4.out.setMap hD5.out hG5.out (HS.out.ok.put x HBS.out), (So.of_below hbZ.out).trans (.map hG5.out)⟩
theorem take_one (h : StOk s) (h0 : (takeD s 1).2.1 = 0) : (takeD s 1).2.2.dirty.contains (takeD s 1).1 = true ∧ InI (takeD s 1).1 ∧ 2 ≤ (takeD s 1).1 := by
  have hok := h.take (n := 1) (Nat.le_refl _)
  have hm : (takeD s 1).1 ∈ (takeD s 1).2.2.dirty := by
    unfold takeD at h0 ⊢
    by_cases h1 : 120 < s.dirty.length + 1
    · rw [if_pos h1] at h0; simp at h0
    · rw [if_neg h1] at h0 ⊢
      cases hr : runF s.avail 1 with
      | some x => simp only [hr, madeD] at h0 ⊢; rw [addRun_mem]; right; omega
      | none =>
        simp only [hr] at h0 ⊢
        by_cases h2 : s.most < s.last + 1
        · rw [if_pos h2] at h0; simp at h0
        · rw [if_neg h2] at h0 ⊢; simp only [madeD]; rw [addRun_mem]; right; omega
  have := hok.inD _ hm
  have := hok.last
  exact ⟨by simpa using hm, by unfold InI; omega, by omega⟩
theorem take_same (h0 : ¬ (takeD s 1).2.1 = 0) : (takeD s 1).2.2 = s ∧ (takeD s 1).1 = 0 := by
  unfold takeD at h0 ⊢
  by_cases h1 : 120 < s.dirty.length + 1
  · rw [if_pos h1]; exact ⟨rfl, rfl⟩
  · rw [if_neg h1] at h0 ⊢
    cases hr : runF s.avail 1 with
    | some x => simp [hr] at h0
    | none =>
      simp only [hr] at h0 ⊢
      by_cases h2 : s.most < s.last + 1
      · rw [if_pos h2]; exact ⟨rfl, rfl⟩
      · rw [if_neg h2] at h0; simp at h0
set_option maxRecDepth 10000 in
set_option maxHeartbeats 4000000 in
theorem add_any (h : StoreAt w sb mb fb s vf va) (p : PageD) (vi vk vd vv vg : Value) (ha : HangsK w sb mb p vi vk vd vv vg) (ht : TxnOk p) :
    Calls Tryz.prog 12 #[.pointer (some ⟨sb, 0, none⟩), .agg (pageCells p vi vk vd vv vg).toArray] w fun e w' => ∃ va', e = .returned (.tuple #[.int .i64 (addD s p).1, errV (addD s p).2.1]) ∧ StoreAt w' sb mb fb (addD s p).2.2 vf va' ∧ So sb mb w w' := by
  have HS := hidS h
  have HSB : Hid (sb < w.heap.size) := hidS h.lt
  have HIS : Hid (∀ W, Below w.heap.size w W → Calls Tryz.prog 39 #[.agg (pageCells p vi vk vd vv vg).toArray] W fun e w' => e = .returned (.bool (isPB p)) ∧ Below W.heap.size W w') := fun W hW => is_any p _ _ _ _ _ W (ha W (So.of_below hW))
  have HTK : Hid (∀ W, Below w.heap.size w W → Calls Tryz.prog 40 #[.pointer (some ⟨sb, 0, none⟩), .int .i64 1] W fun e w' => ∃ va', e = .returned (.tuple #[.int .i64 (takeD s 1).1, errV (takeD s 1).2.1]) ∧ StoreAt w' sb mb fb (takeD s 1).2.2 vf va' ∧ So sb mb W w') := fun W hW => takeS_any (HS.out.below hW) 1 (Nat.le_refl _) (by omega)
  have HST : Hid (isPB p = true → (takeD s 1).2.1 = 0 → ∀ W va', StoreAt W sb mb fb (takeD s 1).2.2 vf va' → So sb mb w W → Calls Tryz.prog 13 #[.pointer (some ⟨sb, 0, none⟩), .int .i64 (takeD s 1).1, .agg (pageCells p vi vk vd vv vg).toArray] W fun e w' => e = .returned .nilIface ∧ StoreAt w' sb mb fb (putB (takeD s 1).2.2 (takeD s 1).1 (bs (bytesD p))) vf va' ∧ So sb mb W w') := fun hi h0 W va' hs hW => by
    obtain ⟨h1, h2, _⟩ := take_one HS.out.ok h0
    have := set_any hs (takeD s 1).1 h2 p vi vk vd vv vg (ha W hW) ht
    have e1 : setD (takeD s 1).2.2 (takeD s 1).1 p = (0, putB (takeD s 1).2.2 (takeD s 1).1 (bs (bytesD p))) := by unfold setD; rw [hi, h1]; rfl
    rw [e1] at this
    exact this
  have HSM : Hid (¬ (takeD s 1).2.1 = 0 → (takeD s 1).2.2 = s ∧ (takeD s 1).1 = 0) := hidS take_same
  have hXr := rangeNew w (pageCells p vi vk vd vv vg) 35
  have hX2 := fun (X : World) (h : So sb mb (w.alloc (.cells (pageCells p vi vk vd vv vg).toArray 35)) X) (h1 : w.heap.size ≠ sb) (h2 : w.heap.size ≠ mb) => range14 (fun j v hj => (World.cell?_of_block (a := ⟨w.heap.size, 0 + j, none⟩) (h.block w.heap.size (by simp) h1 h2)).trans (hXr j v hj))
  simp only [Nat.zero_add] at hX2
  have hMB : mb < w.heap.size := h.ltM
  have hX4 := fun X h => hX2 X h (by have := HSB.out; omega) (by omega)
  have nE := neqE
  have nN := neqNN
  unfold addD
  generalize bs (bytesD p) = BS at *
  generalize isPB p = R1 at *
  generalize takeD s 1 = TT at *
  clear ha ht hXr h hX2 hMB
  obtain ⟨k1, i1, y1, d1, t1, v1, f1, n1, ⟨x1, ⟨g1, c1, q1⟩, r1, l1⟩⟩ := p
  obtain ⟨tx, te, ts⟩ := TT
  simp only at HTK HST HSM ⊢
  have hb1 : Below w.heap.size w (w.alloc (.cells #[.int .i64 k1, vi, vk, vd, .string t1, vv, vg, .int .i64 n1, .int .u64 x1, .int .i64 g1, .int .i64 c1, .int .i64 q1, .int .i64 r1, .int .i64 l1] 35)) := (Below.refl _ _).alloc (Nat.le_refl _) _
  have HIS2 : Hid (∀ W, Below w.heap.size w W → Calls Tryz.prog 39 #[.agg #[.int .i64 k1, vi, vk, vd, .string t1, vv, vg, .int .i64 n1, .int .u64 x1, .int .i64 g1, .int .i64 c1, .int .i64 q1, .int .i64 r1, .int .i64 l1]] W fun e w' => e = .returned (.bool R1) ∧ Below W.heap.size W w') := HIS.out
  have HST2 : Hid (R1 = true → te = 0 → ∀ W va', StoreAt W sb mb fb ts vf va' → So sb mb w W → Calls Tryz.prog 13 #[.pointer (some ⟨sb, 0, none⟩), .int .i64 tx, .agg #[.int .i64 k1, vi, vk, vd, .string t1, vv, vg, .int .i64 n1, .int .u64 x1, .int .i64 g1, .int .i64 c1, .int .i64 q1, .int .i64 r1, .int .i64 l1]] W fun e w' => e = .returned .nilIface ∧ StoreAt w' sb mb fb (putB ts tx BS) vf va' ∧ So sb mb W w') := HST.out
  have hX3 := hidS hX4
  show Calls Tryz.prog _ #[.pointer (some ⟨sb, 0, none⟩), .agg #[.int .i64 k1, vi, vk, vd, .string t1, vv, vg, .int .i64 n1, .int .u64 x1, .int .i64 g1, .int .i64 c1, .int .i64 q1, .int .i64 r1, .int .i64 l1]] w _
  clear HIS HST hX4
  have HSX : Hid ((w.alloc (.cells #[.int .i64 k1, vi, vk, vd, .string t1, vv, vg, .int .i64 n1, .int .u64 x1, .int .i64 g1, .int .i64 c1, .int .i64 q1, .int .i64 r1, .int .i64 l1] 35)).heap.size = w.heap.size + 1) := by show _ = _; simp
  go_enter Tryz.func12, Tryz.ntmps12
  go_wp2_with fail
  refine (HIS2.out _ hb1).mono ?_
  rintro e w2 ⟨rfl, hb2⟩
  have hbX := hidS (hb1.trans (hb2.mono hb1.size))
  have hX5 := hidS (So.of_below (sb := sb) (mb := mb) hb2)
  clear hb2
  cases R1
  · go_wp2
    go_ret2
    exact ⟨rfl, ⟨va, HS.out.below hbX.out⟩, So.of_below hbX.out⟩
  · go_wp2_with fail
    refine (HTK.out _ hbX.out).mono ?_
    rintro e w3 ⟨va', rfl, hS3, hSo3⟩
    have HSo := hidS ((So.of_below hbX.out).trans hSo3)
    have hl3 := hX3.out w3 (hX5.out.trans hSo3)
    replace hS3 := hidS hS3
    replace hSo3 := hidS hSo3
    by_cases h0 : te = 0
    · subst h0
      rw [errV_0]
      have CS := hidS (HST2.out (by simp) (by simp) w3 va' hS3.out HSo.out)
      clear HST2 HTK HSM
      go_wp2_with fail
      refine CS.out.mono ?_
      rintro e w4 ⟨rfl, h4, h5⟩
      replace h4 := hidS h4
      replace h5 := hidS h5
      clear hl3
      go_wp2
      go_ret2
      exact ⟨rfl, ⟨va', h4.out⟩, HSo.out.trans h5.out⟩
    · have e0 : errV te = .iface 59 (.int .i64 te) := if_neg h0
      obtain ⟨e1, e2⟩ := HSM.out h0
      rw [e0]
      subst e1 e2
      replace h0 := hidS h0
      replace e0 := hidS e0
      clear HST2 HTK HSM hl3
      go_wp2
      go_ret2
      simp only [e0.out]
      exact ⟨rfl, ⟨va', hS3.out⟩, HSo.out⟩
end
end Go.Proofs.YtpionokcabjokaaGreat

namespace Go.Proofs.YtpionokcabjokaaGreat
open Go.RowKit Go.Sort Go.Conc
open H (Up up_ext mergeL dropL Fit RunI RunIs OwnInts RowAt)

theorem readS_page {s : StD} {L : List F.Sh} {x : Int} (h : (readS s L x).2 = 0) : isPB (readS s L x).1 = true ∧ TxnOk (readS s L x).1 ∧ (readS s L x).1 = readV (bytesAt s L x).data.toList := by
  unfold readS at h ⊢
  split at h
  · simp at h
  · rename_i hn
    rw [if_neg hn]
    cases ho : okR (bytesAt s L x).data.toList
    · simp [ho] at h
    · obtain ⟨h1, h2, _⟩ := okR_page ho
      simp only [readD, ho, ↓reduceIte]
      exact ⟨h1, h2, trivial⟩
theorem addD_same {s : StD} {p : PageD} (h : ¬ (addD s p).2.1 = 0) : (addD s p).2.2 = s ∧ (addD s p).1 = 0 := by
  unfold addD at h ⊢
  split
  · rename_i hi
    rw [if_pos hi] at h
    split
    · rename_i h0; rw [if_pos h0] at h; simp at h
    · exact ⟨rfl, rfl⟩
  · exact ⟨rfl, rfl⟩
section
variable {w : World} {sb mb fb : Nat} {s : StD} {vf va : Value}
theorem read_st2 (h : StoreAt w sb mb fb s vf va) {B : Nat} {fv : Value} {L : List F.Sh} (hf : F.FileAt w B fb fv L) (hL : ShOk L) (x : Int) (hx : InI x) :
    Calls Tryz.prog 27 #[.pointer (some ⟨sb, 0, none⟩), .int .i64 x] w fun e w' => ∃ (p : PageD) (ai : Option Addr) (mi ci : Nat) (ak : Option Addr) (mk ck : Nat) (ad : Option Addr) (md cd : Nat) (av : Option Addr) (mv cv : Nat) (af : Option Addr) (mf cf : Nat), e = .returned (.tuple #[.agg #[.int .i64 p.kind, .slice ai mi ci, .slice ak mk ck, .slice ad md cd, .string p.text, .slice av mv cv, .slice af mf cf, .int .i64 p.next, .int .u64 p.mt.txn, .int .i64 p.mt.main.page, .int .i64 p.mt.main.count, .int .i64 p.mt.main.flags, .int .i64 p.mt.free, .int .i64 p.mt.last], errV (readS s L x).2]) ∧ p = (readS s L x).1 ∧ (∀ W, Agree w.heap.size w' W → Hangs W p (.slice ai mi ci) (.slice ak mk ck) (.slice ad md cd) (.slice av mv cv) (.slice af mf cf)) ∧ Below w.heap.size w w' := by
  refine (read_st h hf hL x hx).mono ?_
  rintro e w' ⟨vi, vk, vd, vv, vg, rfl, h1, h2⟩
  have hg := h1 w' ⟨Nat.le_refl _, fun _ _ _ => rfl⟩
  obtain ⟨ai, mi, ci, rfl⟩ := hg.items.slice
  obtain ⟨ak, mk, ck, rfl⟩ := hg.keys.slice
  obtain ⟨ad, md, cd, rfl⟩ := hg.kids.slice
  obtain ⟨av, mv, cv, rfl⟩ := hg.vals.slice
  obtain ⟨af, mf, cf, rfl⟩ := hg.free.slice
  exact ⟨_, ai, mi, ci, ak, mk, ck, ad, md, cd, av, mv, cv, af, mf, cf, rfl, rfl, h1, h2⟩
set_option maxRecDepth 10000 in
set_option maxHeartbeats 4000000 in
theorem touch_made (h : StoreAt w sb mb fb s vf va) (x : Int) (hx : InI x) (hd : s.dirty.contains x = true) :
    Calls Tryz.prog 14 #[.pointer (some ⟨sb, 0, none⟩), .int .i64 x] w fun e w' => e = .returned (.tuple #[.int .i64 x, .nilIface]) ∧ Below w.heap.size w w' := by
  have C1 := hidS (made_any h x hx)
  rw [hd] at C1
  clear h hd hx
  go_enter Tryz.func14, Tryz.ntmps14
  go_wp2_with fail
  refine C1.out.mono ?_
  rintro e w1 ⟨rfl, hb1⟩
  replace hb1 := hidS hb1
  go_wp2
  go_ret2
  exact ⟨rfl, hb1.out⟩
set_option maxRecDepth 10000 in
set_option maxHeartbeats 4000000 in
theorem touch_new (h : StoreAt w sb mb fb s vf va) {B : Nat} {fv : Value} {L : List F.Sh} (hf : F.FileAt w B fb fv L) (hL : ShOk L) (x : Int) (hx : InI x) (hd : s.dirty.contains x = false) :
    Calls Tryz.prog 14 #[.pointer (some ⟨sb, 0, none⟩), .int .i64 x] w fun e w' => ∃ vf' va', e = .returned (.tuple #[.int .i64 (touchD s L x).1, errV (touchD s L x).2.1]) ∧ StoreAt w' sb mb fb (touchD s L x).2.2 vf' va' ∧ So sb mb w w' := by
  have C1 := hidS (made_any h x hx)
  rw [hd] at C1
  have HS := hidS h
  have HX := hidS hx
  have C2 := hidS (fun W (hW : Below w.heap.size w W) => read_st2 (h.below hW) (hf.below hW) hL x hx)
  have HP := hidS (@readS_page s L x)
  have HSM := hidS (@addD_same s (readS s L x).1)
  have CA : Hid ((readS s L x).2 = 0 → ∀ (W : World) (p : PageD) (ai : Option Addr) (mi ci : Nat) (ak : Option Addr) (mk ck : Nat) (ad : Option Addr) (md cd : Nat) (av : Option Addr) (mv cv : Nat) (af : Option Addr) (mf cf : Nat), p = (readS s L x).1 → StoreAt W sb mb fb s vf va → HangsK W sb mb p (.slice ai mi ci) (.slice ak mk ck) (.slice ad md cd) (.slice av mv cv) (.slice af mf cf) → Calls Tryz.prog 12 #[.pointer (some ⟨sb, 0, none⟩), .agg #[.int .i64 p.kind, .slice ai mi ci, .slice ak mk ck, .slice ad md cd, .string p.text, .slice av mv cv, .slice af mf cf, .int .i64 p.next, .int .u64 p.mt.txn, .int .i64 p.mt.main.page, .int .i64 p.mt.main.count, .int .i64 p.mt.main.flags, .int .i64 p.mt.free, .int .i64 p.mt.last]] W fun e w' => ∃ va', e = .returned (.tuple #[.int .i64 (addD s (readS s L x).1).1, errV (addD s (readS s L x).1).2.1]) ∧ StoreAt w' sb mb fb (addD s (readS s L x).1).2.2 vf va' ∧ So sb mb W w') := fun h0 W p ai mi ci ak mk ck ad md cd av mv cv af mf cf hp hS hH => by
    subst hp
    exact add_any hS _ _ _ _ _ _ hH (HP.out h0).2.1
  have HSB : Hid (sb < w.heap.size ∧ mb < w.heap.size) := hidS ⟨h.lt, h.ltM⟩
  have nE := neqE
  have nN := neqNN
  unfold touchD
  rw [hd]
  simp only [Bool.false_eq_true, ↓reduceIte]
  generalize hAD : addD s (readS s L x).1 = AD at *
  generalize hRS : readS s L x = RS at *
  obtain ⟨rp, re⟩ := RS
  obtain ⟨ax, ae, sn⟩ := AD
  simp only at C2 CA HSM ⊢
  clear hAD hRS HP h hf hL hx hd
  go_enter Tryz.func14, Tryz.ntmps14
  go_wp2_with fail
  refine C1.out.mono ?_
  rintro e w1 ⟨rfl, hb1⟩
  replace hb1 := hidS hb1
  go_wp2_with fail
  refine (C2.out w1 hb1.out).mono ?_
  rintro e w2 ⟨p, ai, mi, ci, ak, mk, ck, ad, md, cd, av, mv, cv, af, mf, cf, rfl, hp, hH, hb2⟩
  have HB2 := hidS (hb1.out.trans (hb2.mono hb1.out.size))
  have HH := hidS hH
  have HPE := hidS hp
  have HZ : Hid (w1.heap.size ≤ w2.heap.size) := hidS hb2.size
  have HZ1 : Hid (w.heap.size ≤ w1.heap.size) := hidS hb1.out.size
  clear hp hH hb2 C1 C2
  by_cases h0 : re = 0
  · subst h0
    rw [errV_0]
    replace CA := hidS (CA.out rfl)
    have CA2 : Hid (∀ W, Below w2.heap.size w2 W → Calls Tryz.prog 12 #[.pointer (some ⟨sb, 0, none⟩), .agg #[.int .i64 p.kind, .slice ai mi ci, .slice ak mk ck, .slice ad md cd, .string p.text, .slice av mv cv, .slice af mf cf, .int .i64 p.next, .int .u64 p.mt.txn, .int .i64 p.mt.main.page, .int .i64 p.mt.main.count, .int .i64 p.mt.main.flags, .int .i64 p.mt.free, .int .i64 p.mt.last]] W fun e w' => ∃ va', e = .returned (.tuple #[.int .i64 ax, errV ae]) ∧ StoreAt w' sb mb fb sn vf va' ∧ So sb mb w w') := hidS fun W hW => by
      have hbW := HB2.out.trans (hW.mono HB2.out.size)
      refine (CA.out W p ai mi ci ak mk ck ad md cd av mv cv af mf cf HPE.out (HS.out.below hbW) (HangsK.new HH.out ⟨hW.size, fun q _ h2 => hW.block q h2⟩ (by have := HSB.out; have := HZ1.out; omega) (by have := HSB.out; have := HZ1.out; omega))).mono ?_
      rintro e w' ⟨va', rfl, h1, h2⟩
      exact ⟨va', rfl, h1, (So.of_below hbW).trans h2⟩
    clear CA HH HPE
    go_wp2_with fail
    refine (CA2.out _ ?_).mono ?_
    · repeat (refine Below.setCell ?_ (by simp) _)
      exact (Below.refl _ _).alloc (Nat.le_refl _) _
    rintro e w4 ⟨va', rfl, hS4, hSo4⟩
    replace hS4 := hidS hS4
    replace hSo4 := hidS hSo4
    by_cases h1 : ae = 0
    · subst h1
      rw [errV_0]
      have CD := hidS (drop_any hS4.out x HX.out)
      clear CA2 HSM
      go_wp2_with fail
      refine CD.out.mono ?_
      rintro e w5 ⟨vf5, va5, rfl, h5, hSo5⟩
      replace h5 := hidS h5
      replace hSo5 := hidS hSo5
      go_wp2
      go_ret2
      first | exact ⟨_, _, rfl, h5.out, hSo4.out.trans hSo5.out⟩ | exact ⟨rfl, ⟨_, _, h5.out⟩, hSo4.out.trans hSo5.out⟩
    · have e0 : errV ae = .iface 59 (.int .i64 ae) := if_neg h1
      obtain ⟨e1, e2⟩ := HSM.out h1
      rw [e0]
      subst e1 e2
      replace h1 := hidS h1
      replace e0 := hidS e0
      clear CA2 HSM
      go_wp2
      go_ret2
      simp only [e0.out]
      first | exact ⟨_, _, rfl, hS4.out, hSo4.out⟩ | exact ⟨rfl, ⟨_, _, hS4.out⟩, hSo4.out⟩
  · have e0 : errV re = .iface 59 (.int .i64 re) := if_neg h0
    rw [e0]
    replace h0 := hidS h0
    replace e0 := hidS e0
    clear CA HSM HH HPE
    go_wp2
    go_ret2
    simp only [e0.out]
    have hfin : ∀ W, Below w2.heap.size w2 W → Below w.heap.size w W := fun W hW => HB2.out.trans (hW.mono HB2.out.size)
    first
      | refine ⟨vf, va, rfl, HS.out.below (hfin _ ?_), So.of_below (hfin _ ?_)⟩
      | refine ⟨rfl, ⟨vf, va, HS.out.below (hfin _ ?_)⟩, So.of_below (hfin _ ?_)⟩
    all_goals
      repeat (refine Below.setCell ?_ (by simp) _)
      exact (Below.refl _ _).alloc (Nat.le_refl _) _
end
end Go.Proofs.YtpionokcabjokaaGreat
