/- Contracts of the reference's Num, num and its lock's Bytes. -/
import Derived.Test.YtdjhlgcbjdohiaaDoorUb
import Derived.Lib.QuietBelow
import Derived.BigQuiet
namespace Go.Proofs.YtdjhlgcbjdohiaaDoor
open Go.RowKit Go.Conc Go.Sort

set_option maxRecDepth 100000 in
set_option maxHeartbeats 1000000 in
theorem refNumS_any (n : Int) (w : World) (_hn0 : 0 ≤ n) (_hn : n < 18446744073709551616) :
    Calls Tryd.prog 49 #[.int .u64 n] w fun e w' => e = .returned (.string (lowS n 8)) ∧ Below w.heap.size w w' := by
  obtain ⟨i0, hi, hz0, hz1, hz2⟩ := info_parts Tryd.info5
  go_enter Tryd.func49, Tryd.ntmps49
  go_wp2_with (first
    | (at_make; refine wpList_make_full _ rfl _ _ 88 rfl w.heap.size 5 i0 (.int .u8 0) 1 Tryd.underlying88 hi hz0 hz1 .i64 .i64 _ _ 8 rfl rfl rfl rfl (by rw [hz2]; omega) (by unfold maxLen; omega) (Nat.le_refl _) ?_)
    | fail)
  intro w1 hown hg
  have hown0 : w1.ownsRow w.heap.size 5 1 (Value.slice (some { block := w.heap.size, off := 0 }) 8 8) 8 (lowRow n 8 0) := by
    rw [lowRow_zero, ← toList_madeCells_one]; exact hown
  have hb1 : Below w.heap.size w w1 := (Below.refl _ w).grown hg (Nat.le_refl _) (by simp)
  clear hown hg
  go_wp2
  go_loopw [4] (fun i wr => ∃ j : Nat, j ≤ 8 ∧ i = .int .i64 j ∧ wr.ownsRow w.heap.size 5 1 (Value.slice (some { block := w.heap.size, off := 0 }) 8 8) 8 (lowRow n 8 j) ∧ Below w.heap.size w wr) (fun i _ => 8 - (intOf i).toNat)
  case atStart => exact ⟨0, Nat.zero_le _, rfl, hown0, hb1⟩
  case round =>
    obtain ⟨j, hj, rfl, hown, hb⟩ := hrel
    by_cases hlt : j < 8
    · have hfz := hown.frozenAt j
      have hce : wr.cell? ⟨w.heap.size, j, none⟩ = some (.int .u8 0) := by rw [hown.cellAt j (by omega)]; exact lowRow_at n 8 j hlt
      have HS := hown.stored j (.int .u8 (n / 2 ^ (8 * j) % 256))
      rw [lowRow_set] at HS
      have H1 : Hid _ := HS.1
      clear HS hown
      go_wp2
      go_roundw
      case rel => exact ⟨j + 1, by omega, by go_num, H1.out, hb.setCell (Nat.le_refl _) _⟩
      case measure => simp [intOf]; omega
    · have ej : j = 8 := by omega
      subst ej
      rw [lowRow_full] at hown
      have hcv := conv_own hown
      clear hown
      go_wp2
      go_ret
      exact ⟨rfl, hb⟩


set_option maxHeartbeats 1000000 in
theorem rnum_pos (n : Int) (w : World) (h0 : 0 ≤ n) (h1 : n < 9223372036854775808) :
    Calls Tryd.prog 50 #[.int .i64 n] w fun e w' => e = .returned (.string (lowS n 8)) ∧ Below w.heap.size w w' := by
  have hw : IntKind.u64.wrap n = n := by rw [IntKind.wrap_u64]; omega
  have HN := hid (refNumS_any n w h0 (by omega))
  clear h0 h1
  go_enter Tryd.func50, Tryd.ntmps50
  go_wp2_with (go_at_call 49; refine HN.out.mono ?_; rintro e w' ⟨rfl, hb⟩)
  go_ret
  exact ⟨rfl, hb⟩

theorem str_eq {a b : ByteArray} (h : a.data.toList = b.data.toList) : a = b := by
  cases a; cases b
  simp only [ByteArray.mk.injEq]
  exact Array.toList_inj.1 h
theorem lockB_start (W : Int) : lowS 4242 8 ++ lowS 1 8 ++ lowS W 8 = ⟨(lockB W []).toArray⟩ := by
  apply str_eq
  rw [append_list, append_list, lowS_list, lowS_list, lowS_list, lockB_eq]
  simp [slotB]
theorem lockB_next (W : Int) (S : List SlotD) (k : Nat) (h : k < S.length) : (⟨(lockB W (S.take k)).toArray⟩ : ByteArray) ++ lowS (pidAt S k) 8 ++ lowS (txnAt S k) 8 = ⟨(lockB W (S.take (k + 1))).toArray⟩ := by
  apply str_eq
  rw [append_list, append_list, lowS_list, lowS_list]
  simp only [lockB, slotB_succ S k h]
  simp
theorem lockB_size (W : Int) (S : List SlotD) : (⟨(lockB W S).toArray⟩ : ByteArray).size = 24 + S.length * 16 := by
  simp [ByteArray.size, lockB_eq, lowB_length, slotB_length]
  omega
theorem add_str (a b : ByteArray) (h : a.size + b.size ≤ 100000) (w : World) : (binOp .add 9 (.string a) (.string b)).run Tryd.prog w = .ok (.string (a ++ b)) w := by
  simp [go_sem]
  omega
theorem RlAt.wlo' {w : World} {B rb : Nat} {W : Int} {S : List SlotD} (h : RlAt w B rb W S) : S.length = 8 := h.len

set_option maxRecDepth 10000 in
set_option maxHeartbeats 4000000 in
theorem rbytes_any (w : World) (B rb : Nat) (W : Int) (S : List SlotD) (h : RlAt w B rb W S) (hw0 : 0 ≤ W) (hw1 : W < 9223372036854775808) (hok : ∀ s ∈ S, SlotOk s) :
    Calls Tryd.prog 28 #[.pointer (some ⟨rb, 0, none⟩)] w fun e w' => e = .returned (.string ⟨(lockB W S).toArray⟩) ∧ Below w.heap.size w w' := by
  have h8 := hid h.len
  have hlt := h.lt
  have hx := h.writer
  have hL := hid h
  have NP : Hid (∀ (X : World) y, 0 ≤ y ∧ y < 18446744073709551616 → Calls Tryd.prog 49 #[.int .u64 y] X fun e w' => e = .returned (.string (lowS y 8)) ∧ Below X.heap.size X w') := hid (fun X y h => refNumS_any y X h.1 h.2)
  have np : Hid (∀ (X : World) y, 0 ≤ y ∧ y < 9223372036854775808 → Calls Tryd.prog 50 #[.int .i64 y] X fun e w' => e = .returned (.string (lowS y 8)) ∧ Below X.heap.size X w') := hid (fun X y h => rnum_pos y X h.1 h.2)
  have hW : Hid (0 ≤ W ∧ W < 9223372036854775808) := hid ⟨hw0, hw1⟩
  have hpo := hid (fun k => pidAt_ok hok k)
  have hto := hid (fun k => txnAt_ok hok k)
  have hst := hid (lockB_start W)
  have hBW : Hid (Below w.heap.size w w.drew) := hid ⟨rfl, rfl, rfl, Nat.le_refl _, fun _ _ => rfl⟩
  have hsz := lowS_size
  clear h hw0 hw1 hok
  go_enter Tryd.func28, Tryd.ntmps28
  go_wp2_with fail
  go_region_held3 (fun w' => w'.cell? ⟨rb, 0, none⟩ = some (.int .i64 W)) (first | exact (hL.out.below hBW.out).writer | go_keep) (first
    | (go_at_call 49; refine (NP.out _ _ (by omega)).mono ?_; rintro e wf ⟨rfl, BL⟩; have hBW := hid (hBW.out.trans (BL.mono hBW.out.size)); clear BL)
    | (go_at_call 50; refine (np.out _ _ hW.out).mono ?_; rintro e wf ⟨rfl, BL⟩; have hBW := hid (hBW.out.trans (BL.mono hBW.out.size)); clear BL))
  rw [hst.out]
  clear hst hx hlt
  go_wp2
  go_loopg [3, 4] 8 (fun g s i wr => ∃ k : Nat, k + g = 8 ∧ i = .int .i64 (k : Int) ∧ s = .string ⟨(lockB W (S.take k)).toArray⟩ ∧ Hid (Below w.heap.size w wr))
  case atStart => exact ⟨0, by omega, rfl, rfl, hBW⟩
  case round =>
    obtain ⟨k, hk, rfl, rfl, hb⟩ := hrel
    clear hBW
    cases gk with
    | succ g =>
      have hn := hid (lockB_next W S k (by rw [h8.out]; omega))
      have hcs : (⟨(lockB W (S.take k)).toArray⟩ : ByteArray).size ≤ 1000 := by rw [lockB_size]; have := List.length_take_le k S; omega
      have LR := hL.out.below hb.out
      have hp := LR.pid k (by omega)
      have ht := LR.txn k (by omega)
      have hlt := LR.lt
      have hp2 := hid (hpo.out k)
      have ht2 := hid (hto.out k)
      have hBW : Hid (Below w.heap.size w wr.drew) := hid ⟨hb.out.os, hb.out.tape, hb.out.output, hb.out.size, hb.out.block⟩
      have hk8 : Hid (k < 8) := hid (by omega)
      clear LR
      generalize (⟨(lockB W (S.take k)).toArray⟩ : ByteArray) = cur at *
      generalize hpe : pidAt S k = p at *
      generalize hte : txnAt S k = t at *
      replace hpe := hid hpe; replace hte := hid hte
      have HN1 : Hid (∀ d os, Calls Tryd.prog 50 #[.int .i64 p] (grow (redrawn wr d) os) fun e w'' => e = .returned (.string (lowS p 8)) ∧ ∃ q : Regrown, w'' = grow (redrawn wr q.d) q.os) := hid (fun d os => Calls.regrown_of (np.out _ p hp2.out))
      have HN2 : Hid (∀ d os, Calls Tryd.prog 49 #[.int .u64 t] (grow (redrawn wr d) os) fun e w'' => e = .returned (.string (lowS t 8)) ∧ ∃ q : Regrown, w'' = grow (redrawn wr q.d) q.os) := hid (fun d os => Calls.regrown_of (NP.out _ t ht2.out))
      have hc1 : ∀ d os, (grow (redrawn wr d) os).cell? ⟨rb, 1 + k * 2, none⟩ = some (.int .i64 p) := fun d os => ((below_regrown wr d os).cell (p := ⟨rb, 1 + k * 2, none⟩) hlt).trans hp
      have hc2 : ∀ d os, (grow (redrawn wr d) os).cell? ⟨rb, 1 + k * 2 + 1, none⟩ = some (.int .u64 t) := fun d os => ((below_regrown wr d os).cell (p := ⟨rb, 1 + k * 2 + 1, none⟩) hlt).trans ht
      have hk8' : k < 8 := hk8.out
      go_wp2_with fail
      refine wp_region_quiet_below (by kernel_rfl) (by kernel_rfl) ?_
      repeat (go_big_quiet_step (first | exact HN1.out _ _ | exact HN2.out _ _))
      refine wpQuiet_nil ?_
      intro _ hw'
      obtain ⟨⟨dq, osq⟩, hw''⟩ := hw'
      subst hw''
      have hB2 := hid (hb.out.trans ((below_regrown wr dq osq).mono hb.out.size))
      clear hc1 hc2 HN1 HN2 hb hp ht hBW
      go_wp2
      go_roundg g
      case rel => exact ⟨k + 1, by omega, by go_num, by rw [hn.out], hB2⟩
      case measure => omega
    | zero =>
      have hke : k = 8 := by omega
      subst hke
      rw [List.take_of_length_le (by rw [h8.out]; omega)]
      go_wp2
      go_ret
      exact ⟨rfl, hb.out⟩
end Go.Proofs.YtdjhlgcbjdohiaaDoor
