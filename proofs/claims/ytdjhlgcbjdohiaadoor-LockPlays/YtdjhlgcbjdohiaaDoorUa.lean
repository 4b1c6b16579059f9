/- The reference's lock in memory; contracts of its Take, Release, Claim, Publish, Free, Sweep and Oldest. -/
import Derived.Test.YtdjhlgcbjdohiaaDoorZr
namespace Go.Proofs.YtdjhlgcbjdohiaaDoor
open Go.RowKit Go.Conc

def rlCells (W : Int) (S : List SlotD) : Array Value := (.int .i64 W :: slotCells S).toArray
structure RlAt (w : World) (B rb : Nat) (W : Int) (S : List SlotD) : Prop where
  obj : w.heap[rb]? = some (.cells (rlCells W S) 34 (0, 0))
  base : B ≤ rb
  len : S.length = 8
section
variable {w w' : World} {B rb : Nat} {W : Int} {S : List SlotD}
theorem RlAt.lt (h : RlAt w B rb W S) : rb < w.heap.size := lt_of_heap h.obj
theorem RlAt.kept (h : RlAt w B rb W S) (hp : w'.heap[rb]? = w.heap[rb]?) : RlAt w' B rb W S := ⟨hp.trans h.obj, h.base, h.len⟩
theorem RlAt.below (h : RlAt w B rb W S) (hb : Below w.heap.size w w') : RlAt w' B rb W S := h.kept (hb.block rb h.lt)
theorem RlAt.writer (h : RlAt w B rb W S) : w.cell? ⟨rb, 0, none⟩ = some (.int .i64 W) := by rw [cell_rowL h.obj]; rfl
theorem RlAt.pid (h : RlAt w B rb W S) (i : Nat) (hi : i < 8) : w.cell? ⟨rb, 1 + i * 2, none⟩ = some (.int .i64 (pidAt S i)) := by
  rw [cell_rowL h.obj, ← slotCells_pid S i (by rw [h.len]; exact hi), show 1 + i * 2 = i * 2 + 1 by omega]
  simp [rlCells]
theorem RlAt.txn (h : RlAt w B rb W S) (i : Nat) (hi : i < 8) : w.cell? ⟨rb, 1 + i * 2 + 1, none⟩ = some (.int .u64 (txnAt S i)) := by
  rw [cell_rowL h.obj, ← slotCells_txn S i (by rw [h.len]; exact hi), show 1 + i * 2 + 1 = i * 2 + 1 + 1 by omega]
  simp [rlCells]
theorem RlAt.free (h : RlAt w B rb W S) (j : Nat) : w.frozen? ⟨rb, j, none⟩ = false := frozen_rowL h.obj j
theorem RlAt.putS (h : RlAt w B rb W S) (i : Nat) (p t : Int) : RlAt ((w.setCell ⟨rb, 1 + i * 2, none⟩ (.int .i64 p)).setCell ⟨rb, 1 + i * 2 + 1, none⟩ (.int .u64 t)) B rb W (S.set i (p, t)) := by
  have h1 := heap_setCell_same w rb (1 + i * 2) _ _ (.int .i64 p) h.obj
  have h2 := heap_setCell_same _ rb (1 + i * 2 + 1) _ _ (.int .u64 t) h1
  refine ⟨?_, h.base, by rw [List.length_set, h.len]⟩
  rw [h2, rlCells, rlCells, ← slotCells_set]
  simp [show 1 + i * 2 = i * 2 + 1 by omega]
theorem RlAt.putT (h : RlAt w B rb W S) (i : Nat) (t : Int) : RlAt (w.setCell ⟨rb, 1 + i * 2 + 1, none⟩ (.int .u64 t)) B rb W (S.set i (pidAt S i, t)) := by
  have h2 := heap_setCell_same w rb (1 + i * 2 + 1) _ _ (.int .u64 t) h.obj
  refine ⟨?_, h.base, by rw [List.length_set, h.len]⟩
  rw [h2, rlCells, rlCells, ← slotCells_setTxn]
  simp [show 1 + i * 2 = i * 2 + 1 by omega]
theorem RlAt.putW (h : RlAt w B rb W S) (V : Int) : RlAt (w.setCell ⟨rb, 0, none⟩ (.int .i64 V)) B rb V S := by
  refine ⟨?_, h.base, h.len⟩
  rw [heap_setCell_same w rb 0 _ _ (.int .i64 V) h.obj]
  simp [rlCells]
end
theorem grown_put2 (w : World) (b i j : Nat) (u v : Value) : w.grownBy ((w.setCell ⟨b, i, none⟩ u).setCell ⟨b, j, none⟩ v) (some b) := grown_trans (grown_setCell w b i u) (grown_setCell _ b j v)

set_option maxHeartbeats 2000000 in
theorem rtake_any (w : World) (B rb qb C : Nat) (W pid last : Int) (u : Value) (l : List Int) (S : List SlotD) (h : RlAt w B rb W S) (hq : RpAt w C qb u last l) (hl : l.length ≤ 1000) :
    Calls Tryd.prog 8 #[.pointer (some ⟨rb, 0, none⟩), .int .i64 pid, .pointer (some ⟨qb, 0, none⟩)] w fun e w' => e = .returned (.bool (takeB W pid (l.contains W))) ∧ RlAt w' B rb (takeW W pid (l.contains W)) S ∧ w.grownBy w' (some rb) := by
  have hL := hid h
  have hx := h.writer
  have hlt := h.lt
  have hz := h.free
  have HV := hid (rlives_any w C qb u last W l hq hl)
  have hB : Hid (∀ b, l.contains W = b → takeB W pid (l.contains W) = (decide (0 < pid) && decide (pid ≠ W) && (decide (W = 0) || !b))) := hid (by rintro b rfl; rfl)
  have hT : Hid (∀ b, takeB W pid (l.contains W) = b → takeW W pid (l.contains W) = if b then pid else W) := hid (by rintro b rfl; rfl)
  clear h hq hl
  generalize takeB W pid (l.contains W) = tb at *
  generalize takeW W pid (l.contains W) = tw at *
  generalize l.contains W = c at *
  have hT := hid (hT.out _ rfl)
  have hB := hid (hB.out _ rfl)
  by_cases hp : pid < 1
  · have hf : tb = false := by rw [hB.out, show decide (0 < pid) = false by simp; omega]; simp
    subst hf
    go_enter Tryd.func8, Tryd.ntmps8
    go_wp2
    go_ret
    exact ⟨rfl, by rw [hT.out, if_neg (by simp)]; exact hL.out, World.grownBy.refl _ _⟩
  · have hp0 : 0 < pid := by omega
    have hd0 : decide (pid < 1) = false := by simpa using hp
    by_cases hW : W = 0
    · subst hW
      have hf : tb = true := by rw [hB.out]; simp; omega
      have hne : ((0 : Int) == pid) = false := by simp; omega
      have hne2 : decide ((0 : Int) = pid) = false := by simp; omega
      subst hf
      go_enter Tryd.func8, Tryd.ntmps8
      go_wp2
      go_ret
      exact ⟨rfl, by rw [hT.out, if_pos (by simp)]; exact hL.out.putW pid, grown_setCell _ _ _ _⟩
    · cases c with
      | true =>
        have hf : tb = false := by rw [hB.out]; simp [hW]
        subst hf
        go_enter Tryd.func8, Tryd.ntmps8
        go_wp2_with (go_at_call 35; refine HV.out.mono ?_; rintro e w1 ⟨rfl, rfl⟩)
        go_ret
        exact ⟨rfl, by rw [hT.out, if_neg (by simp)]; exact hL.out, World.grownBy.refl _ _⟩
      | false =>
        by_cases he : W = pid
        · have hf : tb = false := by rw [hB.out, show decide (pid ≠ W) = false by rw [he]; simp]; simp
          subst hf
          subst he
          go_enter Tryd.func8, Tryd.ntmps8
          go_wp2_with (go_at_call 35; refine HV.out.mono ?_; rintro e w1 ⟨rfl, rfl⟩)
          go_ret
          exact ⟨rfl, by rw [hT.out, if_neg (by simp)]; exact hL.out, World.grownBy.refl _ _⟩
        · have hf : tb = true := by rw [hB.out]; simp [hp0, Ne.symm he]
          subst hf
          go_enter Tryd.func8, Tryd.ntmps8
          go_wp2_with (go_at_call 35; refine HV.out.mono ?_; rintro e w1 ⟨rfl, rfl⟩)
          go_ret
          exact ⟨rfl, by rw [hT.out, if_pos (by simp)]; exact hL.out.putW pid, grown_setCell _ _ _ _⟩

set_option maxHeartbeats 2000000 in
theorem rrelease_any (w : World) (B rb : Nat) (W pid : Int) (S : List SlotD) (h : RlAt w B rb W S) :
    Calls Tryd.prog 10 #[.pointer (some ⟨rb, 0, none⟩), .int .i64 pid] w fun e w' => e = .returned (.bool (relB W pid)) ∧ RlAt w' B rb (relW W pid) S ∧ w.grownBy w' (some rb) := by
  have hL := hid h
  have hx := h.writer
  have hlt := h.lt
  have hz := h.free
  clear h
  by_cases hp : pid < 1
  · have hb : Hid (relB W pid = false) := hid (by rw [relB, show decide (0 < pid) = false by simp; omega]; simp)
    go_enter Tryd.func10, Tryd.ntmps10
    go_wp2
    go_ret
    rw [relW, hb.out]
    exact ⟨rfl, hL.out, World.grownBy.refl _ _⟩
  · by_cases he : W = pid
    · subst he
      have hb : Hid (relB W W = true) := hid (by rw [relB]; simp; omega)
      go_enter Tryd.func10, Tryd.ntmps10
      go_wp2
      go_ret
      rw [relW, hb.out]
      exact ⟨rfl, hL.out.putW 0, grown_setCell _ _ _ _⟩
    · have hb : Hid (relB W pid = false) := hid (by rw [relB]; simp [Ne.symm he])
      go_enter Tryd.func10, Tryd.ntmps10
      go_wp2
      go_ret
      rw [relW, hb.out]
      exact ⟨rfl, hL.out, World.grownBy.refl _ _⟩

def rclaimE (S : List SlotD) (pid : Int) : Ending := if claimOk S pid then .returned (.tuple #[.int .i64 (freeI S), .int .i64 0]) else .returned (.tuple #[.int .i64 (-1), .int .i64 15])
set_option maxHeartbeats 2000000 in
theorem rclaim_any (w : World) (B rb : Nat) (W pid : Int) (S : List SlotD) (h : RlAt w B rb W S) :
    Calls Tryd.prog 12 #[.pointer (some ⟨rb, 0, none⟩), .int .i64 pid] w fun e w' => e = rclaimE S pid ∧ RlAt w' B rb W (claimS S pid) ∧ w.grownBy w' (some rb) := by
  have hlt := h.lt
  have hL := hid h
  have h8 := h.len
  have hle := freeI_le S
  rw [h8] at hle
  have hbef := hid (@freeI_before S)
  have hat := hid (@freeI_at S)
  have hcE : Hid (∀ b, claimOk S pid = b → rclaimE S pid = if b then .returned (.tuple #[.int .i64 (freeI S), .int .i64 0]) else .returned (.tuple #[.int .i64 (-1), .int .i64 15])) := hid (by rintro b rfl; rfl)
  have hcS : Hid (claimS S pid = if freeI S < 8 ∧ 0 < pid then S.set (freeI S) (pid, 0) else S) := hid rfl
  have hcO : Hid (claimOk S pid = (decide (freeI S < 8) && decide (0 < pid))) := hid rfl
  clear h
  generalize freeI S = f at *
  replace h8 := hid h8
  by_cases hp : 0 < pid
  · go_enter Tryd.func12, Tryd.ntmps12
    go_wp2
    go_loopg [6] 8 (fun g i wr => ∃ k : Nat, k + g = 8 ∧ k ≤ f ∧ i = .int .i64 (k : Int) ∧ wr = w)
    case atStart => exact ⟨0, by omega, by omega, rfl, rfl⟩
    case round =>
      obtain ⟨k, hk, hkf, rfl, rfl⟩ := hrel
      cases gk with
      | succ g =>
        have hpd := hL.out.pid k (by omega)
        have ht := hL.out.txn k (by omega)
        have hz := hL.out.free
        have L2 := hid (hL.out.putS k pid 0)
        generalize txnAt S k = t at *
        generalize hpk : pidAt S k = p at *
        by_cases hkf' : k < f
        · have hne : p ≠ 0 := by rw [← hpk]; exact hbef.out k hkf'
          clear hpk
          go_wp2
          go_roundg g
          case rel => exact ⟨k + 1, by omega, by omega, by go_num, rfl⟩
          case measure => omega
        · obtain rfl : f = k := by omega
          have he : p = 0 := by rw [← hpk]; exact hat.out (by rw [h8.out]; omega)
          subst he
          clear hpk hat hbef
          go_wp2
          go_ret2
          rw [hcE.out true (by rw [hcO.out]; simp [hp]; omega), if_pos rfl, hcS.out, if_pos ⟨by omega, hp⟩]
          exact ⟨rfl, L2.out, grown_put2 _ _ _ _ _ _⟩
      | zero =>
        have hke : k = 8 := by omega
        subst hke
        have hf8 : f = 8 := by omega
        clear hat hbef
        replace hf8 := hid hf8
        go_wp2
        go_ret2
        rw [hcE.out false (by rw [hcO.out, hf8.out]; simp), if_neg (by simp), hcS.out, if_neg (by have := hf8.out; omega)]
        exact ⟨rfl, hL.out, World.grownBy.refl _ _⟩
  · go_enter Tryd.func12, Tryd.ntmps12
    go_wp2
    refine wp_loop_rounds 1 ?_
    rw [rounds_succ]
    go_wp2
    go_ret2
    rw [hcE.out false (by rw [hcO.out]; simp [hp]), if_neg (by simp), hcS.out, if_neg (by omega)]
    exact ⟨rfl, hL.out, World.grownBy.refl _ _⟩
end Go.Proofs.YtdjhlgcbjdohiaaDoor
