/- LockPlays: steps that come in, as plain data; the four objects as they begin. -/
import Derived.Test.YtdjhlgcbjdohiaaDoorUf
import Derived.Deep.DeepCutAuto
import Derived.Deep.RegionHeld3
namespace Go.Proofs.YtdjhlgcbjdohiaaDoor
open Go.RowKit Go.Conc

structure StepL where
  what : Int
  pid : Int
  slot : Int
  txn : Int
def stepC (x : StepL) : List Value := [.int .i64 x.what, .int .i64 x.pid, .int .i64 x.slot, .int .u64 x.txn]
/-- A slice of steps, four cells each. -/
def StepsL (w : World) (v : Value) (l : List StepL) : Prop :=
  ∃ ao cap, v = .slice ao l.length cap ∧ l.length ≤ maxLen ∧ ∀ i (h : i < l.length), ∃ b o, ao = some ⟨b, o, none⟩ ∧ b < w.heap.size ∧ w.rangeAt b (o + i * 4) (stepC l[i]) ∧ l[i].pid < 9223372036854775808 ∧ 0 ≤ l[i].txn ∧ l[i].txn < 18446744073709551616
theorem Tryd.elemSteps : Tryd.prog.underlying 22 = some (.slice (Tryd.prog.elem 22)) := by kernel_rfl
theorem Tryd.sizeSteps (w : World) : (Go.sizeOf (Tryd.prog.elem 22)).run Tryd.prog w = .ok 4 w := by kernel_rfl
theorem atSteps {ao : Option Addr} {b o : Nat} (len cap k : Nat) (ha : ao = some ⟨b, o, none⟩) (h : k < len) (w : World) : (Instr.indexAt 22 (.slice ao len cap) (.int .i64 (k : Int))).run Tryd.prog w = .ok (.pointer (some ⟨b, o + k * 4, none⟩)) w := by
  subst ha
  rw [run_indexAt_slice (P := Tryd.prog) w 22 ⟨b, o, none⟩ len cap .i64 k Tryd.elemSteps, if_pos (by omega), Tryd.sizeSteps]
  simp only [Result.andThen, Int.toNat_natCast, Addr.add_mid]
theorem range4 {w : World} {b o : Nat} {x : StepL} (h : w.rangeAt b o (stepC x)) :
    w.cell? ⟨b, o, none⟩ = some (.int .i64 x.what) ∧ w.cell? ⟨b, o + 1, none⟩ = some (.int .i64 x.pid) ∧ w.cell? ⟨b, o + 2, none⟩ = some (.int .i64 x.slot) ∧ w.cell? ⟨b, o + 3, none⟩ = some (.int .u64 x.txn) :=
  ⟨h 0 _ rfl, h 1 _ rfl, h 2 _ rfl, h 3 _ rfl⟩
theorem rlCells_free : rlCells 0 freeS = #[.int .i64 0, .int .i64 0, .int .u64 0, .int .i64 0, .int .u64 0, .int .i64 0, .int .u64 0, .int .i64 0, .int .u64 0, .int .i64 0, .int .u64 0, .int .i64 0, .int .u64 0, .int .i64 0, .int .u64 0, .int .i64 0, .int .u64 0] := rfl
theorem qd_new {w X Y Z : World} {lb cb : Nat} (hb : Below w.heap.size w X) (hl : LockAt Y X.heap.size lb cb 0 freeS) (hY : Below X.heap.size X Y) (hp : ProcsAt Z Y.heap.size (Y.heap.size + 1) Y.heap.size (.slice none 0 0) 0 [] 0) (hZ : Below Y.heap.size Y Z) :
    Qd w ((Z.alloc (.cells (rlCells 0 freeS) 34)).alloc (.cells #[.slice none 0 0, .int .i64 0] 38)) lb cb (Y.heap.size + 1) Y.heap.size Z.heap.size (Z.heap.size + 1) 0 freeS 0 freeS (.slice none 0 0) (.slice none 0 0) 0 [] 0 [] := by
  have h0 := bl_new hb hl hY hp hZ
  have b1 := (Below.refl Z.heap.size Z).alloc (Nat.le_refl _) (.cells (rlCells 0 freeS) 34)
  have b2 := b1.alloc (by simp) (.cells #[.slice none 0 0, .int .i64 0] 38)
  have hs := h0.bel.size
  refine ⟨h0.l.below b2, h0.p.below b2, ⟨?_, hs, rfl⟩, ⟨?_, by omega, OwnInts.nil _ _⟩, by simp [Value.ownBlock], h0.bel.trans (b2.mono hs)⟩
  · rw [Below.heap_alloc _ _ _ (by simp)]
    exact heap_newL Z _
  · have := heap_newL (Z.alloc (.cells (rlCells 0 freeS) 34)) (.cells #[.slice none 0 0, .int .i64 0] 38)
    rwa [World.size_alloc] at this

end Go.Proofs.YtdjhlgcbjdohiaaDoor
