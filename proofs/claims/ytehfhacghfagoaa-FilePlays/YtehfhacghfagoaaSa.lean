/- Rows of steps that come in, as plain data; Write at any number. -/
import Derived.Test.YtehfhacghfagoaaFj
namespace Go.Proofs.Ytehfhacghfagoaa
open Go.RowKit

structure StepD where
  what : Int
  pos : Int
  s : ByteArray
  keep : List Bool
def stepC (x : StepD) (u : Value) : List Value := [.int .i64 x.what, .int .i64 x.pos, .string x.s, u]
/-- A slice of steps, four cells each. -/
def StepsAt (w : World) (v : Value) (l : List StepD) : Prop :=
  ∃ ao cap, v = .slice ao l.length cap ∧ l.length ≤ maxLen ∧ ∀ i (h : i < l.length), ∃ b o u, ao = some ⟨b, o, none⟩ ∧ b < w.heap.size ∧ w.rangeAt b (o + i * 4) (stepC l[i] u) ∧ BoolsAt w u l[i].keep ∧ l[i].s.size ≤ maxLen
theorem steps_nil (w : World) : StepsAt w (.slice none 0 0) [] := ⟨none, 0, rfl, by simp, fun i hi => absurd hi (by simp)⟩
theorem range_below {w w' : World} {b o : Nat} {cs : List Value} (h : w.rangeAt b o cs) (hb : Below w.heap.size w w') (hlt : b < w.heap.size) : w'.rangeAt b o cs :=
  fun j v hj => (hb.cell (p := ⟨b, o + j, none⟩) hlt).trans (h j v hj)
theorem StepsAt.below {w w' : World} {v : Value} {l : List StepD} (h : StepsAt w v l) (hb : Below w.heap.size w w') : StepsAt w' v l := by
  obtain ⟨ao, cap, h1, h2, h3⟩ := h
  refine ⟨ao, cap, h1, h2, fun i hi => ?_⟩
  obtain ⟨b, o, u, ha, hlt, hr, hu, hk⟩ := h3 i hi
  exact ⟨b, o, u, ha, Nat.lt_of_lt_of_le hlt hb.size, range_below hr hb hlt, hu.below hb, hk⟩
theorem Try.elemSteps : Try.prog.underlying 23 = some (.slice (Try.prog.elem 23)) := by kernel_rfl
theorem Try.sizeSteps (w : World) : (Go.sizeOf (Try.prog.elem 23)).run Try.prog w = .ok 4 w := by kernel_rfl
theorem atSteps {ao : Option Addr} {b o : Nat} (len cap k : Nat) (ha : ao = some ⟨b, o, none⟩) (h : k < len) (w : World) : (Instr.indexAt 23 (.slice ao len cap) (.int .i64 (k : Int))).run Try.prog w = .ok (.pointer (some ⟨b, o + k * 4, none⟩)) w := by
  subst ha
  rw [run_indexAt_slice (P := Try.prog) w 23 ⟨b, o, none⟩ len cap .i64 k Try.elemSteps, if_pos (by omega), Try.sizeSteps]
  simp only [Result.andThen, Int.toNat_natCast, Addr.add_mid]
theorem range4 {w : World} {b o : Nat} {x : StepD} {u : Value} (h : w.rangeAt b o (stepC x u)) :
    w.cell? ⟨b, o, none⟩ = some (.int .i64 x.what) ∧ w.cell? ⟨b, o + 1, none⟩ = some (.int .i64 x.pos) ∧ w.cell? ⟨b, o + 2, none⟩ = some (.string x.s) ∧ w.cell? ⟨b, o + 3, none⟩ = some u :=
  ⟨h 0 _ rfl, h 1 _ rfl, h 2 _ rfl, h 3 _ rfl⟩
/-- Write at whatever number: what is there behind it, and the error. -/
def writeA (l : List Sh) (i : Int) (s : ByteArray) : List Sh := if 0 ≤ i ∧ i < 400 then writeL l i.toNat s else l
def errW (i : Int) : Value := if 0 ≤ i ∧ i < 400 then .nilIface else .iface 53 (.int .i64 14)
theorem write_int (w : World) (B fb : Nat) (v : Value) (l : List Sh) (i : Int) (s : ByteArray) (h : FileAt w B fb v l) :
    Calls Try.prog 11 #[.pointer (some ⟨fb, 0, none⟩), .int .i64 i, .string s] w fun e w' => e = .returned (errW i) ∧ ∃ v', FileAt w' B fb v' (writeA l i s) ∧ Fo fb w v w' v' := by
  by_cases hi : 0 ≤ i ∧ i < 400
  · have := write_any w B fb v l i.toNat s h (by omega)
    rw [Int.toNat_of_nonneg hi.1] at this
    rw [errW, writeA, if_pos hi, if_pos hi]
    exact this
  · refine (write_not w fb i s (by omega)).mono ?_
    rintro e w' ⟨rfl, rfl⟩
    rw [errW, writeA, if_neg hi, if_neg hi]
    exact ⟨rfl, v, h, Fo.refl _ _ _⟩
theorem newL_loose (ss : List ByteArray) : ∀ n, looseL (newL ss) n = [] := by
  induction ss with
  | nil => intro n; rfl
  | cons s ss ih => intro n; simp only [newL, List.map_cons, looseL] at ih ⊢; simpa using ih (n + 1)
theorem newL_read (ss : List ByteArray) (k : Nat) (h : k < ss.length) : readL (newL ss) (k : Int) = ss[k] := by
  simp [readL, newL, h]
theorem newL_length (ss : List ByteArray) : (newL ss).length = ss.length := by simp [newL]
end Go.Proofs.Ytehfhacghfagoaa
