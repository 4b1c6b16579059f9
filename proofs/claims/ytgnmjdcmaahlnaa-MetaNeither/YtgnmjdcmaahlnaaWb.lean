/- Contracts of package pack's Cut: what it is in memory, and what is taken from its front. -/
import Derived.Test.YtgnmjdcmaahlnaaWa
namespace Go.Proofs.Ytgnmjdcmaahlnaa
open Go.RowKit

/-- In block b lies a Cut of which the bytes l are left (they lie in block rb); sh: bytes have lacked. -/
def CutAt (w : World) (b rb : Nat) (l : List UInt8) (sh : Bool) : Prop :=
  b ≠ rb ∧ rb < w.heap.size ∧ ∃ ao cap, w.heap[b]? = some (.cells #[.slice ao l.length cap, .bool sh] 124 (0, 0)) ∧ l.length ≤ cap ∧ cap ≤ maxLen ∧
    (l = [] ∨ ∃ o, ao = some ⟨rb, o, none⟩ ∧ ∀ j (h : j < l.length), w.cell? ⟨rb, o + j, none⟩ = some (.int .u8 (l[j].toNat : Int)))

theorem lt_of_heap {w : World} {b : Nat} {o : Obj} (h : w.heap[b]? = some o) : b < w.heap.size := (Array.getElem?_eq_some_iff.1 h).1

theorem CutAt.lt {w : World} {b rb : Nat} {l : List UInt8} {sh : Bool} (h : CutAt w b rb l sh) : b < w.heap.size := by
  obtain ⟨_, _, ao, cap, h, _⟩ := h
  exact lt_of_heap h

/-- A Cut stays what it is while other blocks turn. -/
theorem CutAt.kept {w w' : World} {b rb : Nat} {l : List UInt8} {sh : Bool} (h : CutAt w b rb l sh) (hb : w'.heap[b]? = w.heap[b]?) (hr : w'.heap[rb]? = w.heap[rb]?) (hs : w.heap.size ≤ w'.heap.size) : CutAt w' b rb l sh := by
  obtain ⟨h1, h2, ao, cap, h3, h4, h5, h6⟩ := h
  refine ⟨h1, by omega, ao, cap, hb.trans h3, h4, h5, ?_⟩
  rcases h6 with h6 | ⟨o, ho, hc⟩
  · exact .inl h6
  · exact .inr ⟨o, ho, fun j hj => (World.cell?_of_block (a := ⟨rb, o + j, none⟩) hr).trans (hc j hj)⟩

theorem CutAt.below {w w' : World} {b rb N : Nat} {l : List UInt8} {sh : Bool} (h : CutAt w b rb l sh) (hb : Below N w w') (h1 : b < N) (h2 : rb < N) : CutAt w' b rb l sh :=
  h.kept (hb.block b h1) (hb.block rb h2) hb.size

theorem cells_cut {w : World} {b : Nat} {x y : Value} (h : w.heap[b]? = some (.cells #[x, y] 124 (0, 0))) :
    w.cell? ⟨b, 0, none⟩ = some x ∧ w.cell? ⟨b, 1, none⟩ = some y ∧ w.frozen? ⟨b, 0, none⟩ = false ∧ w.frozen? ⟨b, 1, none⟩ = false := by
  refine ⟨?_, ?_, ?_, ?_⟩ <;> simp [World.cell?, World.frozen?, h]

/-- The world behind a store into block b alone. -/
theorem grown_setCell (w : World) (b o : Nat) (u : Value) : w.grownBy (w.setCell ⟨b, o, none⟩ u) (some b) :=
  ⟨rfl, rfl, rfl, by simp [World.setCell], fun k _ hk => Below.heap_setCell _ _ _ _ (fun e => hk (by rw [e]))⟩
theorem grown_of_below {N b : Nat} {w w1 w' : World} (h : Below N w w1) (hN : N = w.heap.size) (g : w1.grownBy w' (some b)) : w.grownBy w' (some b) := by
  subst hN
  exact ⟨g.os.trans h.os, g.tape.trans h.tape, g.output.trans h.output, Nat.le_trans h.size g.size, fun k hk hne => (g.block k (Nat.lt_of_lt_of_le hk h.size) hne).trans (h.block k hk)⟩

set_option maxHeartbeats 400000 in
theorem new_any (s : ByteArray) (w : World) (hs : s.size ≤ maxLen) :
    Calls Try.prog 36 #[.string s] w fun e w' => e = .returned (.pointer (some ⟨w.heap.size + 1, 0, none⟩)) ∧ CutAt w' (w.heap.size + 1) w.heap.size s.data.toList false ∧ w'.heap.size = w.heap.size + 2 ∧ Below w.heap.size w w' := by
  have hcv := fun w => run_bytes_of_string (P := Try.prog) w 9 109 5 s Try.underlying9 Try.underlying109 Try.underlying5
  have hca := grownCap_ge w s.size 0 5
  have hcb := grownCap_le_maxLen w s.size 0 5 hs
  have hfin : ∀ cap, s.size ≤ cap → cap ≤ maxLen → CutAt ((w.alloc (Obj.cells (bytesRow s cap) 5 ((bytesRow s cap).size, (bytesRow s cap).size + 1))).alloc (Obj.cells #[Value.slice (some { block := w.heap.size, off := 0 }) s.size cap, Value.bool false] 124)).drew (w.heap.size + 1) w.heap.size s.data.toList false := by
    intro cap h1 h2
    have hsz : s.data.toList.length = s.size := by simp
    refine ⟨by omega, by simp; omega, some ⟨w.heap.size, 0, none⟩, cap, ?_, by omega, h2, .inr ⟨0, rfl, ?_⟩⟩
    · rw [hsz]
      show ((w.heap.push _).push _)[w.heap.size + 1]? = _
      rw [show w.heap.size + 1 = (w.heap.push (Obj.cells (bytesRow s cap) 5 ((bytesRow s cap).size, (bytesRow s cap).size + 1))).size by simp]
      exact Array.getElem?_push_size
    · intro j hj
      have hj' : j < s.data.size := by simpa using hj
      have : (((w.alloc (Obj.cells (bytesRow s cap) 5 ((bytesRow s cap).size, (bytesRow s cap).size + 1))).alloc (Obj.cells #[Value.slice (some { block := w.heap.size, off := 0 }) s.size cap, Value.bool false] 124)).drew).heap[w.heap.size]? = some (Obj.cells (bytesRow s cap) 5 ((bytesRow s cap).size, (bytesRow s cap).size + 1)) := by
        show ((w.heap.push _).push _)[w.heap.size]? = _
        simp [Array.getElem?_push]
      unfold World.cell?
      rw [this]
      simp [bytesRow_at s cap j hj']
  have H := hfin _ hca hcb
  clear hfin
  have HF : Hid _ := H
  clear H hca hcb
  go_enter Try.func36, Try.ntmps36
  go_wp2
  go_ret
  exact ⟨rfl, HF.out, by simp, by refine Below.drew (Below.alloc (Below.alloc (Below.refl _ _) (Nat.le_refl _) _) (by simp) _)⟩

theorem Try.elem42 : Try.prog.underlying 109 = some (.slice (Try.prog.elem 109)) := by kernel_rfl
theorem Try.size5 (w : World) : (Go.sizeOf (Try.prog.elem 109)).run Try.prog w = .ok 1 w := by kernel_rfl
/-- 'field[:0]' of a slice that the call owns. -/
theorem own_cut0 {w : World} {base : Nat} {v : Value} {n : Nat} {xs : List Value} (h : w.ownsRow base 5 1 v n xs) :
    ∃ v0, (∀ w1, (Instr.slice 109 v none (some (.int .i64 0)) none).run Try.prog w1 = .ok v0 w1) ∧ w.ownsRow base 5 1 v0 0 [] ∧ v0.ownBlock = v.ownBlock := by
  rcases h.2 with ⟨rfl, rfl⟩ | ⟨g, cap, cur, rfl, hb, hg, hnc, hcm, hcs, htake⟩
  · exact ⟨.slice none 0 0, fun w1 => by kernel_rfl, World.ownsRow_nil _ _ _ _, rfl⟩
  · refine ⟨.slice (some ⟨g, 0, none⟩) 0 cap, fun w1 => ?_, ⟨by simp, .inr ⟨g, cap, cur, rfl, hb, hg, Nat.zero_le _, hcm, hcs, by simp⟩⟩, rfl⟩
    rw [run_slice_h (P := Try.prog) w1 109 (some ⟨g, 0, none⟩) n cap Try.elem42 .i64 0 (by omega) (by omega), Try.size5]
    simp [sliced, Result.andThen, Addr.add]

/-- Bytes as cells. -/
def cellsOf (l : List UInt8) : List Value := l.map fun b => .int .u8 (b.toNat : Int)
/-- 'number' of whatever slice of at most eight bytes the call owns. -/
theorem number_any (l : List UInt8) (base : Nat) (v : Value) (w : World) (hl : l.length ≤ 8) (ho : w.ownsRow base 5 1 v l.length (cellsOf l)) :
    Calls Try.prog 70 #[v] w fun e w' => e = .returned (.int .u64 (leN l)) ∧ w' = w := by
  rcases ho.2 with ⟨rfl, h0⟩ | ⟨g, cap, cur, rfl, _⟩
  · have : l = [] := List.eq_nil_of_length_eq_zero h0
    subst this
    exact number_none none 0 w
  · exact number_own l base g cap w hl ho

/-- Where field i begins, if its width is wd i. -/
def atOf (wd : Nat → Nat) : Nat → Nat
  | 0 => 0
  | i + 1 => atOf wd i + wd i
/-- The field that was taken last, behind i of them. -/
def fieldOf (l : List UInt8) (wd : Nat → Nat) : Nat → List UInt8
  | 0 => []
  | i + 1 => (l.drop (atOf wd i)).take (wd i)
end Go.Proofs.Ytgnmjdcmaahlnaa
