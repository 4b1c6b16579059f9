/- Bytes of a string in a row of their own; one of them changed; the string of them. -/
import Derived.Test.YtkfhkhjoindcbaaBa
namespace Go.Proofs.Ytkfhkhjoindcbaa
open Go.RowKit

/-- The cells from 0 on of block g are the bytes L, and may be written. -/
structure RowB (w : World) (g : Nat) (L : List UInt8) : Prop where
  cells : ∀ j (h : j < L.length), w.cell? ⟨g, j, none⟩ = some (.int .u8 (L[j].toNat : Int))
  free : ∀ j, j < L.length → w.frozen? ⟨g, j, none⟩ = false

theorem bs_row (L : List UInt8) (cap j : Nat) (h : j < L.length) : (bytesRow (bs L) cap)[j]? = some (.int .u8 (L[j].toNat : Int)) := by
  have hj : j < (bs L).data.size := by simpa [bs] using h
  rw [bytesRow_at (bs L) cap j hj]
  simp [bs]
theorem bs_row_size (L : List UInt8) (cap : Nat) (h : L.length ≤ cap) : (bytesRow (bs L) cap).size = cap := by
  have := bs_size L
  simp [bytesRow]
  have h2 : (bs L).size = (bs L).data.size := rfl
  omega
theorem rowB_new (Y : World) (L : List UInt8) (cap : Nat) (T : TypeId) (h : L.length ≤ cap) :
    RowB (Y.drew.alloc (.cells (bytesRow (bs L) cap) T ((bytesRow (bs L) cap).size, (bytesRow (bs L) cap).size + 1))) Y.heap.size L := by
  have hn : (Y.drew.alloc (.cells (bytesRow (bs L) cap) T ((bytesRow (bs L) cap).size, (bytesRow (bs L) cap).size + 1))).heap[Y.heap.size]? = some (.cells (bytesRow (bs L) cap) T ((bytesRow (bs L) cap).size, (bytesRow (bs L) cap).size + 1)) := heap_newL Y.drew _
  refine ⟨fun j hj => ?_, fun j hj => ?_⟩
  · rw [cell_rowL hn]
    exact bs_row L cap j hj
  · have := bs_row_size L cap h
    unfold World.frozen?
    simp only [hn]
    simp
    omega
theorem RowB.stored {w : World} {g : Nat} {L : List UInt8} (h : RowB w g L) (k : Nat) (hk : k < L.length) (x : UInt8) :
    RowB (w.setCell ⟨g, k, none⟩ (.int .u8 (x.toNat : Int))) g (L.set k x) := by
  refine ⟨fun j hj => ?_, fun j hj => ?_⟩
  · have hj' : j < L.length := by simpa using hj
    by_cases e : k = j
    · subst e
      rw [World.cell?_setCell_same _ _ _ (h.cells k hk)]
      simp
    · rw [World.cell?_setCell_other _ _ _ _ (by intro e2; apply e; injection e2), h.cells j hj']
      simp [e]
  · rw [World.frozen?_setCell]
    exact h.free j (by simpa using hj)
theorem RowB.below {w w' : World} {g : Nat} {L : List UInt8} (h : RowB w g L) (hb : w'.heap[g]? = w.heap[g]?) : RowB w' g L :=
  ⟨fun j hj => (World.cell?_of_block (a := ⟨g, j, none⟩) hb).trans (h.cells j hj), fun j hj => by
    have := h.free j hj
    simpa [World.frozen?, hb] using this⟩
/-- 'string(c)'. -/
theorem RowB.back {w : World} {g : Nat} {L : List UInt8} (h : RowB w g L) (cap : Nat) :
    (convert 42 9 (.slice (some ⟨g, 0, none⟩) L.length cap)).run Try.prog w = .ok (.string (bs L)) w :=
  run_convert_bytes_back w 42 9 5 ⟨g, 0, none⟩ cap L Try.underlying42 Try.underlying5 Try.underlying9 (fun j hj => by
    have := h.cells j hj
    by_cases e : j = 0
    · subst e
      simpa [Addr.add] using this
    · simpa [Addr.add, e] using this)
/-- '[]byte(s)'. -/
theorem conv_new (Y : World) (L : List UInt8) (hL : L.length ≤ maxLen) : ∃ cap Z, (convert 9 42 (.string (bs L))).run Try.prog Y = .ok (.slice (some ⟨Y.heap.size, 0, none⟩) L.length cap) Z ∧ RowB Z Y.heap.size L ∧ Below Y.heap.size Y Z ∧ L.length ≤ cap ∧ cap ≤ maxLen ∧ Y.heap.size < Z.heap.size := by
  have hcv := run_bytes_of_string (P := Try.prog) Y 9 42 5 (bs L) Try.underlying9 Try.underlying42 Try.underlying5
  have hz := bs_size L
  have hca := grownCap_ge Y (bs L).size 0 5
  have hcb := grownCap_le_maxLen Y (bs L).size 0 5 (by omega)
  rw [hz] at hcv hca hcb
  exact ⟨_, _, hcv, rowB_new Y L _ _ hca, (Below.drew (Below.refl _ _)).alloc (Nat.le_refl _) _, hca, hcb, by simp⟩
/-- The byte that is changed. -/
def flipB (c : UInt8) (q : Int) : UInt8 := c ^^^ UInt8.ofNat q.toNat
theorem flipB_nat (c : UInt8) (q : Int) (hq0 : 0 ≤ q) (hq : q < 256) : ((flipB c q).toNat : Int) = bits .xor .u8 (c.toNat : Int) q := by
  have h := c.toNat_lt
  rw [u8_xor _ _ (by omega) (by omega) hq0 hq]
  unfold flipB
  rw [UInt8.toNat_xor, UInt8.toNat_ofNat', Nat.mod_eq_of_lt (by omega)]
  simp
theorem flipB_same (c : UInt8) (q : Int) (hq0 : 0 ≤ q) (hq : q < 256) : flipB c q = c ↔ q = 0 := by
  constructor
  · intro h
    have h1 := congrArg UInt8.toNat h
    unfold flipB at h1
    rw [UInt8.toNat_xor, UInt8.toNat_ofNat', Nat.mod_eq_of_lt (by omega)] at h1
    have h2 := congrArg (c.toNat ^^^ ·) h1
    simp only [← Nat.xor_assoc, Nat.xor_self, Nat.zero_xor] at h2
    omega
  · intro h
    subst h
    simp [flipB]
/-- What the changed bytes are read as: an error, but where nothing was changed. -/
theorem readE_flip (p : PageD) (hi : isPB p = true) (ht : TxnOk p) (k : Nat) (hk : k < (bytesD p).length) (q : Int) (h0 : 0 ≤ q) (h1 : q < 256) :
    readE ((bytesD p).set k (flipB (bytesD p)[k] q)) = if q = 0 then .nilIface else .iface 44 (.int .i64 12) := by
  unfold readE
  by_cases e : q = 0
  · rw [(flipB_same _ q h0 h1).2 e, List.set_getElem_self, (okR_bytes p hi ht).1]
    simp [e]
  · rw [changed_corrupt p hi k _ hk (fun h => e ((flipB_same _ q h0 h1).1 h))]
    simp [e]
/-- Read of bytes that are given as a row. -/
theorem read_bs (l : List UInt8) (X : World) (h : l.length ≤ maxLen) : Calls Try.prog 11 #[.string (bs l)] X fun e w' => ∃ vi vk vd vv vf, e = .returned (.tuple #[.agg (pageCells (readD l) vi vk vd vv vf).toArray, readE l]) ∧ Below X.heap.size X w' := by
  have := read_any (bs l) X (by rw [bs_size]; exact h)
  rw [bs_list] at this
  refine this.mono ?_
  rintro e w' ⟨vi, vk, vd, vv, vf, h1, _, h3⟩
  exact ⟨vi, vk, vd, vv, vf, h1, h3⟩
end Go.Proofs.Ytkfhkhjoindcbaa
