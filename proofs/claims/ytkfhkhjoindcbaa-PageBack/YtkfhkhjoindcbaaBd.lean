/- What is read, cell by cell; and of bytes that lack one, or have one more. -/
import Derived.Test.YtkfhkhjoindcbaaBc
namespace Go.Proofs.Ytkfhkhjoindcbaa
open Go.RowKit Go.Sort

theorem read_cells (l : List UInt8) (E : Value) (hE : readE l = E) (X : World) (h : l.length ≤ maxLen) : Calls Try.prog 11 #[.string (bs l)] X fun e w' => ∃ (zk : Int) (zi0 : Option Addr) (zi1 zi2 : Nat) (zk0 : Option Addr) (zk1 zk2 : Nat) (zd0 : Option Addr) (zd1 zd2 : Nat) (zt : ByteArray) (zv0 : Option Addr) (zv1 zv2 : Nat) (zf0 : Option Addr) (zf1 zf2 : Nat) (zn zx zg zc zq zr zl : Int), e = .returned (.tuple #[.agg #[.int .i64 zk, .slice zi0 zi1 zi2, .slice zk0 zk1 zk2, .slice zd0 zd1 zd2, .string zt, .slice zv0 zv1 zv2, .slice zf0 zf1 zf2, .int .i64 zn, .int .u64 zx, .int .i64 zg, .int .i64 zc, .int .i64 zq, .int .i64 zr, .int .i64 zl], E]) ∧ Below X.heap.size X w' := by
  have := read_any (bs l) X (by rw [bs_size]; exact h)
  rw [bs_list] at this
  refine this.mono ?_
  rintro e w' ⟨vi, vk, vd, vv, vf, h1, hx, h3⟩
  obtain ⟨si0, si1, si2, rfl⟩ := hx.items.slice
  obtain ⟨sk0, sk1, sk2, rfl⟩ := hx.keys.slice
  obtain ⟨sd0, sd1, sd2, rfl⟩ := hx.kids.slice
  obtain ⟨sv0, sv1, sv2, rfl⟩ := hx.vals.slice
  obtain ⟨sf0, sf1, sf2, rfl⟩ := hx.free.slice
  rw [hE] at h1
  exact ⟨_, si0, si1, si2, sk0, sk1, sk2, sd0, sd1, sd2, _, sv0, sv1, sv2, sf0, sf1, sf2, _, _, _, _, _, _, _, h1, h3⟩
theorem bytes_lt (p : PageD) (ht : TxnOk p) : (bytesD p).length + 1 ≤ maxLen := by
  cases h : isPB p
  · simp [bytesD, h, maxLen]
  · have := partD_le p (partOk_of_is h ht)
    simp only [bytesD, h, ↓reduceIte, List.length_append, lowB_length, bodyD, numB_length]
    unfold maxLen
    omega
theorem take_bs (L : List UInt8) (n : Nat) : (bs L).extract 0 n = bs (L.take n) := by
  apply ByteArray.ext
  simp [bs]
theorem readE_less {L : List UInt8} (h : okR (L.take (L.length - 1)) = false) : readE (L.take (L.length - 1)) = .iface 44 (.int .i64 12) := by unfold readE; rw [h]; rfl
theorem readE_more {L : List UInt8} (h : okR (L ++ [0]) = false) : readE (L ++ [0]) = .iface 44 (.int .i64 12) := by unfold readE; rw [h]; rfl
end Go.Proofs.Ytkfhkhjoindcbaa
