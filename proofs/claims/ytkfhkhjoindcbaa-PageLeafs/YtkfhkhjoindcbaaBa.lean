/- PageBack's walk: of a first page that is none. -/
import Derived.Test.YtkfhkhjoindcbaaOd
import Derived.Test.YtkfhkhjoindcbaaKc
namespace Go.Proofs.Ytkfhkhjoindcbaa
open Go.RowKit Go.Sort

/-- Two pages in blocks B and B + 1; what hangs on them. -/
structure Two (w : World) (X : World) (a b : PageD) (ca cb : Array Value) (vi vk vd vv vf ui uk ud uv uf : Value) : Prop where
  pa : X.heap[w.heap.size]? = some (.cells ca 32 (0, 0))
  pb : X.heap[w.heap.size + 1]? = some (.cells cb 32 (0, 0))
  ha : Hangs X a vi vk vd vv vf
  hb : Hangs X b ui uk ud uv uf
  below : Below w.heap.size w X
  size : w.heap.size + 2 ≤ X.heap.size
theorem Two.next {w X Y : World} {a b : PageD} {ca cb : Array Value} {vi vk vd vv vf ui uk ud uv uf : Value} (h : Two w X a b ca cb vi vk vd vv vf ui uk ud uv uf) (hb : Below X.heap.size X Y) : Two w Y a b ca cb vi vk vd vv vf ui uk ud uv uf := by
  have hs := h.size
  exact ⟨(hb.block _ (by omega)).trans h.pa, (hb.block _ (by omega)).trans h.pb, h.ha.below hb, h.hb.below hb, h.below.trans (hb.mono h.below.size), Nat.le_trans hs hb.size⟩
theorem two_start (w : World) (a b : PageD) (ca cb : Array Value) (vi vk vd vv vf ui uk ud uv uf : Value) (ha : Hangs w a vi vk vd vv vf) (hb : Hangs w b ui uk ud uv uf) :
    Two w ((w.alloc (.cells ca 32)).alloc (.cells cb 32)) a b ca cb vi vk vd vv vf ui uk ud uv uf := by
  have e1 : (w.alloc (.cells ca 32)).heap.size = w.heap.size + 1 := by simp
  have hbl : Below w.heap.size w ((w.alloc (.cells ca 32)).alloc (.cells cb 32)) := ((Below.refl _ _).alloc (Nat.le_refl _) _).alloc (by simp) _
  have p2 := heap_newL (w.alloc (.cells ca 32)) (.cells cb 32)
  rw [e1] at p2
  exact ⟨(Below.heap_alloc _ _ _ (by simp)).trans (heap_newL w _), p2, ha.below hbl, hb.below hbl, hbl, by simp⟩

set_option maxHeartbeats 4000000 in
set_option maxRecDepth 100000 in
theorem back_none (a b : PageD) (vi vk vd vv vf ui uk ud uv uf : Value) (at' by' : Int) (w : World) (ha : Hangs w a vi vk vd vv vf) (hb : Hangs w b ui uk ud uv uf) (ta : TxnOk a) (hi : isPB a = false) :
    Calls Try.prog 3 #[.agg (pageCells a vi vk vd vv vf).toArray, .agg (pageCells b ui uk ud uv uf).toArray, .int .u16 at', .int .u8 by'] w fun e w' => e = .returned (.bool true) ∧ Below w.heap.size w w' := by
  have hT0 := two_start w a b (pageCells a vi vk vd vv vf).toArray (pageCells b ui uk ud uv uf).toArray vi vk vd vv vf ui uk ud uv uf ha hb
  have HBY := hid (fun X (h : Hangs X a vi vk vd vv vf) => bytes_any a vi vk vd vv vf X h ta)
  have HIS := hid (fun X (h : Hangs X a vi vk vd vv vf) => is_any a vi vk vd vv vf X h)
  have hbn : bytesD a = [] := by simp [bytesD, hi]
  rw [hi] at HIS
  rw [hbn] at HBY
  clear ha hb ta hi hbn
  obtain ⟨ak, ai, ay, ad, at1, av, af, an, ⟨ax, ⟨ag, ac, aq⟩, ar, al⟩⟩ := a
  obtain ⟨bk, bi, by1, bd, bt, bv, bf, bn, ⟨bx, ⟨bg, bc, bq⟩, br, bl⟩⟩ := b
  unfold pageCells at *
  simp only at hT0 HBY HIS
  have HT0 := hid hT0
  clear hT0
  go_enter Try.func3, Try.ntmps3
  go_wp2_with fail
  refine (known_any _).mono ?_
  rintro e w1 ⟨rfl, hb1⟩
  have HT1 := hid (HT0.out.next hb1)
  have c1 := cell_rowL HT1.out.pa
  clear hb1 HT0
  go_wp2_with fail
  clear c1
  refine (HBY.out _ HT1.out.ha).mono ?_
  rintro e w2 ⟨rfl, hb2⟩
  have HT2 := hid (HT1.out.next hb2)
  have c2 := cell_rowL HT2.out.pa
  clear hb2 HT1
  go_wp2_with fail
  clear c2
  refine (HIS.out _ HT2.out.ha).mono ?_
  rintro e w3 ⟨rfl, hb3⟩
  have HB3 := hid (HT2.out.next hb3).below
  clear hb3 HT2
  go_wp2
  go_ret
  exact ⟨ret_true (by rw [ByteArray.toList_eq, bs_list]; rfl), HB3.out⟩
end Go.Proofs.Ytkfhkhjoindcbaa
