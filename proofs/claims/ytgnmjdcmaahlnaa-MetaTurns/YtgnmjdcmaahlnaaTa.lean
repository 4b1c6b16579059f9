/- Contracts of package meta's Place, Fresh, Bytes, read. -/
import Derived.Test.YtgnmjdcmaahlnaaOd
import Derived.Test.YtgnmjdcmaahlnaaCh
import Derived.RegionTactic
import Derived.ChangeAlike
namespace Go.Proofs.Ytgnmjdcmaahlnaa
open Go.RowKit Go.Sort

/-- A meta as one value. -/
def metaA (m : MetaD) : Value := .agg #[.int .u64 m.txn, .int .i64 m.main.page, .int .i64 m.main.count, .int .i64 m.main.flags, .int .i64 m.free, .int .i64 m.last]
def noMeta : MetaD := ⟨0, ⟨0, 0, 0⟩, 0, 0⟩
def freshM (i : Int) : MetaD := ⟨min (max i 0) 1, ⟨0, 0, 0⟩, 0, 2⟩
def ofM (m : MetaD) : PageD := { noPage with kind := 6, mt := m }
def metaB (m : MetaD) : List UInt8 := bytesD (ofM m)
def MOk (m : MetaD) : Prop := 0 ≤ m.txn ∧ m.txn < 18446744073709551616
theorem ofM_txn {m : MetaD} (h : MOk m) : TxnOk (ofM m) := ⟨h, by simp [ofM, noPage]⟩

set_option maxHeartbeats 400000 in
theorem place_any (n : Int) (w : World) (h0 : 0 ≤ n) (h1 : n < 18446744073709551616) :
    Calls Try.prog 11 #[.int .u64 n] w fun e w' => e = .returned (.int .i64 (n % 2)) ∧ w' = w := by
  go_enter Try.func11, Try.ntmps11
  go_wp2
  go_ret
  refine ⟨ret_int ?_, rfl⟩
  go_num
set_option maxHeartbeats 400000 in
theorem fresh_any (i : Int) (w : World) :
    Calls Try.prog 10 #[.int .i64 i] w fun e w' => e = .returned (metaA (freshM i)) ∧ Below w.heap.size w w' := by
  go_enter Try.func10, Try.ntmps10
  go_wp2
  exact bodyPost_ret (v := metaA (freshM i)) (by simp [results, Try.results10, go_sem, metaA, freshM]) rfl ⟨rfl, (Below.refl _ _).alloc (Nat.le_refl _) _⟩
set_option maxHeartbeats 1000000 in
theorem metaBytes_any (m : MetaD) (w : World) (h : MOk m) :
    Calls Try.prog 7 #[metaA m] w fun e w' => e = .returned (.string (bs (metaB m))) ∧ Below w.heap.size w w' := by
  have HB : Hid (∀ W, Calls Try.prog 12 #[.agg #[.int .i64 6, .slice none 0 0, .slice none 0 0, .slice none 0 0, .string ⟨#[]⟩, .slice none 0 0, .slice none 0 0, .int .i64 0, .int .u64 m.txn, .int .i64 m.main.page, .int .i64 m.main.count, .int .i64 m.main.flags, .int .i64 m.free, .int .i64 m.last]] W fun e w' => e = .returned (.string (bs (metaB m))) ∧ Below W.heap.size W w') :=
    fun W => bytes_any (ofM m) (.slice none 0 0) (.slice none 0 0) (.slice none 0 0) (.slice none 0 0) (.slice none 0 0) W ⟨items_nil _, strs_nil _, ints_nil _, text_nil_le, strs_nil _, frees_nil _⟩ (ofM_txn h)
  clear h
  generalize bs (metaB m) = B at *
  unfold metaA
  generalize m.txn = m1 at *
  generalize m.main.page = m2 at *
  generalize m.main.count = m3 at *
  generalize m.main.flags = m4 at *
  generalize m.free = m5 at *
  generalize m.last = m6 at *
  go_enter Try.func7, Try.ntmps7
  go_wp2_with (go_at_call 12; refine (HB.out _).mono ?_; rintro e w' ⟨rfl, hb⟩)
  go_ret
  exact ⟨rfl, ((Below.refl _ _).alloc (Nat.le_refl _) _).trans (hb.mono (by simp))⟩
theorem below_drew {B : Nat} {a w : World} (h : Below B a w) : Below B a w.drew := ⟨h.os, h.tape, h.output, h.size, h.block⟩
/-- Whether these bytes are a meta's. -/
def okMt (l : List UInt8) : Bool := okR l && decide ((readD l).kind = 6)
set_option maxHeartbeats 4000000 in
theorem mread_of (s : ByteArray) (w : World) (p : PageD) (E : Value) (t : Bool) (hE : (t = true ∧ E = .nilIface) ∨ (t = false ∧ E = .iface 34 (.int .i64 12)))
    (HR0 : ∀ W, Calls Try.prog 22 #[.string s] W fun e w' => ∃ vi vk vd vv vf, e = .returned (.tuple #[.agg (pageCells p vi vk vd vv vf).toArray, E]) ∧ Hangs w' p vi vk vd vv vf ∧ Below W.heap.size W w') :
    Calls Try.prog 13 #[.string s] w fun e w' => e = .returned (.tuple #[metaA p.mt, .bool (t && decide (p.kind = 6))]) ∧ Below w.heap.size w w' := by
  have HR := hid HR0
  clear HR0
  have hR := heap_newL w (.cells #[.int .u64 0, .int .i64 0, .int .i64 0, .int .i64 0, .int .i64 0, .int .i64 0] 26)
  have HB0 := hid ((Below.refl w.heap.size w).alloc (Nat.le_refl _) (.cells #[.int .u64 0, .int .i64 0, .int .i64 0, .int .i64 0, .int .i64 0, .int .i64 0] 26))
  rcases hE with ⟨rfl, rfl⟩ | ⟨rfl, rfl⟩
  · go_enter Try.func13, Try.ntmps13
    go_wp2_with fail
    refine (HR.out _).mono ?_
    rintro e w1 ⟨vi, vk, vd, vv, vf, rfl, hang, hb⟩
    have hR1 := (hb.block _ (by simp)).trans hR
    have HB1 := hid (HB0.out.trans (hb.mono (by simp)))
    have hz : w.heap.size < w1.heap.size := by have := hb.size; simp at this; omega
    obtain ⟨ai, mi, ci, rfl⟩ := hang.items.slice
    obtain ⟨ak, mk, ck, rfl⟩ := hang.keys.slice
    obtain ⟨ad, md, cd, rfl⟩ := hang.kids.slice
    obtain ⟨av, mv, cv, rfl⟩ := hang.vals.slice
    obtain ⟨af, mf, cf, rfl⟩ := hang.free.slice
    clear hang hb HR hR HB0
    obtain ⟨k1, i1, y1, d1, t1, v1, f1, n1, ⟨x1, ⟨g1, c1, q1⟩, r1, l1⟩⟩ := p
    unfold pageCells
    have hP := heap_newL w1 (.cells #[.int .i64 k1, .slice ai mi ci, .slice ak mk ck, .slice ad md cd, .string t1, .slice av mv cv, .slice af mf cf, .int .i64 n1, .int .u64 x1, .int .i64 g1, .int .i64 c1, .int .i64 q1, .int .i64 r1, .int .i64 l1] 49)
    have hR2 := (Below.heap_alloc w1 (.cells #[.int .i64 k1, .slice ai mi ci, .slice ak mk ck, .slice ad md cd, .string t1, .slice av mv cv, .slice af mf cf, .int .i64 n1, .int .u64 x1, .int .i64 g1, .int .i64 c1, .int .i64 q1, .int .i64 r1, .int .i64 l1] 49) _ hz).trans hR1
    have cP := cell_rowL hP
    have cR := cell_rowL hR2
    have fR := frozen_rowL hR2
    go_wp2
    have HX := hid (HB1.out.trans (((Below.refl w1.heap.size w1).alloc (Nat.le_refl _) (.cells #[.int .i64 k1, .slice ai mi ci, .slice ak mk ck, .slice ad md cd, .string t1, .slice av mv cv, .slice af mf cf, .int .i64 n1, .int .u64 x1, .int .i64 g1, .int .i64 c1, .int .i64 q1, .int .i64 r1, .int .i64 l1] 49)).mono (Nat.le_of_lt hz)))
    clear hP hR1 hR2 HB1
    generalize w1.alloc (.cells #[.int .i64 k1, .slice ai mi ci, .slice ak mk ck, .slice ad md cd, .string t1, .slice av mv cv, .slice af mf cf, .int .i64 n1, .int .u64 x1, .int .i64 g1, .int .i64 c1, .int .i64 q1, .int .i64 r1, .int .i64 l1] 49) = X at *
    generalize w1.heap.size = P at *
    go_region
    go_wp2
    refine bodyPost_ret (v := .tuple #[metaA ⟨x1, ⟨g1, c1, q1⟩, r1, l1⟩, .bool (decide (k1 = 6))]) (by simp [results, Try.results13, go_sem, cR, metaA]; rfl) rfl ⟨rfl, below_drew ?_⟩
    repeat (refine Below.setCell ?_ (by simp) _)
    exact HX.out
  · go_enter Try.func13, Try.ntmps13
    go_wp2_with fail
    refine (HR.out _).mono ?_
    rintro e w1 ⟨vi, vk, vd, vv, vf, rfl, hang, hb⟩
    have hR1 := (hb.block _ (by simp)).trans hR
    have HB1 := hid (HB0.out.trans (hb.mono (by simp)))
    have hz : w.heap.size < w1.heap.size := by have := hb.size; simp at this; omega
    obtain ⟨ai, mi, ci, rfl⟩ := hang.items.slice
    obtain ⟨ak, mk, ck, rfl⟩ := hang.keys.slice
    obtain ⟨ad, md, cd, rfl⟩ := hang.kids.slice
    obtain ⟨av, mv, cv, rfl⟩ := hang.vals.slice
    obtain ⟨af, mf, cf, rfl⟩ := hang.free.slice
    clear hang hb HR hR HB0
    obtain ⟨k1, i1, y1, d1, t1, v1, f1, n1, ⟨x1, ⟨g1, c1, q1⟩, r1, l1⟩⟩ := p
    unfold pageCells
    have hP := heap_newL w1 (.cells #[.int .i64 k1, .slice ai mi ci, .slice ak mk ck, .slice ad md cd, .string t1, .slice av mv cv, .slice af mf cf, .int .i64 n1, .int .u64 x1, .int .i64 g1, .int .i64 c1, .int .i64 q1, .int .i64 r1, .int .i64 l1] 49)
    have hR2 := (Below.heap_alloc w1 (.cells #[.int .i64 k1, .slice ai mi ci, .slice ak mk ck, .slice ad md cd, .string t1, .slice av mv cv, .slice af mf cf, .int .i64 n1, .int .u64 x1, .int .i64 g1, .int .i64 c1, .int .i64 q1, .int .i64 r1, .int .i64 l1] 49) _ hz).trans hR1
    have cP := cell_rowL hP
    have cR := cell_rowL hR2
    have fR := frozen_rowL hR2
    go_wp2
    have HX := hid (HB1.out.trans (((Below.refl w1.heap.size w1).alloc (Nat.le_refl _) (.cells #[.int .i64 k1, .slice ai mi ci, .slice ak mk ck, .slice ad md cd, .string t1, .slice av mv cv, .slice af mf cf, .int .i64 n1, .int .u64 x1, .int .i64 g1, .int .i64 c1, .int .i64 q1, .int .i64 r1, .int .i64 l1] 49)).mono (Nat.le_of_lt hz)))
    clear hP hR1 hR2 HB1
    generalize w1.alloc (.cells #[.int .i64 k1, .slice ai mi ci, .slice ak mk ck, .slice ad md cd, .string t1, .slice av mv cv, .slice af mf cf, .int .i64 n1, .int .u64 x1, .int .i64 g1, .int .i64 c1, .int .i64 q1, .int .i64 r1, .int .i64 l1] 49) = X at *
    generalize w1.heap.size = P at *
    go_region
    go_wp2
    refine bodyPost_ret (v := .tuple #[metaA ⟨x1, ⟨g1, c1, q1⟩, r1, l1⟩, .bool (false)]) (by simp [results, Try.results13, go_sem, cR, metaA]) rfl ⟨rfl, below_drew ?_⟩
    repeat (refine Below.setCell ?_ (by simp) _)
    exact HX.out
theorem mread_any (s : ByteArray) (w : World) (hs : s.size ≤ maxLen) :
    Calls Try.prog 13 #[.string s] w fun e w' => e = .returned (.tuple #[metaA (readD s.data.toList).mt, .bool (okMt s.data.toList)]) ∧ Below w.heap.size w w' := by
  refine mread_of s w (readD s.data.toList) (readE s.data.toList) (okR s.data.toList) ?_ (fun W => read_any s W hs)
  unfold readE
  cases okR s.data.toList
  · exact .inr ⟨rfl, rfl⟩
  · exact .inl ⟨rfl, rfl⟩
end Go.Proofs.Ytgnmjdcmaahlnaa
