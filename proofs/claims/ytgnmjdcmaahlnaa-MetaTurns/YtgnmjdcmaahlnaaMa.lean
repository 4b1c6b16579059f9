/- Contracts of package page's num and rootBytes, and of listBytes of texts and of numbers. -/
import Derived.Test.YtgnmjdcmaahlnaaLj
import Derived.Test.YtgnmjdcmaahlnaaWf
import Derived.Test.YtgnmjdcmaahlnaaBu
namespace Go.Proofs.Ytgnmjdcmaahlnaa
open Go.RowKit Go.Sort

/-- A text out of its bytes. -/
def bs (l : List UInt8) : ByteArray := ⟨l.toArray⟩
theorem bs_size (l : List UInt8) : (bs l).size = l.length := by simp [bs, ByteArray.size]
theorem bs_append (a b : List UInt8) : bs a ++ bs b = bs (a ++ b) := by
  apply ByteArray.ext
  simp [bs]
theorem bs_list (l : List UInt8) : (bs l).data.toList = l := by simp [bs]
theorem bs_of (s : ByteArray) : bs s.data.toList = s := rfl
def numB (n : Int) : List UInt8 := lowB (IntKind.u64.wrap n) 8
def textB (s : ByteArray) : List UInt8 := lowB s.size 2 ++ s.data.toList
theorem numB_length (n : Int) : (numB n).length = 8 := lowB_length _ _
theorem textB_length (s : ByteArray) : (textB s).length = 2 + s.size := by simp [textB, lowB_length]
theorem wrap_lo (n : Int) : 0 ≤ IntKind.u64.wrap n := by rw [IntKind.wrap_u64]; omega
theorem wrap_hi (n : Int) : IntKind.u64.wrap n < 18446744073709551616 := by rw [IntKind.wrap_u64]; omega

set_option maxHeartbeats 400000 in
theorem pnum_any (n : Int) (w : World) :
    Calls Try.prog 18 #[.int .i64 n] w fun e w' => e = .returned (.string (bs (numB n))) ∧ Below w.heap.size w w' := by
  go_enter Try.func18, Try.ntmps18
  go_wp2_with (go_at_call 20; refine (num_any _ _ (wrap_lo _) (wrap_hi _)).mono ?_; rintro e w' ⟨rfl, hb⟩)
  go_ret
  exact ⟨rfl, hb⟩
theorem ptext_any (s : ByteArray) (w : World) (hs : s.size ≤ 65535) :
    Calls Try.prog 29 #[.string s] w fun e w' => e = .returned (.string (bs (textB s))) ∧ Below w.heap.size w w' := by
  refine (text_short s w hs).mono ?_
  rintro e w' ⟨rfl, hb⟩
  refine ⟨ret_str ?_, hb⟩
  apply ByteArray.ext
  simp [bs, textB, lowS]
theorem pnum_regrown (X : World) (n : Int) : ∀ d os, Calls Try.prog 18 #[.int .i64 n] (grow (redrawn X d) os) fun e w'' => e = .returned (.string (bs (numB n))) ∧ ∃ p : Regrown, w'' = grow (redrawn X p.d) p.os := fun _ _ => Calls.regrown_of (pnum_any n _)

def rootBytesD (r : RootD) : List UInt8 := numB r.page ++ numB r.count ++ numB r.flags
theorem rootBytesD_length (r : RootD) : (rootBytesD r).length = 24 := by simp [rootBytesD, numB_length]

set_option maxHeartbeats 1000000 in
theorem rootBytes_any (r : RootD) (w : World) :
    Calls Try.prog 33 #[.agg #[.int .i64 r.page, .int .i64 r.count, .int .i64 r.flags]] w fun e w' => e = .returned (.string (bs (rootBytesD r))) ∧ Below w.heap.size w w' := by
  obtain ⟨a, b, c⟩ := r
  show Calls Try.prog _ #[.agg #[.int .i64 a, .int .i64 b, .int .i64 c]] w _
  have hb1 : Below w.heap.size w (w.alloc (.cells #[.int .i64 a, .int .i64 b, .int .i64 c] 24)) := (Below.refl _ _).alloc (Nat.le_refl _) _
  have hc0 : (w.alloc (.cells #[.int .i64 a, .int .i64 b, .int .i64 c] 24)).cell? ⟨w.heap.size, 0, none⟩ = some (.int .i64 a) := by simp
  have hc1 : (w.alloc (.cells #[.int .i64 a, .int .i64 b, .int .i64 c] 24)).cell? ⟨w.heap.size, 1, none⟩ = some (.int .i64 b) := by simp
  have hc2 : (w.alloc (.cells #[.int .i64 a, .int .i64 b, .int .i64 c] 24)).cell? ⟨w.heap.size, 2, none⟩ = some (.int .i64 c) := by simp
  have s1 := bs_size (numB a)
  have s2 := bs_size (numB b)
  have s3 := bs_size (numB c)
  rw [numB_length] at s1 s2 s3
  go_enter Try.func33, Try.ntmps33
  go_wp2_with fail
  generalize (w.alloc (.cells #[.int .i64 a, .int .i64 b, .int .i64 c] 24)) = X at *
  have hd0 := cell_regrown hc0
  have hd1 := cell_regrown hc1
  have hd2 := cell_regrown hc2
  have HN := hid (pnum_regrown X)
  clear hc0 hc1 hc2
  refine wp_region_quiet_below (by kernel_rfl) (by kernel_rfl) ?_
  repeat (go_big_quiet_step (exact HN.out _ _ _))
  refine wpQuiet_nil ?_
  intro _ hw'
  obtain ⟨⟨dq, osq⟩, hw''⟩ := hw'
  subst hw''
  clear hd0 hd1 hd2
  go_wp2
  go_ret
  refine ⟨ret_str ?_, hb1.trans ((below_regrown X dq osq).mono hb1.size)⟩
  simp only [bs_append, rootBytesD]
end Go.Proofs.Ytgnmjdcmaahlnaa
