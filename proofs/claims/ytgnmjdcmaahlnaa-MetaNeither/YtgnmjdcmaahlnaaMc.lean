/- Contracts of package page's freeBytes, and of listBytes of free numbers. -/
import Derived.Test.YtgnmjdcmaahlnaaMb
namespace Go.Proofs.Ytgnmjdcmaahlnaa
open Go.RowKit Go.Sort

def freeBytesD (f : FreeD) : List UInt8 := lowB f.txn 8 ++ listB numB f.ids
def FreeOk (f : FreeD) : Prop := 0 ≤ f.txn ∧ f.txn < 18446744073709551616 ∧ f.ids.length ≤ 1000
theorem freeBytesD_le (f : FreeD) (h : FreeOk f) : (freeBytesD f).length ≤ 8016 := by
  have := listB_le numB 8 f.ids (fun x _ => by rw [numB_length]; exact Nat.le_refl _)
  have h2 := h.2.2
  simp only [freeBytesD, List.length_append, lowB_length]
  omega

set_option maxHeartbeats 1000000 in
theorem freeBytes_any (f : FreeD) (v : Value) (w : World) (hv : IntsAt w v f.ids) (hf : FreeOk f) :
    Calls Try.prog 32 #[.agg #[.int .u64 f.txn, v]] w fun e w' => e = .returned (.string (bs (freeBytesD f))) ∧ Below w.heap.size w w' := by
  obtain ⟨t, ids⟩ := f
  obtain ⟨ht0, ht1, hil⟩ := hf
  simp only at ht0 ht1 hil
  have HV : Hid (∀ W, Below w.heap.size w W → IntsAt W v ids) := fun W hW => hv.below hW
  obtain ⟨ao, cap, rfl, -, -⟩ := hv
  simp only at HV
  show Calls Try.prog _ #[.agg #[.int .u64 t, .slice ao ids.length cap]] w _
  have hb1 : Below w.heap.size w (w.alloc (.cells #[.int .u64 t, .slice ao ids.length cap] 87)) := (Below.refl _ _).alloc (Nat.le_refl _) _
  have hc0 : (w.alloc (.cells #[.int .u64 t, .slice ao ids.length cap] 87)).cell? ⟨w.heap.size, 0, none⟩ = some (.int .u64 t) := by simp
  have hc1 : (w.alloc (.cells #[.int .u64 t, .slice ao ids.length cap] 87)).cell? ⟨w.heap.size, 1, none⟩ = some (.slice ao ids.length cap) := by simp
  have s1 : (bs (lowB t 8)).size = 8 := by rw [bs_size, lowB_length]
  have s2 := bs_size (listB numB ids)
  have s3 := listB_le numB 8 ids (fun x _ => by rw [numB_length]; exact Nat.le_refl _)
  go_enter Try.func32, Try.ntmps32
  go_wp2_with fail
  generalize (w.alloc (.cells #[.int .u64 t, .slice ao ids.length cap] 87)) = X at *
  have hd0 := cell_regrown hc0
  have hd1 := cell_regrown hc1
  have HN : Hid (∀ d os, Calls Try.prog 20 #[.int .u64 t] (grow (redrawn X d) os) fun e w'' => e = .returned (.string (bs (lowB t 8))) ∧ ∃ p : Regrown, w'' = grow (redrawn X p.d) p.os) := fun d os => Calls.regrown_of (num_any t _ ht0 ht1)
  have HL : Hid (∀ d os, Calls Try.prog 53 #[.slice ao ids.length cap, .func (.func 18) #[] #[]] (grow (redrawn X d) os) fun e w'' => e = .returned (.string (bs (listB numB ids))) ∧ ∃ p : Regrown, w'' = grow (redrawn X p.d) p.os) := fun d os =>
    Calls.regrown_of (listInts_any ids _ _ (HV.out _ (hb1.trans ((below_regrown X d os).mono hb1.size))) (fun _ _ => trivial) hil)
  clear hc0 hc1
  refine wp_region_quiet_below (by kernel_rfl) (by kernel_rfl) ?_
  repeat (go_big_quiet_step (first | exact HN.out _ _ | exact HL.out _ _))
  refine wpQuiet_nil ?_
  intro _ hw'
  obtain ⟨⟨dq, osq⟩, hw''⟩ := hw'
  subst hw''
  clear hd0 hd1
  go_wp2
  go_ret
  refine ⟨ret_str ?_, hb1.trans ((below_regrown X dq osq).mono hb1.size)⟩
  simp only [bs_append, freeBytesD]

set_option maxHeartbeats 1000000 in
theorem listFrees_any (l : List FreeD) (v : Value) (w : World) (hv : FreesAt w v l) (hs : ∀ x ∈ l, FreeOk x) (hl : l.length ≤ 1000) :
    Calls Try.prog 31 #[v, .func (.func 32) #[] #[]] w fun e w' => e = .returned (.string (bs (listB freeBytesD l))) ∧ Below w.heap.size w w' := by
  obtain ⟨ao, cap, rfl, hlm, hc⟩ := hv
  unfold maxLen at hlm
  have HC := hid hc
  have HS := hid hs
  have HM : Hid (∀ k, k ≤ l.length → (joinB freeBytesD (l.take k)).length ≤ 8016 * k) := by
    intro k hk
    have := joinB_le freeBytesD 8016 (l.take k) (fun x hx => by have := hs x (List.mem_of_mem_take hx); exact freeBytesD_le x this)
    rw [List.length_take, Nat.min_eq_left hk] at this
    omega
  clear hc hs
  have hI0 := isB_fresh w
  have hb0 : Below w.heap.size w (w.alloc (.cells #[.pointer none, .slice none 0 0] 111)) := (Below.refl _ _).alloc (Nat.le_refl _) _
  have HI0 := hid hI0
  clear hI0
  go_enter Try.func31, Try.ntmps31
  go_wp2_with fail
  refine (pnum_any _ _).mono ?_
  rintro e w1 ⟨rfl, hb1⟩
  have HI1 := hid (isB_below HI0.out hb1)
  have hB1 := hb0.trans (hb1.mono hb0.size)
  clear hb1 HI0 hb0
  go_wp2_with fail
  refine (writeString_any w.heap.size w.heap.size [] _ _ HI1.out (by rw [bs_size, numB_length]; simp) hB1.size).mono ?_
  rintro e w2 ⟨rfl, hI2, hb2⟩
  have HI2 : Hid (IsB w.heap.size w.heap.size (numB l.length ++ joinB freeBytesD (l.take 0)) w2) := by
    show IsB _ _ _ _
    rw [bs_list] at hI2
    simpa [joinB] using hI2
  have hB2 := hB1.trans hb2
  clear hB1 hb2 hI2 HI1
  go_wp2
  go_loopw [14] (fun i wr => ∃ k : Nat, k ≤ l.length ∧ i = .int .i64 k ∧ Hid (IsB w.heap.size w.heap.size (numB l.length ++ joinB freeBytesD (l.take k)) wr) ∧ Below w.heap.size w wr) (fun i _ => l.length - (intOf i).toNat)
  case atStart => exact ⟨0, Nat.zero_le _, rfl, HI2, hB2⟩
  case round =>
    obtain ⟨k, hk, rfl, hI, hbel⟩ := hrel
    clear HI2 hB2
    by_cases hlt : k < l.length
    · have HT := hid (joinB_take freeBytesD l k hlt)
      have hMk := HM.out k (by omega)
      have hsk := HS.out l[k] (List.getElem_mem hlt)
      obtain ⟨b, o, x, hao, hbl, hc1, hc2, hx⟩ := HC.out k hlt
      have hia := atFreesM (ao := ao) l.length cap k hao hlt
      have hl1 : wr.cell? ⟨b, o + k * 2, none⟩ = some (.int .u64 l[k].txn) := (hbel.cell (p := ⟨b, o + k * 2, none⟩) hbl).trans hc1
      have hl2 : wr.cell? ⟨b, o + k * 2 + 1, none⟩ = some x := (hbel.cell (p := ⟨b, o + k * 2 + 1, none⟩) hbl).trans hc2
      have HX : Hid (∀ W, Below wr.heap.size wr W → IntsAt W x l[k].ids) := fun W hW => (hx.below hbel).below hW
      obtain ⟨ax, cx, hxe, -, -⟩ := hx
      subst hxe
      have HSK := hid hsk
      clear hc1 hc2 hao hbl hsk
      generalize l[k] = Y at *
      go_wp2_with fail
      refine (freeBytes_any _ _ _ (HX.out _ ((Below.refl _ _).alloc (Nat.le_refl _) _)) HSK.out).mono ?_
      rintro e w3 ⟨rfl, hb3⟩
      have HI3 := hid (isB_below (isB_below hI.out ((Below.refl _ _).alloc (Nat.le_refl _) _)) hb3)
      have hB3 := ((hbel.alloc hbel.size _).trans (hb3.mono (by have := hbel.size; simp; omega)))
      clear hb3
      go_wp2_with fail
      refine (writeString_any w.heap.size w.heap.size _ _ _ HI3.out (by rw [bs_size, List.length_append, numB_length]; have := hMk; have := freeBytesD_le _ HSK.out; omega) hB3.size).mono ?_
      rintro e w4 ⟨rfl, hI4, hb4⟩
      have HI4 : Hid (IsB w.heap.size w.heap.size (numB l.length ++ joinB freeBytesD (l.take (k + 1))) w4) := by
        show IsB _ _ _ _
        rw [HT.out, ← List.append_assoc]
        rw [bs_list] at hI4
        exact hI4
      have hB4 := hB3.trans hb4
      clear hB3 hb4 hI4 HI3
      go_wp2
      go_roundw
      case rel => exact ⟨k + 1, by omega, by go_num, HI4, hB4⟩
      case measure => simp [intOf]; omega
    · go_wp2_with fail
      refine (string_any w.heap.size w.heap.size _ _ hI.out hbel.size).mono ?_
      rintro e w3 ⟨rfl, hb3⟩
      go_wp2
      go_ret
      refine ⟨ret_str ?_, hbel.trans hb3⟩
      rw [List.take_of_length_le (by omega)]
      rfl

end Go.Proofs.Ytgnmjdcmaahlnaa
