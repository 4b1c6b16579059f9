/- Contracts of package page's itemBytes, and of listBytes of items. -/
import Derived.Test.YtgnmjdcmaahlnaaMb
namespace Go.Proofs.Ytgnmjdcmaahlnaa
open Go.RowKit Go.Sort

def itemTail (x : ItemD) : List UInt8 :=
  if x.kind = 1 then textB x.val
  else if x.kind = 2 then numB x.run ++ numB x.len
  else if x.kind = 3 then listB textB x.vals ++ numB x.dup
  else rootBytesD x.root
def itemBytesD (x : ItemD) : List UInt8 := textB x.key ++ numB x.kind ++ itemTail x
def ItemOk (x : ItemD) : Prop := x.key.size ≤ 65535 ∧ x.val.size ≤ 65535 ∧ x.vals.length ≤ 1000 ∧ ∀ y ∈ x.vals, y.size ≤ 65535
theorem listTexts_le (l : List ByteArray) (h1 : l.length ≤ 1000) (h2 : ∀ y ∈ l, y.size ≤ 65535) : (listB textB l).length ≤ 65537008 := by
  have := listB_le textB 65537 l (fun x hx => by rw [textB_length]; have := h2 x hx; omega)
  omega
theorem itemBytesD_le (x : ItemD) (h : ItemOk x) : (itemBytesD x).length ≤ 65700000 := by
  obtain ⟨h1, h2, h3, h4⟩ := h
  have e1 := textB_length x.key
  have e2 := textB_length x.val
  have e3 := listTexts_le x.vals h3 h4
  have e4 := rootBytesD_length x.root
  have : (itemTail x).length ≤ 65600000 := by
    unfold itemTail
    split
    · omega
    split
    · simp [numB_length]
    split
    · simp [numB_length]; omega
    · omega
  simp only [itemBytesD, List.length_append, numB_length]
  omega

set_option maxHeartbeats 2000000 in
theorem itemBytes_any (x : ItemD) (v : Value) (w : World) (hv : StrsAt w v x.vals) (hx : ItemOk x) :
    Calls Try.prog 27 #[.agg (itemCells x v).toArray] w fun e w' => e = .returned (.string (bs (itemBytesD x))) ∧ Below w.heap.size w w' := by
  obtain ⟨k1, d1, l1, r1, n1, s1, p1, ⟨g1, c1, f1⟩⟩ := x
  obtain ⟨hx1, hx2, hx3, hx4⟩ := hx
  simp only at hx1 hx2 hx3 hx4
  have HV : Hid (∀ W, Below w.heap.size w W → StrsAt W v s1) := fun W hW => hv.below hW
  obtain ⟨ao, cap, rfl, -, -⟩ := hv
  simp only at HV
  have hXr := rangeNew w (itemCells ⟨k1, d1, l1, r1, n1, s1, p1, ⟨g1, c1, f1⟩⟩ (.slice ao s1.length cap)) 80
  have hX : ∀ Y, Below (w.heap.size + 1) (w.alloc (.cells #[.string k1, .int .i64 d1, .string l1, .int .i64 r1, .int .i64 n1, .slice ao s1.length cap, .int .i64 p1, .int .i64 g1, .int .i64 c1, .int .i64 f1] 80)) Y → Y.rangeAt w.heap.size 0 (itemCells ⟨k1, d1, l1, r1, n1, s1, p1, ⟨g1, c1, f1⟩⟩ (.slice ao s1.length cap)) := fun Y hY => range_below hXr (hY.mono (by simp)) (by simp)
  have HR := hid hX
  clear hX hXr
  have hb1 : Below w.heap.size w (w.alloc (.cells #[.string k1, .int .i64 d1, .string l1, .int .i64 r1, .int .i64 n1, .slice ao s1.length cap, .int .i64 p1, .int .i64 g1, .int .i64 c1, .int .i64 f1] 80)) := (Below.refl _ _).alloc (Nat.le_refl _) _
  have hsX : (w.alloc (.cells #[.string k1, .int .i64 d1, .string l1, .int .i64 r1, .int .i64 n1, .slice ao s1.length cap, .int .i64 p1, .int .i64 g1, .int .i64 c1, .int .i64 f1] 80)).heap.size = w.heap.size + 1 := by simp
  have z1 := bs_size (textB k1)
  rw [textB_length] at z1
  have z2 := fun n => (bs_size (numB n)).trans (numB_length n)
  show Calls Try.prog _ #[.agg #[.string k1, .int .i64 d1, .string l1, .int .i64 r1, .int .i64 n1, .slice ao s1.length cap, .int .i64 p1, .int .i64 g1, .int .i64 c1, .int .i64 f1]] w _
  go_enter Try.func27, Try.ntmps27
  go_wp2_with fail
  generalize (w.alloc (.cells #[.string k1, .int .i64 d1, .string l1, .int .i64 r1, .int .i64 n1, .slice ao s1.length cap, .int .i64 p1, .int .i64 g1, .int .i64 c1, .int .i64 f1] 80)) = X at *
  have hl2 := fun d os => range10 (HR.out _ ((below_regrown X d os).mono (by omega)))
  simp only [Nat.zero_add] at hl2
  have HN := hid (pnum_regrown X)
  have HTX : Hid (∀ d os, Calls Try.prog 29 #[.string k1] (grow (redrawn X d) os) fun e w'' => e = .returned (.string (bs (textB k1))) ∧ ∃ p : Regrown, w'' = grow (redrawn X p.d) p.os) := fun d os => Calls.regrown_of (ptext_any k1 _ hx1)
  refine wp_region_quiet_below (by kernel_rfl) (by kernel_rfl) ?_
  repeat (go_big_quiet_step (first | exact HTX.out _ _ | exact HN.out _ _ _))
  refine wpQuiet_nil ?_
  intro _ hw'
  obtain ⟨⟨dq, osq⟩, hw''⟩ := hw'
  subst hw''
  have HBY := hid (below_regrown X dq osq)
  have hl3 := hl2 dq osq
  clear hl2 HTX HN
  generalize hY : grow (redrawn X dq) osq = Y at *
  have hbY : Below w.heap.size w Y := hb1.trans (HBY.out.mono hb1.size)
  have hsY : w.heap.size < Y.heap.size := by have := HBY.out.size; omega
  rw [bs_append]
  have z3 := bs_size (textB k1 ++ numB d1)
  rw [List.length_append, textB_length, numB_length] at z3
  generalize hHD : textB k1 ++ numB d1 = HD at *
  have hl4 := fun d os => range10 (range_below (HR.out Y (HBY.out.mono (by omega))) (below_regrown Y d os) hsY)
  simp only [Nat.zero_add] at hl4
  have HN := hid (pnum_regrown Y)
  have HLT : Hid (∀ d os, Calls Try.prog 30 #[.slice ao s1.length cap, .func (.func 29) #[] #[]] (grow (redrawn Y d) os) fun e w'' => e = .returned (.string (bs (listB textB s1))) ∧ ∃ p : Regrown, w'' = grow (redrawn Y p.d) p.os) := fun d os =>
    Calls.regrown_of (listTexts_any s1 _ _ (HV.out _ (hbY.trans ((below_regrown Y d os).mono hbY.size))) hx4 hx3)
  have z4 := bs_size (listB textB s1)
  have z5 := listTexts_le s1 hx3 hx4
  have z6 : (bs (textB l1)).size = 2 + l1.size := by rw [bs_size, textB_length]
  have z7 : (bs (rootBytesD ⟨g1, c1, f1⟩)).size = 24 := by rw [bs_size, rootBytesD_length]
  have HX2 := hid hx2
  by_cases h1 : d1 = 1
  · subst h1
    clear hl4
    go_wp2_with (go_at_call 29; refine (ptext_any _ _ HX2.out).mono ?_; rintro e w2 ⟨rfl, hb2⟩)
    go_ret
    refine ⟨ret_str ?_, hbY.trans (hb2.mono hbY.size)⟩
    simp [bs_append, itemBytesD, itemTail, ← hHD]
  by_cases h2 : d1 = 2
  · subst h2
    go_wp2_with fail
    clear hl3
    refine wp_region_quiet_below (by kernel_rfl) (by kernel_rfl) ?_
    repeat (go_big_quiet_step (exact HN.out _ _ _))
    refine wpQuiet_nil ?_
    intro _ hw'
    obtain ⟨⟨dq2, osq2⟩, hw''⟩ := hw'
    subst hw''
    clear hl4
    go_wp2
    go_ret
    refine ⟨ret_str ?_, hbY.trans ((below_regrown Y dq2 osq2).mono hbY.size)⟩
    simp [bs_append, itemBytesD, itemTail, ← hHD]
  by_cases h3 : d1 = 3
  · subst h3
    go_wp2_with fail
    clear hl3
    refine wp_region_quiet_below (by kernel_rfl) (by kernel_rfl) ?_
    repeat (go_big_quiet_step (first | exact HN.out _ _ _ | exact HLT.out _ _))
    refine wpQuiet_nil ?_
    intro _ hw'
    obtain ⟨⟨dq2, osq2⟩, hw''⟩ := hw'
    subst hw''
    clear hl4
    go_wp2
    go_ret
    refine ⟨ret_str ?_, hbY.trans ((below_regrown Y dq2 osq2).mono hbY.size)⟩
    simp [bs_append, itemBytesD, itemTail, ← hHD]
  · have e1 : (d1 == 1) = false := by simpa using h1
    have e2 : (d1 == 2) = false := by simpa using h2
    have e3 : (d1 == 3) = false := by simpa using h3
    clear hl4
    go_wp2_with (go_at_call 33; refine (rootBytes_any ⟨g1, c1, f1⟩ _).mono ?_; rintro e w2 ⟨rfl, hb2⟩)
    go_ret
    refine ⟨ret_str ?_, hbY.trans (hb2.mono hbY.size)⟩
    simp [bs_append, itemBytesD, itemTail, ← hHD, h1, h2, h3]

set_option maxHeartbeats 1000000 in
theorem listItems_any (l : List ItemD) (v : Value) (w : World) (hv : ItemsAt w v l) (hs : ∀ x ∈ l, ItemOk x) (hl : l.length ≤ 1000) :
    Calls Try.prog 26 #[v, .func (.func 27) #[] #[]] w fun e w' => e = .returned (.string (bs (listB itemBytesD l))) ∧ Below w.heap.size w w' := by
  obtain ⟨ao, cap, rfl, hlm, hc⟩ := hv
  unfold maxLen at hlm
  have HC := hid hc
  have HS := hid hs
  have HM : Hid (∀ k, k ≤ l.length → (joinB itemBytesD (l.take k)).length ≤ 65700000 * k) := by
    intro k hk
    have := joinB_le itemBytesD 65700000 (l.take k) (fun x hx => by have := hs x (List.mem_of_mem_take hx); exact itemBytesD_le x this)
    rw [List.length_take, Nat.min_eq_left hk] at this
    omega
  clear hc hs
  have hI0 := isB_fresh w
  have hb0 : Below w.heap.size w (w.alloc (.cells #[.pointer none, .slice none 0 0] 111)) := (Below.refl _ _).alloc (Nat.le_refl _) _
  have HI0 := hid hI0
  clear hI0
  go_enter Try.func26, Try.ntmps26
  go_wp2_with fail
  refine (pnum_any _ _).mono ?_
  rintro e w1 ⟨rfl, hb1⟩
  have HI1 := hid (isB_below HI0.out hb1)
  have hB1 := hb0.trans (hb1.mono hb0.size)
  clear hb1 HI0 hb0
  go_wp2_with fail
  refine (writeString_any w.heap.size w.heap.size [] _ _ HI1.out (by rw [bs_size, numB_length]; simp) hB1.size).mono ?_
  rintro e w2 ⟨rfl, hI2, hb2⟩
  have HI2 : Hid (IsB w.heap.size w.heap.size (numB l.length ++ joinB itemBytesD (l.take 0)) w2) := by
    show IsB _ _ _ _
    rw [bs_list] at hI2
    simpa [joinB] using hI2
  have hB2 := hB1.trans hb2
  clear hB1 hb2 hI2 HI1
  go_wp2
  go_loopw [14] (fun i wr => ∃ k : Nat, k ≤ l.length ∧ i = .int .i64 k ∧ Hid (IsB w.heap.size w.heap.size (numB l.length ++ joinB itemBytesD (l.take k)) wr) ∧ Below w.heap.size w wr) (fun i _ => l.length - (intOf i).toNat)
  case atStart => exact ⟨0, Nat.zero_le _, rfl, HI2, hB2⟩
  case round =>
    obtain ⟨k, hk, rfl, hI, hbel⟩ := hrel
    clear HI2 hB2
    by_cases hlt : k < l.length
    · have HT := hid (joinB_take itemBytesD l k hlt)
      have hMk := HM.out k (by omega)
      have hsk := HS.out l[k] (List.getElem_mem hlt)
      obtain ⟨b, o, x, hao, hbl, hr, hx, _, _⟩ := HC.out k hlt
      have hia := atItems (ao := ao) l.length cap k hao hlt
      have hl1 := range10 (range_below hr hbel hbl)
      have HX : Hid (∀ W, Below wr.heap.size wr W → StrsAt W x l[k].vals) := fun W hW => (hx.below hbel).below hW
      obtain ⟨ax, cx, hxe, -, -⟩ := hx
      subst hxe
      have HSK := hid hsk
      clear hr hao hbl hsk
      generalize l[k] = Y at *
      go_wp2_with fail
      refine (itemBytes_any _ _ _ (HX.out _ ((Below.refl _ _).alloc (Nat.le_refl _) _)) HSK.out).mono ?_
      rintro e w3 ⟨rfl, hb3⟩
      have HI3 := hid (isB_below (isB_below hI.out ((Below.refl _ _).alloc (Nat.le_refl _) _)) hb3)
      have hB3 := ((hbel.alloc hbel.size _).trans (hb3.mono (by have := hbel.size; simp; omega)))
      clear hb3
      go_wp2_with fail
      refine (writeString_any w.heap.size w.heap.size _ _ _ HI3.out (by rw [bs_size, List.length_append, numB_length]; have := hMk; have := itemBytesD_le _ HSK.out; omega) hB3.size).mono ?_
      rintro e w4 ⟨rfl, hI4, hb4⟩
      have HI4 : Hid (IsB w.heap.size w.heap.size (numB l.length ++ joinB itemBytesD (l.take (k + 1))) w4) := by
        show IsB _ _ _ _
        rw [HT.out, ← List.append_assoc]
        rw [bs_list] at hI4
        exact hI4
      have hB4 := hB3.trans hb4
      clear hB3 hb4 hI4 HI3
      go_wp2
      go_roundw
      case rel => exact ⟨k + 1, by omega, by go_num, HI4, hB4⟩
      case measure => simp [intOf]; omega
    · go_wp2_with fail
      refine (string_any w.heap.size w.heap.size _ _ hI.out hbel.size).mono ?_
      rintro e w3 ⟨rfl, hb3⟩
      go_wp2
      go_ret
      refine ⟨ret_str ?_, hbel.trans hb3⟩
      rw [List.take_of_length_le (by omega)]
      rfl

end Go.Proofs.Ytgnmjdcmaahlnaa
