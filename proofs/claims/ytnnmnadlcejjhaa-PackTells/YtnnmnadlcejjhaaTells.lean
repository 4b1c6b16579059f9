/- Contract of PackTells: it returns true and leaves what was there. -/
import Derived.Test.YtnnmnadlcejjhaaRc
import Derived.Test.YtnnmnadlcejjhaaShort
namespace Go.Proofs.Ytnnmnadlcejjhaa
open Go.RowKit
theorem hid {p : Prop} (h : p) : Hid p := h

set_option maxHeartbeats 400000 in
theorem tells_long (n : Int) (s b : ByteArray) (ao : Option Addr) (len cap : Nat) (w : World) (hs : s.size ≤ maxLen) (hb : b.size ≤ maxLen) (hl : len ≤ maxLen) (h : 70000 < s.size ∨ 500 < b.size ∨ 60 < len) :
    Calls Try.prog 3 #[.int .u64 n, .string s, .string b, .slice ao len cap] w fun e w' => e = .returned (.bool true) ∧ Below w.heap.size w w' := by
  unfold maxLen at hs hb hl
  by_cases h1 : 70000 < s.size
  all_goals by_cases h2 : 500 < b.size
  all_goals by_cases h3 : 60 < len
  all_goals try omega
  all_goals
    clear h
    go_enter Try.func3, Try.ntmps3
    go_wp2_with fail
    refine (known_any _).mono ?_
    rintro e w1 ⟨rfl, hb1⟩
    go_wp2
    go_ret
    exact ⟨rfl, hb1⟩

/-- Text and the reference's Text give the same string. -/
theorem text_both (s : ByteArray) (hs : s.size ≤ maxLen) : ∃ t : ByteArray,
    (∀ w, Calls Try.prog 10 #[.string s] w fun e w' => e = .returned (.string t) ∧ Below w.heap.size w w') ∧
    (∀ w, Calls Try.prog 11 #[.string s] w fun e w' => e = .returned (.string t) ∧ Below w.heap.size w w') := by
  by_cases h : s.size ≤ 65535
  · exact ⟨_, fun w => text_short s w h, fun w => refTextS_short s w h⟩
  · exact ⟨_, fun w => text_long s w (by omega) hs, fun w => refTextS_long s w (by omega) hs⟩

theorem RefAt.kept {w w' : World} {b r : Nat} {l : List UInt8} {sh : Bool} (h : RefAt w b l sh) (hg : w.grownBy w' (some r)) (hne : b ≠ r) : RefAt w' b l sh := by
  unfold RefAt at *
  rw [hg.block b (lt_of_heap h) (by simpa using hne)]
  exact h
theorem CutAt.grown {w w' : World} {b rb r : Nat} {l : List UInt8} {sh : Bool} (h : CutAt w b rb l sh) (hg : w.grownBy w' (some r)) (h1 : b ≠ r) (h2 : rb ≠ r) : CutAt w' b rb l sh :=
  h.kept (hg.block b h.lt (by simpa using h1)) (hg.block rb h.2.1 (by simpa using h2)) hg.size
theorem errV_nil (sh : Bool) (w : World) : (binOp .eql 37 (errV sh) .nilIface).run Try.prog w = .ok (.bool (!sh)) w := by
  cases sh
  · exact Try.eqNilNil w
  · exact Try.eqNil w
theorem CutAt.draws {w : World} {b rb : Nat} {l : List UInt8} {sh : Bool} (h : CutAt w b rb l sh) (n : Nat) : CutAt (w.drewN n) b rb l sh :=
  h.below (below_draws w n) h.lt h.2.1

theorem textL_len (l : List UInt8) (sh : Bool) : (textL l sh).length ≤ l.length := by
  unfold textL
  split
  · simp
  · exact Nat.le_refl _
theorem numL_len (l : List UInt8) (sh : Bool) : (numL l sh).length ≤ l.length := by
  unfold numL
  split
  · simp
  · exact Nat.le_refl _

set_option maxHeartbeats 1000000 in
theorem tells_main (n : Int) (s b : ByteArray) (a : Addr) (len cap : Nat) (st : Nat → Bool) (w : World) (hn0 : 0 ≤ n) (hn : n < 18446744073709551616) (hs : s.size ≤ 70000) (hb : b.size ≤ 500) (hl : len ≤ 60)
    (hst : ∀ i, i < len → w.cell? (a.add i) = some (.bool (st i))) (ha : a.block < w.heap.size) :
    Calls Try.prog 3 #[.int .u64 n, .string s, .string b, .slice (some a) len cap] w fun e w' => e = .returned (.bool true) ∧ Below w.heap.size w w' := by
  obtain ⟨t, ht1, ht2⟩ := text_both s (by unfold maxLen; omega)
  have HT1 := hid (ht1)
  have HT2 := hid (ht2)
  have HST := hid (hst)
  clear ht1 ht2 hst
  go_enter Try.func3, Try.ntmps3
  go_wp2_with fail
  refine (known_any _).mono ?_
  rintro e w1 ⟨rfl, hb1⟩
  go_wp2_with fail
  refine (num_any n _ hn0 hn).mono ?_
  rintro e w2 ⟨rfl, hb2⟩
  replace hb2 := hb1.trans (hb2.mono hb1.size)
  go_wp2_with fail
  refine (refNumS_any n _ hn0 hn).mono ?_
  rintro e w3 ⟨rfl, hb3⟩
  replace hb3 := hb2.trans (hb3.mono hb2.size)
  go_wp2_with fail
  refine (HT1.out _).mono ?_
  rintro e w4 ⟨rfl, hb4⟩
  replace hb4 := hb3.trans (hb4.mono hb3.size)
  go_wp2_with fail
  refine (HT2.out _).mono ?_
  rintro e w5 ⟨rfl, hb5⟩
  replace hb5 := hb4.trans (hb5.mono hb4.size)
  go_wp2_with fail
  refine (sum_any b _ (by unfold maxLen; omega)).mono ?_
  rintro e w6 ⟨rfl, rfl⟩
  go_wp2_with fail
  refine (refSum_any b _ (by unfold maxLen; omega)).mono ?_
  rintro e w7 ⟨rfl, rfl⟩
  go_wp2_with fail
  refine (new_any b _ (by unfold maxLen; omega)).mono ?_
  rintro e w8 ⟨rfl, hcut, hsz, hb8⟩
  have hb9 : Below w.heap.size w w8 := hb5.trans (hb8.mono hb5.size)
  have hge1 : w.heap.size ≤ w7.heap.size := hb5.size
  have hge2 : w.heap.size ≤ w7.heap.size + 1 := by omega
  have hbl := b.size
  have hlen : b.data.toList.length ≤ 500 := by simpa using hb
  have HB : Hid (b = ⟨b.data.toList.toArray⟩) := by show _ = _; cases b; simp
  generalize b.data.toList = l0 at *
  generalize w7.heap.size + 1 = cb at *
  generalize w7.heap.size = rb at *
  have hlt := hcut.lt
  have hlt2 := hcut.2.1
  have hne0 := hcut.1
  have HC0 := hid (hcut.alloc (.cells #[.string b, .bool false] 32))
  have HR0 : Hid (RefAt (w8.alloc (.cells #[.string b, .bool false] 32)) w8.heap.size l0 false) := by
    show RefAt _ _ _ _
    unfold RefAt
    rw [← HB.out]
    exact heap_alloc_new w8 _
  have hbA : Below w.heap.size w (w8.alloc (.cells #[.string b, .bool false] 32)) := hb9.alloc hb9.size _
  have hge3 : w.heap.size ≤ w8.heap.size := hb9.size
  have hq1 : cb ≠ w8.heap.size := by omega
  have hq2 : rb ≠ w8.heap.size := by omega
  clear hcut hb1 hb2 hb3 hb4 hb5 hb8 hb9 hsz HT1 HT2 hlt hlt2
  go_wp2
  generalize w8.alloc (.cells #[.string b, .bool false] 32) = w9 at *
  generalize w8.heap.size = br at *
  go_loopw [11] (fun i wr => ∃ (k : Nat) (l : List UInt8) (sh : Bool), k ≤ len ∧ i = .int .i64 k ∧ l.length ≤ 500 ∧ CutAt wr cb rb l sh ∧ RefAt wr br l sh ∧ Below w.heap.size w wr) (fun i _ => len - (intOf i).toNat)
  case atStart => exact ⟨0, l0, false, Nat.zero_le _, rfl, hlen, HC0.out, HR0.out, hbA⟩
  case round =>
    obtain ⟨k, l, sh, hk, rfl, hll, hcut, href, hbel⟩ := hrel
    clear HC0 HR0 hbA
    by_cases hlt : k < len
    · have hcell : wr.cell? (a.add k) = some (.bool (st k)) := (hbel.cell (p := a.add k) (by unfold Addr.add; split <;> exact ha)).trans (HST.out k hlt)
      have HC := hid (hcut)
      have HR := hid (href)
      clear hcut href
      cases hsk : st k
      · rw [hsk] at hcell
        clear hsk
        go_wp2_with fail
        refine (cutText_any cb rb l sh _ HC.out).mono ?_
        rintro e w2 ⟨rfl, hcut, hg2⟩
        have HR2 := hid (HR.out.kept hg2 hq1.symm)
        have hbel2 := hbel.grown hg2 hbel.size (by intro q hq; simp at hq; omega)
        have HC2 := hid (hcut)
        clear hcut hg2 hbel HC HR hcell
        go_wp2_with fail
        refine (refText_any br l sh _ HR2.out (by unfold maxLen; omega)).mono ?_
        rintro e w3 ⟨rfl, href, hg3⟩
        have hbel3 := hbel2.grown hg3 hbel2.size (by intro q hq; simp at hq; omega)
        have HC3 := hid (HC2.out.grown hg3 hq1 hq2)
        have hll' := textL_len l sh
        generalize textL l sh = l' at *
        generalize (!textOk l sh) = sh' at *
        obtain ⟨hc0, hc1, _, _⟩ := cells_ref href
        have HR3 := hid (href)
        have hz := arr_size l'
        have e1 := Try.eqNil
        have e2 := Try.eqNilNil
        clear href hg3 hbel2 HC2 HR2
        go_wp2_with fail
        refine wp_region_quiet_lit (by kernel_rfl) (by kernel_rfl) ?_
        cases sh'
        · repeat (go_big_quiet_step (first | (go_at_call 19; exact Calls.quiet_of_same (cutLeft_any cb rb l' _ _ (HC3.out.draws _))) | (go_at_call 20; exact Calls.quiet_of_same (err_at cb rb l' _ .nilIface _ (HC3.out.draws _) rfl))))
          refine wpQuiet_nil ?_
          intro _ hw'
          obtain ⟨nq, hw''⟩ := hw'
          subst hw''
          go_wp2
          go_roundw
          case rel => exact ⟨k + 1, l', _, by omega, by go_num, by omega, HC3.out.draws nq, ref_drewN HR3.out nq, hbel3.trans ((below_draws w3 nq).mono hbel3.size)⟩
          case measure => simp [intOf]; omega
        · repeat (go_big_quiet_step (first | (go_at_call 19; exact Calls.quiet_of_same (cutLeft_any cb rb l' _ _ (HC3.out.draws _))) | (go_at_call 20; exact Calls.quiet_of_same (err_at cb rb l' _ (.iface 46 (.int .i64 11)) _ (HC3.out.draws _) rfl))))
          refine wpQuiet_nil ?_
          intro _ hw'
          obtain ⟨nq, hw''⟩ := hw'
          subst hw''
          go_wp2
          go_roundw
          case rel => exact ⟨k + 1, l', _, by omega, by go_num, by omega, HC3.out.draws nq, ref_drewN HR3.out nq, hbel3.trans ((below_draws w3 nq).mono hbel3.size)⟩
          case measure => simp [intOf]; omega
      · rw [hsk] at hcell
        have HK := hid hsk
        clear hsk
        go_wp2_with fail
        refine (cutNum_any cb rb l sh _ HC.out).mono ?_
        rintro e w2 ⟨rfl, hcut, hg2⟩
        have HR2 := hid (HR.out.kept hg2 hq1.symm)
        have hbel2 := hbel.grown hg2 hbel.size (by intro q hq; simp at hq; omega)
        have HC2 := hid (hcut)
        clear hcut hg2 hbel HC HR hcell
        go_wp2_with fail
        refine (refNum_any br l sh _ HR2.out (by unfold maxLen; omega)).mono ?_
        rintro e w3 ⟨rfl, href, hg3⟩
        have hbel3 := hbel2.grown hg3 hbel2.size (by intro q hq; simp at hq; omega)
        have HC3 := hid (HC2.out.grown hg3 hq1 hq2)
        have hcell3 : w3.cell? (a.add k) = some (.bool true) := by rw [← HK.out]; exact (hbel3.cell (p := a.add k) (by unfold Addr.add; split <;> exact ha)).trans (HST.out k hlt)
        have hll' := numL_len l sh
        generalize numL l sh = l' at *
        generalize (!numOk l sh) = sh' at *
        obtain ⟨hc0, hc1, _, _⟩ := cells_ref href
        have HR3 := hid (href)
        have hz := arr_size l'
        have e1 := Try.eqNil
        have e2 := Try.eqNilNil
        clear href hg3 hbel2 HC2 HR2
        go_wp2_with fail
        refine wp_region_quiet_lit (by kernel_rfl) (by kernel_rfl) ?_
        cases sh'
        · repeat (go_big_quiet_step (first | (go_at_call 19; exact Calls.quiet_of_same (cutLeft_any cb rb l' _ _ (HC3.out.draws _))) | (go_at_call 20; exact Calls.quiet_of_same (err_at cb rb l' _ .nilIface _ (HC3.out.draws _) rfl))))
          refine wpQuiet_nil ?_
          intro _ hw'
          obtain ⟨nq, hw''⟩ := hw'
          subst hw''
          go_wp2
          go_roundw
          case rel => exact ⟨k + 1, l', _, by omega, by go_num, by omega, HC3.out.draws nq, ref_drewN HR3.out nq, hbel3.trans ((below_draws w3 nq).mono hbel3.size)⟩
          case measure => simp [intOf]; omega
        · repeat (go_big_quiet_step (first | (go_at_call 19; exact Calls.quiet_of_same (cutLeft_any cb rb l' _ _ (HC3.out.draws _))) | (go_at_call 20; exact Calls.quiet_of_same (err_at cb rb l' _ (.iface 46 (.int .i64 11)) _ (HC3.out.draws _) rfl))))
          refine wpQuiet_nil ?_
          intro _ hw'
          obtain ⟨nq, hw''⟩ := hw'
          subst hw''
          go_wp2
          go_roundw
          case rel => exact ⟨k + 1, l', _, by omega, by go_num, by omega, HC3.out.draws nq, ref_drewN HR3.out nq, hbel3.trans ((below_draws w3 nq).mono hbel3.size)⟩
          case measure => simp [intOf]; omega
    · clear hcut href
      go_wp2
      go_ret
      exact ⟨rfl, hbel⟩

set_option maxHeartbeats 1000000 in
theorem tells_none (n : Int) (s b : ByteArray) (ao : Option Addr) (cap : Nat) (w : World) (hn0 : 0 ≤ n) (hn : n < 18446744073709551616) (hs : s.size ≤ 70000) (hb : b.size ≤ 500) :
    Calls Try.prog 3 #[.int .u64 n, .string s, .string b, .slice ao 0 cap] w fun e w' => e = .returned (.bool true) ∧ Below w.heap.size w w' := by
  obtain ⟨t, ht1, ht2⟩ := text_both s (by unfold maxLen; omega)
  have HT1 := hid (ht1)
  have HT2 := hid (ht2)
  clear ht1 ht2
  go_enter Try.func3, Try.ntmps3
  go_wp2_with fail
  refine (known_any _).mono ?_
  rintro e w1 ⟨rfl, hb1⟩
  go_wp2_with fail
  refine (num_any n _ hn0 hn).mono ?_
  rintro e w2 ⟨rfl, hb2⟩
  replace hb2 := hb1.trans (hb2.mono hb1.size)
  go_wp2_with fail
  refine (refNumS_any n _ hn0 hn).mono ?_
  rintro e w3 ⟨rfl, hb3⟩
  replace hb3 := hb2.trans (hb3.mono hb2.size)
  go_wp2_with fail
  refine (HT1.out _).mono ?_
  rintro e w4 ⟨rfl, hb4⟩
  replace hb4 := hb3.trans (hb4.mono hb3.size)
  go_wp2_with fail
  refine (HT2.out _).mono ?_
  rintro e w5 ⟨rfl, hb5⟩
  replace hb5 := hb4.trans (hb5.mono hb4.size)
  go_wp2_with fail
  refine (sum_any b _ (by unfold maxLen; omega)).mono ?_
  rintro e w6 ⟨rfl, rfl⟩
  go_wp2_with fail
  refine (refSum_any b _ (by unfold maxLen; omega)).mono ?_
  rintro e w7 ⟨rfl, rfl⟩
  go_wp2_with fail
  refine (new_any b _ (by unfold maxLen; omega)).mono ?_
  rintro e w8 ⟨rfl, hcut, hsz, hb8⟩
  have hb9 : Below w.heap.size w w8 := hb5.trans (hb8.mono hb5.size)
  have HBA := hid (hb9.alloc hb9.size (.cells #[.string b, .bool false] 32))
  clear hcut hb1 hb2 hb3 hb4 hb5 hb8 hb9 hsz HT1 HT2
  go_wp2
  refine wp_loop_rounds 1 ?_
  rw [rounds_succ]
  go_wp2
  go_ret
  exact ⟨rfl, HBA.out⟩
end Go.Proofs.Ytnnmnadlcejjhaa
