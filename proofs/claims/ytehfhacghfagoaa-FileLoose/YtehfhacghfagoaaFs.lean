/- FileLoose, walked. -/
import Derived.Test.YtehfhacghfagoaaFr
namespace Go.Proofs.Ytehfhacghfagoaa
open Go.RowKit

def xB : ByteArray := ⟨#[120]⟩
set_option maxRecDepth 100000 in
set_option maxHeartbeats 8000000 in
theorem loose_law (ls : List Int) (sync : Int) (v : Value) (w : World) (hv : BytesAt w v ls) (hs0 : 0 ≤ sync) (_hs1 : sync < 256) :
    Calls Try.prog 7 #[v, .int .u8 sync] w fun e w' => e = .returned (.bool true) ∧ Below w.heap.size w w' := by
  obtain ⟨vo, vc, rfl, hvm, hv3⟩ := hv
  unfold maxLen at hvm
  replace hv3 := hid hv3
  by_cases hbig : 30 < ls.length
  · go_enter Try.func7, Try.ntmps7
    go_wp2_with fail
    refine (known_any w).mono ?_
    rintro e w1 ⟨rfl, B1⟩
    replace B1 := hid B1
    go_wp2
    go_ret
    exact ⟨rfl, B1.out⟩
  replace hbig : ls.length ≤ 30 := by omega
  obtain ⟨q, hq⟩ : ∃ q : Nat, sync % 40 = (q : Int) := ⟨(sync % 40).toNat, by omega⟩
  have hqt : sync.tmod 40 = (q : Int) := by rw [Int.tmod_eq_emod_of_nonneg hs0]; exact hq
  have hq40 : q < 40 := by omega
  have hmx := maxInt
  have hnil := Try.eqNilNil
  clear hq
  go_enter Try.func7, Try.ntmps7
  go_wp2_with fail
  refine (known_any w).mono ?_
  rintro e w1 ⟨rfl, B1⟩
  have hle := B1.size
  replace B1 := hid B1
  go_wp2_with fail
  refine (new_any [] _ w1 (strs_nil w1) (by simp)).mono ?_
  rintro e w2 ⟨rfl, fv, F2, B2⟩
  have HB2 := hid (bel B1.out B2 hle)
  generalize w1.heap.size = fb at *
  replace F2 := hid F2
  clear B2 B1
  go_wp2
  go_loopg [6, 7, 8] ls.length (fun g u n i wr => ∃ (k : Nat) (v : Value) (L : List Sh), k + g = ls.length ∧ i = .int .i64 k ∧ n = .int .i64 (L.length : Int) ∧ L.length ≤ 40 ∧ Hid (OwnInts wr w.heap.size u (looseL L 0)) ∧ Hid (FileAt wr fb fb v L) ∧ Hid (Below w.heap.size w wr))
  case atStart => exact ⟨0, fv, [], by omega, rfl, rfl, by simp, OwnInts.nil _ _, F2, HB2⟩
  case round =>
    obtain ⟨k, fv, L, hk, rfl, rfl, hL, hu, hf, hb⟩ := hrel
    clear F2 HB2
    cases gk with
    | zero =>
      have hke : k = ls.length := by omega
      subst hke
      go_wp2_with fail
      refine (sync_any _ fb fb _ _ hf.out).mono ?_
      rintro e w3 ⟨rfl, F3, O3⟩
      have HB3 := hid (hb.out.trans ((O3.below hf.out).mono hle))
      replace F3 := hid F3
      clear O3 hf hb hu
      go_wp2_with fail
      refine (loose_any _ fb fb _ _ F3.out).mono ?_
      rw [sync_loose]
      rintro e w4 ⟨lv, rfl, OL, B4⟩
      obtain ⟨lo, lc, rfl⟩ := OL.slice
      have HB4 := hid (bel HB3.out B4 HB3.out.size)
      clear OL B4 HB3 F3
      go_wp2
      go_ret
      exact ⟨rfl, HB4.out⟩
    | succ g =>
      have hkm : k < ls.length := by omega
      obtain ⟨a, ha, hcell, hx0, hx1⟩ := hv3.out k hkm
      have hx := index_at (len := ls.length) (cap := vc) Try.elemU8s Try.sizeU8s k ha hkm
      have hcs : wr.cell? (a.add k) = some (.int .u8 ls[k]) := (hb.out.cell (p := a.add k) (World.block_lt_of_cell? w _ hcell)).trans hcell
      obtain ⟨x, hxk⟩ : ∃ x, ls[k] = x := ⟨_, rfl⟩
      rw [hxk] at hcs hx0 hx1
      obtain ⟨t, ht⟩ : ∃ t : Nat, x % 40 = (t : Int) := ⟨(x % 40).toNat, by omega⟩
      have htt : x.tmod 40 = (t : Int) := by rw [Int.tmod_eq_emod_of_nonneg hx0]; exact ht
      have ht40 : t < 40 := by omega
      clear hcell ha hxk ht hx1
      by_cases hkq : k = q
      · subst hkq
        go_wp2_with fail
        refine (sync_any _ fb fb _ _ hf.out).mono ?_
        rintro e w3 ⟨rfl, F3, O3⟩
        have HB3 := hid (hb.out.trans ((O3.below hf.out).mono hle))
        have U3 : Hid (OwnInts w3 w.heap.size (.slice none 0 0) (looseL (syncL L) 0)) := by rw [sync_loose]; exact OwnInts.nil _ _
        replace F3 := hid F3
        have hM : (syncL L).length = L.length := by simp [syncL]
        rw [← hM] at hL ⊢
        generalize syncL L = M at *
        clear O3 hf hb hu hcs hM
        go_wp2
        go_loopg [6, 7] (t - M.length) (fun g' u n wq => ∃ (j : Nat), g' = t - j ∧ M.length ≤ j ∧ (j ≤ t ∨ j = M.length) ∧ n = .int .i64 (j : Int) ∧ Hid (OwnInts wq w.heap.size u (looseL (padTo M j) 0)) ∧ Hid (FileAt wq fb fb fv M) ∧ Hid (Below w.heap.size w wq))
        case atStart => exact ⟨M.length, rfl, Nat.le_refl _, .inr rfl, rfl, by rw [padTo_le M M.length (Nat.le_refl _)]; exact U3, F3, HB3⟩
        case round =>
          obtain ⟨j, hg', hMj, hjt, rfl, hu4, hf4, hb4⟩ := hrel
          clear U3 F3 HB3
          have hplen : (padTo M j).length ≤ 40 := by rw [padTo_length]; omega
          have hll := looseL_le40 (padTo M j) hplen
          have hsz4 := hb4.out.size
          by_cases hj : j < t
          · replace hg' := hid hg'
            go_wp2_with fail
            refine (with_any _ (j : Int) _ w.heap.size _ hu4.out hsz4 (by omega)).mono ?_
            rw [← loose_pad M j hMj]
            rintro e w5 ⟨u5, rfl, U5, B5⟩
            have F5 := hid (hf4.out.below B5)
            have HB5 := hid (bel hb4.out B5 hsz4)
            replace U5 := hid U5
            clear B5 hf4 hb4 hu4
            go_wp2
            go_roundg (t - (j + 1))
            case rel => exact ⟨j + 1, rfl, by omega, .inl (by omega), by go_num, U5, F5, HB5⟩
            case measure => have := hg'.out; omega
          · have hpad : padTo M j = padTo M t := by
              rcases hjt with h | h
              · rw [show j = t by omega]
              · rw [padTo_le M j (by omega), padTo_le M t (by omega)]
            rw [hpad] at hu4 hll
            have hmax : max j (t + 1) = max M.length (t + 1) := by omega
            have hmx2 := fun ats ty W => hmx ats ty j (t + 1) W
            rw [hmax, ← writeL_length M t xB] at hmx2
            simp only [Int.natCast_add, Int.natCast_one] at hmx2
            have hw40 : (writeL M t xB).length ≤ 40 := by rw [writeL_length]; omega
            clear hpad hmax hjt hg' hmx
            go_wp2_with fail
            refine (with_any _ (t : Int) _ w.heap.size _ hu4.out hsz4 (by omega)).mono ?_
            rw [← loose_write M t xB]
            rintro e w5 ⟨u5, rfl, U5, B5⟩
            have F5 := hid (hf4.out.below B5)
            have HB5 := hid (bel hb4.out B5 hsz4)
            replace U5 := hid U5
            clear B5 hf4 hb4 hu4 hmx2
            go_wp2_with fail
            refine (write_any _ fb fb _ _ t xB F5.out (by omega)).mono ?_
            rintro e w6 ⟨rfl, v6, F6, O6⟩
            have HB6 := hid (HB5.out.trans ((O6.below F5.out).mono hle))
            have U6 := hid (U5.out.fo F5.out O6)
            replace F6 := hid F6
            clear O6 F5 HB5 U5
            generalize writeL M t xB = M' at *
            go_wp2_with fail
            refine (loose_any _ fb fb _ _ F6.out).mono ?_
            rintro e w7 ⟨lv, rfl, OL, B7⟩
            have F7 := hid (F6.out.below B7)
            have U7 := hid (U6.out.below B7)
            have HB7 := hid (bel HB6.out B7 HB6.out.size)
            replace OL := hid OL
            have hll' := looseL_le40 M' hw40
            clear B7 F6 U6 HB6
            go_wp2_with fail
            refine (refSameInts_any _ _ _ _ _ (OL.out.at (by unfold maxLen; omega)) (U7.out.at (by unfold maxLen; omega))).mono ?_
            rw [decide_eq_true rfl]
            rintro e w8 ⟨rfl, B8⟩
            have F8 := hid (F7.out.below B8)
            have U8 := hid (U7.out.below B8)
            have HB8 := hid (bel HB7.out B8 HB7.out.size)
            clear B8 F7 U7 HB7 OL
            go_wp2_with fail
            refine (len_any _ fb fb _ _ F8.out).mono ?_
            rintro e w9 ⟨rfl, rfl⟩
            go_wp2
            go_roundg g
            case rel => exact ⟨k + 1, v6, M', by omega, by go_num, rfl, hw40, U8, F8, HB8⟩
            case measure => omega
      · have hkq2 : ((k : Int) == (q : Int)) = false := by simp; omega
        have F3 := hf
        have U3 := hu
        have HB3 := hb
        clear hf hu hb
        generalize L = M at *
        go_wp2
        clear hcs
        go_loopg [6, 7] (t - M.length) (fun g' u n wq => ∃ (j : Nat), g' = t - j ∧ M.length ≤ j ∧ (j ≤ t ∨ j = M.length) ∧ n = .int .i64 (j : Int) ∧ Hid (OwnInts wq w.heap.size u (looseL (padTo M j) 0)) ∧ Hid (FileAt wq fb fb fv M) ∧ Hid (Below w.heap.size w wq))
        case atStart => exact ⟨M.length, rfl, Nat.le_refl _, .inr rfl, rfl, by rw [padTo_le M M.length (Nat.le_refl _)]; exact U3, F3, HB3⟩
        case round =>
          obtain ⟨j, hg', hMj, hjt, rfl, hu4, hf4, hb4⟩ := hrel
          clear U3 F3 HB3
          have hplen : (padTo M j).length ≤ 40 := by rw [padTo_length]; omega
          have hll := looseL_le40 (padTo M j) hplen
          have hsz4 := hb4.out.size
          by_cases hj : j < t
          · replace hg' := hid hg'
            go_wp2_with fail
            refine (with_any _ (j : Int) _ w.heap.size _ hu4.out hsz4 (by omega)).mono ?_
            rw [← loose_pad M j hMj]
            rintro e w5 ⟨u5, rfl, U5, B5⟩
            have F5 := hid (hf4.out.below B5)
            have HB5 := hid (bel hb4.out B5 hsz4)
            replace U5 := hid U5
            clear B5 hf4 hb4 hu4
            go_wp2
            go_roundg (t - (j + 1))
            case rel => exact ⟨j + 1, rfl, by omega, .inl (by omega), by go_num, U5, F5, HB5⟩
            case measure => have := hg'.out; omega
          · have hpad : padTo M j = padTo M t := by
              rcases hjt with h | h
              · rw [show j = t by omega]
              · rw [padTo_le M j (by omega), padTo_le M t (by omega)]
            rw [hpad] at hu4 hll
            have hmax : max j (t + 1) = max M.length (t + 1) := by omega
            have hmx2 := fun ats ty W => hmx ats ty j (t + 1) W
            rw [hmax, ← writeL_length M t xB] at hmx2
            simp only [Int.natCast_add, Int.natCast_one] at hmx2
            have hw40 : (writeL M t xB).length ≤ 40 := by rw [writeL_length]; omega
            clear hpad hmax hjt hg' hmx
            go_wp2_with fail
            refine (with_any _ (t : Int) _ w.heap.size _ hu4.out hsz4 (by omega)).mono ?_
            rw [← loose_write M t xB]
            rintro e w5 ⟨u5, rfl, U5, B5⟩
            have F5 := hid (hf4.out.below B5)
            have HB5 := hid (bel hb4.out B5 hsz4)
            replace U5 := hid U5
            clear B5 hf4 hb4 hu4 hmx2
            go_wp2_with fail
            refine (write_any _ fb fb _ _ t xB F5.out (by omega)).mono ?_
            rintro e w6 ⟨rfl, v6, F6, O6⟩
            have HB6 := hid (HB5.out.trans ((O6.below F5.out).mono hle))
            have U6 := hid (U5.out.fo F5.out O6)
            replace F6 := hid F6
            clear O6 F5 HB5 U5
            generalize writeL M t xB = M' at *
            go_wp2_with fail
            refine (loose_any _ fb fb _ _ F6.out).mono ?_
            rintro e w7 ⟨lv, rfl, OL, B7⟩
            have F7 := hid (F6.out.below B7)
            have U7 := hid (U6.out.below B7)
            have HB7 := hid (bel HB6.out B7 HB6.out.size)
            replace OL := hid OL
            have hll' := looseL_le40 M' hw40
            clear B7 F6 U6 HB6
            go_wp2_with fail
            refine (refSameInts_any _ _ _ _ _ (OL.out.at (by unfold maxLen; omega)) (U7.out.at (by unfold maxLen; omega))).mono ?_
            rw [decide_eq_true rfl]
            rintro e w8 ⟨rfl, B8⟩
            have F8 := hid (F7.out.below B8)
            have U8 := hid (U7.out.below B8)
            have HB8 := hid (bel HB7.out B8 HB7.out.size)
            clear B8 F7 U7 HB7 OL
            go_wp2_with fail
            refine (len_any _ fb fb _ _ F8.out).mono ?_
            rintro e w9 ⟨rfl, rfl⟩
            go_wp2
            go_roundg g
            case rel => exact ⟨k + 1, v6, M', by omega, by go_num, rfl, hw40, U8, F8, HB8⟩
            case measure => omega
end Go.Proofs.Ytehfhacghfagoaa
