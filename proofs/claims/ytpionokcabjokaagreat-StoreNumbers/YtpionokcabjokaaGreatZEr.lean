/- StoreNumbers: new numbers are the least that are free, then those at the end, as far as can be seen. -/
import Derived.Test.YtpionokcabjokaaGreatZEq
namespace Go.Proofs.YtpionokcabjokaaGreat
open Go.RowKit Go.Sort Go.Conc
open H (Up up_ext mergeL dropL Fit RunI RunIs RowAt)

set_option maxRecDepth 100000 in
set_option maxHeartbeats 4000000 in
theorem numbers_law (a0 a1 a2 : Int) (w : World) (_ : 0 ≤ a0) (_ : a0 ≤ 65535) (h2 : 0 ≤ a1) (h3 : a1 ≤ 255) (h4 : 0 ≤ a2) (h5 : a2 ≤ 255) :
    Calls Tryz.prog 4 #[.int .u16 a0, .int .u8 a1, .int .u8 a2] w fun e w' => e = .returned (.bool true) ∧ Below w.heap.size w w' := by

  obtain ⟨n, rfl⟩ : ∃ a : Nat, a1 = (a : Int) := ⟨a1.toNat, by omega⟩
  obtain ⟨m0, rfl⟩ : ∃ a : Nat, a2 = (a : Int) := ⟨a2.toNat, by omega⟩
  have hnn := neqNN
  have hnil := Tryz.eqNilNil
  obtain ⟨i0, hi, hz0, hz1, hz2⟩ := info_parts H.Tryz.infoInt
  have C0 := hidS (fun W => F.new_any [] (.slice none 0 0) W (F.strs_nil W) (by simp))
  go_enter Tryz.func4, Tryz.ntmps4
  go_wp2_with fail
  refine (known_st w).mono ?_
  rintro e w0 ⟨rfl, B0⟩
  replace B0 := hidS B0
  go_wp2
  go_loopg [7, 8] 16 (fun g vr i wr => ∃ (k : Nat) (ro : Option Addr) (cr : Nat), k + g = 16 ∧ vr = .slice ro (bitsL a0 k).length cr ∧ i = .int .i64 (k : Int) ∧ Hid (H.OwnInts wr w0.heap.size (.slice ro (bitsL a0 k).length cr) (bitsL a0 k)) ∧ Hid (Below w0.heap.size w0 wr))
  case atStart => exact ⟨0, none, 0, by omega, rfl, rfl, hidS (H.OwnInts.nil _ _), hidS (Below.refl _ _)⟩
  case round =>
    obtain ⟨k, ro, cr, hk, rfl, rfl, hR, hbel⟩ := hrel
    cases gk with
    | succ g =>
      have hlen := bitsL_len a0 k
      have hw2 : IntKind.i64.wrap (2 + (k : Int)) = 2 + (k : Int) := by rw [IntKind.wrap_i64]; omega
      have hsz := hbel.out.size
      cases hb : bitB a0 k with
      | false =>
        have e1 : bitsL a0 (k + 1) = bitsL a0 k := by simp only [bitsL]; rw [if_neg (by rw [hb]; simp)]
        have hbb : (bits BinOp.and IntKind.u16 (a0 / 2 ^ k) 1 == 1) = false := hb
        replace e1 := hidS e1
        clear hb hlen
        go_wp2
        go_roundg g
        case rel => exact ⟨k + 1, ro, cr, by omega, by rw [e1.out], by go_num, by rw [e1.out]; exact hR, hbel⟩
        case measure => omega
      | true =>
        have e1 : bitsL a0 (k + 1) = bitsL a0 k ++ [2 + (k : Int)] := by simp only [bitsL]; rw [if_pos hb]
        have hbb : (bits BinOp.and IntKind.u16 (a0 / 2 ^ k) 1 == 1) = true := hb
        replace e1 := hidS e1
        have bA := hidS (hbel.out.alloc hsz (.cells #[.int .i64 (2 + (k : Int))] 3))
        have A1 := hidS (H.append_one i0 hi hz0 hz1 hz2 (w0 := w0) _ (bitsL a0 k) (2 + (k : Int)) (own_below hR.out ((Below.refl _ wr).alloc (Nat.le_refl _) (.cells #[.int .i64 (2 + (k : Int))] 3))) _ (heap_newL wr _) bA.out (by simp; omega) (by omega))
        clear hb hlen
        go_wp2_with (first
          | (at_builtin; refine H.wpList_append_any rfl (.tmp 27) (.tmp 30) 23 rfl _ _ rfl rfl (A1.out _) ?_; rintro v1 w4 ⟨⟨ra, rc, rfl⟩, h1, b1⟩; replace h1 := hidS h1; replace b1 := hidS b1)
          | fail)
        go_roundg g
        case rel => exact ⟨k + 1, ra, rc, by omega, by rw [e1.out]; simp, by go_num, by rw [e1.out]; simpa using h1, b1⟩
        case measure => omega
    | zero =>
      have hke : k = 16 := by omega
      subst hke
      obtain ⟨q, hq⟩ : ∃ q : Nat, m0 % 20 = q := ⟨_, rfl⟩
      have hq8 : Hid (q < 20) := hidS (by omega)
      have hqi : (m0 : Int) % 20 = (q : Int) := by omega
      have hwq : IntKind.i64.wrap (18 + (q : Int)) = 18 + (q : Int) := by rw [IntKind.wrap_i64]; omega
      obtain ⟨p, hp⟩ : ∃ p : Nat, n % 40 = p := ⟨_, rfl⟩
      have hp8 : Hid (p < 40) := hidS (by omega)
      have hpi : (n : Int) % 40 = (p : Int) := by omega
      have hbw := hidS (B0.out.trans (hbel.out.mono B0.out.size))
      have hlen := hidS (bitsL_len a0 16)
      have HN0 : Hid (NumI (newD 18 (18 + (q : Int)) (bitsL a0 16)) (bitsL a0 16) 18 (18 + q) 0) := hidS (by have := num_new a0 (18 + q) (by omega) (by omega); simpa using this)
      clear hq hp h2 h3 h4 h5 hi hz0 hz1 hz2 B0 hbel
      go_wp2_with fail
      refine (C0.out wr).mono ?_
      rintro e w1 ⟨rfl, u1, hf1, hb1⟩
      have hR1 := own_below hR.out hb1
      obtain ⟨ro', cr', er, hRow⟩ := RowAt.own hR1
      obtain ⟨rfl, rfl⟩ : ro = ro' ∧ cr = cr' := by simpa using er
      have C1 := hidS (new_sf2 (w := w) (X := w1) (L := []) wr.heap.size 18 (18 + (q : Int)) (bitsL a0 16) ro cr _ rfl (hbw.out.trans (hb1.mono hbw.out.size)) (file_mono hf1 hbw.out.size) hRow (by have := hlen.out; omega))
      replace hR1 := hidS hR1
      clear hf1 hb1 hbw C0 er hRow hR
      generalize wr.heap.size = fb at *
      generalize newD 18 (18 + (q : Int)) (bitsL a0 16) = s0 at *
      have HA : Hid (H.Up (bitsL a0 16)) := hidS (bitsL_up a0 16)
      generalize hAA : bitsL a0 16 = A0 at *
      replace hAA := hidS hAA
      go_wp2_with fail
      refine C1.out.mono ?_
      rintro e w2 ⟨sb, mb, rfl, S2, hb2⟩
      have hR2 := own_below hR1.out hb2
      obtain ⟨ro', cr', er, hK⟩ := row_stays S2 hR2
      obtain ⟨rfl, rfl⟩ : ro = ro' ∧ cr = cr' := by simpa using er
      have HK2 := hidS hK
      replace S2 := hidS S2
      clear hb2 hR2 er hK hR1 C1
      go_wp2
      go_loopg [7, 11, 12] p (fun g vr lv i wr => ∃ (k : Nat) (A : List Int) (ao : Option Addr) (nA cap l : Nat) (s : StD), k + g = p ∧ vr = .slice ao nA cap ∧ lv = .int .i64 (l : Int) ∧ i = .int .i64 (k : Int) ∧ (18 ≤ l ∧ l ≤ 18 + q) ∧ Hid (nA = A.length) ∧ Hid (NumI s A l (18 + q) k) ∧ Hid (Sf w wr sb mb fb s []) ∧ Hid (RowK wr sb mb ao cap A))
      case atStart => exact ⟨0, A0, ro, A0.length, cr, 18, s0, by omega, rfl, rfl, rfl, by omega, hidS rfl, HN0, S2, HK2⟩
      case round =>
        obtain ⟨k, A, ao, nA, cap, l, s, hk, rfl, rfl, rfl, hl, hnA2, hN, hS, hK⟩ := hrel
        clear S2 HK2 HN0
        cases gk with
        | succ g =>
          have hkp : k < 40 := by have := hp8.out; omega
          have dkp : decide ((k : Int) < (p : Int)) = true := by simp; omega
          replace hl := hidS hl
          go_wp2_with fail
          refine (leaf_sf hS.out ⟨#[107]⟩ (by decide)).mono ?_
          rintro e w3 ⟨v3, rfl, hK3, S3, hb3⟩
          have C3 := hidS (add_sf S3 hK3 (leaf_txn _))
          have hKr := hidS (hK.out.so (So.of_below hb3))
          have S3' := hidS S3
          clear hK hK3 S3 hb3 hS
          cases A with
          | cons x r =>
            obtain rfl : nA = r.length + 1 := hnA2.out
            obtain ⟨s', e1, hN'⟩ := num_avail hN.out S3'.out.ok (by omega)
            rw [show addD s (leafK1 ⟨#[107]⟩) = (x, 0, s') from e1] at C3
            simp only [errV_0] at C3
            replace hN' := hidS hN'
            have dlen : decide (((r.length : Int) + 1) > 0) = true := decide_eq_true (by omega)
            clear hN e1 S3' hnA2
            go_wp2_with fail
            refine C3.out.mono ?_
            rintro e w4 ⟨rfl, S4, So4⟩
            have hK4 := hKr.out.so So4
            obtain ⟨pa, hix, hcx, _⟩ := hK4.here.get 0 (by simp)
            have hix2 : ∀ W, (Instr.indexAt 23 (.slice ao (r.length + 1) cap) (.int .i64 0)).run Tryz.prog W = .ok (.pointer (some pa)) W := hix
            have hcx2 : w4.cell? pa = some (.int .i64 x) := hcx
            obtain ⟨bo, hsl, hKt⟩ := hK4.tail
            replace S4 := hidS S4
            replace hKt := hidS hKt
            clear C3 hKr So4 hK4 hix hcx
            go_wp2
            go_roundg g
            case rel => exact ⟨k + 1, r, bo, r.length, cap - 1, l, s', by omega, rfl, rfl, by go_num, hl.out, hidS rfl, hN', S4, hKt⟩
            case measure => omega
          | nil =>
            obtain rfl : nA = 0 := hnA2.out
            by_cases hlm : 18 + q ≤ l
            · have e1 := num_over hN.out (by omega) hlm
              rw [show addD s (leafK1 ⟨#[107]⟩) = (0, 14, s) from e1] at C3
              simp only [errV_14] at C3
              have dlm : decide ((l : Int) ≥ 18 + (q : Int)) = true := by simp; omega
              have hla := hidS hN.out.last
              have hN' := hidS (show NumI s [] l (18 + q) (k + 1) from ⟨hN.out.avail, hN.out.last, hN.out.most, by have := hN.out.few; omega⟩)
              clear e1 S3' hnA2 hN
              replace hlm := hidS hlm
              go_wp2_with fail
              refine C3.out.mono ?_
              rintro e w4 ⟨rfl, S4, So4⟩
              have hK4 := hidS (hKr.out.so So4)
              replace S4 := hidS S4
              clear C3 hKr So4
              go_wp2_with fail
              refine (is_same14 _).mono ?_
              rintro e w5 ⟨rfl, hw5⟩
              rw [hw5]
              clear hw5
              go_wp2_with fail
              refine (last_sf S4.out).mono ?_
              rintro e w5 ⟨rfl, hw5⟩
              rw [hw5, hla.out]
              clear hw5
              go_wp2
              go_roundg g
              case rel => exact ⟨k + 1, [], ao, 0, cap, l, s, by omega, rfl, rfl, by go_num, hl.out, hidS rfl, hN', S4, hK4⟩
              case measure => omega
            · obtain ⟨s', e1, hN'⟩ := num_last hN.out S3'.out.ok (by omega) (by omega)
              rw [show addD s (leafK1 ⟨#[107]⟩) = ((l : Int), 0, s') from e1] at C3
              simp only [errV_0] at C3
              have dlm : decide ((l : Int) ≥ 18 + (q : Int)) = false := by simp; omega
              have hl2 : Hid (18 ≤ l + 1 ∧ l + 1 ≤ 18 + q) := hidS (by have := hl.out; omega)
              have hwl : IntKind.i64.wrap ((l : Int) + 1) = (l : Int) + 1 := by have := hl.out; have := hq8.out; rw [IntKind.wrap_i64]; omega
              replace hN' := hidS hN'
              clear e1 S3' hnA2 hN hlm
              go_wp2_with fail
              refine C3.out.mono ?_
              rintro e w4 ⟨rfl, S4, So4⟩
              have hK4 := hidS (hKr.out.so So4)
              replace S4 := hidS S4
              clear C3 hKr So4
              go_wp2
              go_roundg g
              case rel => exact ⟨k + 1, [], ao, 0, cap, l + 1, s', by omega, rfl, by go_num, by go_num, hl2.out, hidS rfl, hN', S4, hK4⟩
              case measure => omega
        | zero =>
          have hke : k = p := by omega
          subst hke
          have dkp : decide ((k : Int) < (k : Int)) = false := by simp
          obtain rfl := hnA2.out
          have hla := hidS hN.out.last
          have hav := hidS hN.out.avail
          have hAl : Hid (A.length ≤ 1000) := hidS (by have := hS.out.ok.lenA; rw [hN.out.avail] at this; omega)
          clear hN hnA2
          go_wp2_with fail
          refine (last_sf hS.out).mono ?_
          rintro e w5 ⟨rfl, hw5⟩
          rw [hw5, hla.out]
          clear hw5
          go_wp2_with fail
          refine (avail_sf2 hS.out).mono ?_
          rintro e w6 ⟨ao6, ca6, rfl, hr6, hb6⟩
          rw [hav.out] at hr6 ⊢
          have CS : Hid (Calls Tryz.prog 26 #[.slice ao6 A.length ca6, .slice ao A.length cap] w6 fun e w' => e = .returned (.bool true) ∧ Below w6.heap.size w6 w') := hidS (by
            have := H.refSameInts_any A A _ _ w6 ((hr6 w6 (refl_agree _ _)).at hAl.out) ((hK.out w6 (So.of_below hb6)).at hAl.out)
            rw [show decide (A = A) = true by simp] at this
            exact this)
          have S6 := hidS (hS.out.below hb6)
          clear hr6 hb6 hS hK
          generalize A.length = nA at *
          go_wp2_with fail
          refine CS.out.mono ?_
          rintro e w7 ⟨rfl, hb7⟩
          have S7 := hidS (S6.out.below hb7)
          clear CS hb7
          go_wp2
          go_ret
          exact ⟨rfl, S7.out.bel⟩
end Go.Proofs.YtpionokcabjokaaGreat
