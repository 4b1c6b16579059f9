/- StoreRuns: a run lies side by side, the first free place first, else at the end; its numbers are dirty, and filled one by one. -/
import Derived.Test.YtpionokcabjokaaGreatZEs
namespace Go.Proofs.YtpionokcabjokaaGreat
open Go.RowKit Go.Sort Go.Conc
open H (Up up_ext mergeL dropL Fit RunI RunIs RowAt)

set_option maxRecDepth 100000 in
set_option maxHeartbeats 4000000 in
theorem runs_law (a0 a1 : Int) (w : World) (_ : 0 ≤ a0) (_ : a0 ≤ 65535) (h2 : 0 ≤ a1) (h3 : a1 ≤ 255) :
    Calls Tryz.prog 5 #[.int .u16 a0, .int .u8 a1] w fun e w' => e = .returned (.bool true) ∧ Below w.heap.size w w' := by
  obtain ⟨n, rfl⟩ : ∃ a : Nat, a1 = (a : Int) := ⟨a1.toNat, by omega⟩
  have hnn := neqNN
  have hnil := Tryz.eqNilNil
  obtain ⟨i0, hi, hz0, hz1, hz2⟩ := info_parts H.Tryz.infoInt
  have C0 := hidS (fun W => F.new_any [] (.slice none 0 0) W (F.strs_nil W) (by simp))
  go_enter Tryz.func5, Tryz.ntmps5
  go_wp2_with fail
  refine (known_st w).mono ?_
  rintro e w0 ⟨rfl, B0⟩
  replace B0 := hidS B0
  go_wp2
  go_loopg [5, 6] 16 (fun g vr i wr => ∃ (k : Nat) (ro : Option Addr) (cr : Nat), k + g = 16 ∧ vr = .slice ro (bitsL a0 k).length cr ∧ i = .int .i64 (k : Int) ∧ Hid (H.OwnInts wr w0.heap.size (.slice ro (bitsL a0 k).length cr) (bitsL a0 k)) ∧ Hid (Below w0.heap.size w0 wr))
  case atStart => exact ⟨0, none, 0, by omega, rfl, rfl, hidS (H.OwnInts.nil _ _), hidS (Below.refl _ _)⟩
  case round =>
    obtain ⟨k, ro, cr, hk, rfl, rfl, hR, hbel⟩ := hrel
    cases gk with
    | succ g =>
      have hlen := bitsL_len a0 k
      have hw2 : IntKind.i64.wrap (2 + (k : Int)) = 2 + (k : Int) := by rw [IntKind.wrap_i64]; omega
      have hsz := hbel.out.size
      cases hb : bitB a0 k with
      | false =>
        have e1 : bitsL a0 (k + 1) = bitsL a0 k := by simp only [bitsL]; rw [if_neg (by rw [hb]; simp)]
        have hbb : (bits BinOp.and IntKind.u16 (a0 / 2 ^ k) 1 == 1) = false := hb
        replace e1 := hidS e1
        clear hb hlen
        go_wp2
        go_roundg g
        case rel => exact ⟨k + 1, ro, cr, by omega, by rw [e1.out], by go_num, by rw [e1.out]; exact hR, hbel⟩
        case measure => omega
      | true =>
        have e1 : bitsL a0 (k + 1) = bitsL a0 k ++ [2 + (k : Int)] := by simp only [bitsL]; rw [if_pos hb]
        have hbb : (bits BinOp.and IntKind.u16 (a0 / 2 ^ k) 1 == 1) = true := hb
        replace e1 := hidS e1
        have bA := hidS (hbel.out.alloc hsz (.cells #[.int .i64 (2 + (k : Int))] 3))
        have A1 := hidS (H.append_one i0 hi hz0 hz1 hz2 (w0 := w0) _ (bitsL a0 k) (2 + (k : Int)) (own_below hR.out ((Below.refl _ wr).alloc (Nat.le_refl _) (.cells #[.int .i64 (2 + (k : Int))] 3))) _ (heap_newL wr _) bA.out (by simp; omega) (by omega))
        clear hb hlen
        go_wp2_with (first
          | (at_builtin; refine H.wpList_append_any rfl (.tmp 34) (.tmp 37) 23 rfl _ _ rfl rfl (A1.out _) ?_; rintro v1 w4 ⟨⟨ra, rc, rfl⟩, h1, b1⟩; replace h1 := hidS h1; replace b1 := hidS b1)
          | fail)
        go_roundg g
        case rel => exact ⟨k + 1, ra, rc, by omega, by rw [e1.out]; simp, by go_num, by rw [e1.out]; simpa using h1, b1⟩
        case measure => omega
    | zero =>
      have hke : k = 16 := by omega
      subst hke
      obtain ⟨q, hq⟩ : ∃ q : Nat, n % 5 = q := ⟨_, rfl⟩
      have hq8 : Hid (q < 5) := hidS (by omega)
      have hqi : (n : Int) % 5 = (q : Int) := by omega
      have hwq : IntKind.i64.wrap ((q : Int) + 1) = ((q + 1 : Nat) : Int) := by rw [IntKind.wrap_i64]; omega
      have hbw := hidS (B0.out.trans (hbel.out.mono B0.out.size))
      have hlen := hidS (bitsL_len a0 16)
      have HK : Hid (1 ≤ q + 1 ∧ q + 1 ≤ 5) := hidS (by omega)
      clear hq h2 h3 hi hz0 hz1 hz2 B0 hbel hq8
      generalize q + 1 = K at *
      go_wp2
      go_loopg [8, 9] 16 (fun g vv i wr2 => ∃ (v jj : Int), vv = .int .i64 v ∧ i = .int .i64 jj ∧ jj = (g : Int) - 1 ∧ g ≤ 16 ∧ Hid (WantI a0 K g v) ∧ wr2 = wr)
      case atStart => exact ⟨18, 15, rfl, rfl, by omega, by omega, hidS (want_start a0 K), rfl⟩
      case round =>
        obtain ⟨v, jj, rfl, rfl, hjj, hg, hW, rfl⟩ := hrel
        cases gk with
        | zero =>
          obtain rfl : jj = -1 := by omega
          have HN0 : Hid (NumI (newD 18 400 (bitsL a0 16)) (bitsL a0 16) 18 400 0) := hidS (num_new a0 400 (by omega) (by omega))
          clear hjj hg
          go_wp2_with fail
          refine (C0.out _).mono ?_
          rintro e w1 ⟨rfl, u1, hf1, hb1⟩
          have hR1 := own_below hR.out hb1
          obtain ⟨ro', cr', er, hRow⟩ := RowAt.own hR1
          obtain ⟨rfl, rfl⟩ : ro = ro' ∧ cr = cr' := by simpa using er
          have C1 := hidS (new_sf (w := w) (X := w1) (L := []) wr.heap.size 18 400 (bitsL a0 16) ro cr _ rfl (hbw.out.trans (hb1.mono hbw.out.size)) (file_mono hf1 hbw.out.size) hRow (by have := hlen.out; omega))
          clear hf1 hb1 hbw C0 er hRow hR hR1
          generalize wr.heap.size = fb at *
          generalize newD 18 400 (bitsL a0 16) = s0 at *
          generalize (bitsL a0 16).length = nl at *
          go_wp2_with fail
          refine C1.out.mono ?_
          rintro e w2 ⟨sb, mb, rfl, S2⟩
          obtain ⟨s1, hr1, hI1, hv2, hv18⟩ := runs_new HK.out.1 HK.out.2 hW.out HN0.out
          have C2 := hidS (run_sf S2 (K : Int) (by have := HK.out; unfold InI; omega))
          rw [hr1] at C2
          simp only [errV_0] at C2
          replace hI1 := hidS hI1
          have hv := hidS (And.intro hv2 hv18)
          clear S2 C1 hr1 HN0 hW hv2 hv18
          go_wp2_with fail
          refine C2.out.mono ?_
          rintro e w3 ⟨rfl, S3, -⟩
          replace S3 := hidS S3
          clear C2
          go_wp2_with fail
          refine (dirty_sf S3.out).mono ?_
          rintro e w4 ⟨ao4, ca4, rfl, -, hb4⟩
          have S4 := hidS (S3.out.below hb4)
          rw [hI1.out.len]
          clear S3 hb4
          go_wp2
          go_loopg [15] K (fun g i wr => ∃ (t : Nat) (s : StD), t + g = K ∧ i = .int .i64 (t : Int) ∧ Hid (RunsI s v K t) ∧ Hid (Sf w wr sb mb fb s []))
          case atStart => exact ⟨0, s1, by omega, rfl, hI1, S4⟩
          case round =>
            obtain ⟨t, s, ht, rfl, hI, hS⟩ := hrel
            clear hI1 S4
            cases gk with
            | zero =>
              have hte : t = K := by omega
              subst hte
              have d3 : decide ((t : Int) < (t : Int)) = false := by simp
              have C5 := hidS (run_sf hS.out 0 (by unfold InI; omega))
              rw [show runD s 0 = (0, 10, s) from rfl] at C5
              simp only [errV_10] at C5
              have hla := hidS hI.out.last
              have hwv : IntKind.i64.wrap (v + (t : Int)) = v + (t : Int) := by have := hv.out; have := HK.out; rw [IntKind.wrap_i64]; omega
              have hmx := fun ats ty => maxInt ats ty 18 (v + (t : Int))
              clear hI hS
              go_wp2_with fail
              refine C5.out.mono ?_
              rintro e w5 ⟨rfl, S5, -⟩
              replace S5 := hidS S5
              clear C5
              go_wp2_with fail
              refine (is_same10 _).mono ?_
              rintro e w6 ⟨rfl, hw6⟩
              rw [hw6]
              clear hw6
              go_wp2_with fail
              refine (last_sf S5.out).mono ?_
              rintro e w6 ⟨rfl, hw6⟩
              rw [hw6, hla.out]
              clear hw6
              generalize max 18 (v + (t : Int)) = mx at *
              go_wp2
              go_ret
              exact ⟨rfl, S5.out.bel⟩
            | succ g =>
              have d3 : decide ((t : Int) < (K : Int)) = true := decide_eq_true (by omega)
              have hwv : IntKind.i64.wrap (v + (t : Int)) = v + (t : Int) := by have := hv.out; have := HK.out; rw [IntKind.wrap_i64]; omega
              have HIV : Hid (InI (v + (t : Int))) := hidS (by have := hv.out; have := HK.out; unfold InI; omega)
              have C5 := hidS (read_sf hS.out (fun _ h => absurd h (by simp)) (v + (t : Int)) HIV.out)
              rw [runs_blank hI.out (by omega) hv.out.1 hv.out.2 HK.out.2] at C5
              simp only [errV_12] at C5
              obtain ⟨es, hI2⟩ := runs_set hI.out (by omega)
              have er := hidS (runs_read (L := []) hI.out (by omega) hv.out.1 hv.out.2 HK.out.2)
              replace es := hidS es
              replace hI2 := hidS hI2
              clear hS hI
              go_wp2_with fail
              refine C5.out.mono ?_
              rintro e w5 ⟨ui, uk, ud, uv, ug, rfl, hH5, S5, -⟩
              have hg := hH5 w5 (refl_agree _ _)
              obtain ⟨bi, ni, di, rfl⟩ := hg.items.slice
              obtain ⟨bk, nk, dk, rfl⟩ := hg.keys.slice
              obtain ⟨bd, nd, dd, rfl⟩ := hg.kids.slice
              obtain ⟨bv, nv, dv, rfl⟩ := hg.vals.slice
              obtain ⟨bf, nf, df, rfl⟩ := hg.free.slice
              rw [show (pageCells noPage (.slice bi ni di) (.slice bk nk dk) (.slice bd nd dd) (.slice bv nv dv) (.slice bf nf df)).toArray = #[.int .i64 0, .slice bi ni di, .slice bk nk dk, .slice bd nd dd, .string ⟨#[]⟩, .slice bv nv dv, .slice bf nf df, .int .i64 0, .int .u64 0, .int .i64 0, .int .i64 0, .int .i64 0, .int .i64 0, .int .i64 0] from rfl]
              have S5a := hidS (fun ob => S5.alloc ob)
              clear hH5 hg S5 C5
              go_wp2_with fail
              refine (is_same _).mono ?_
              rintro e w6 ⟨rfl, hw6⟩
              rw [hw6]
              clear hw6
              go_wp2_with fail
              refine (leaf_sf (S5a.out _) ⟨#[107]⟩ (by decide)).mono ?_
              rintro e w7 ⟨v7, rfl, hK7, S7, -⟩
              have C7 := hidS (set_sf S7 (v + (t : Int)) HIV.out hK7 (leaf_txn _))
              rw [show setD s (v + (t : Int)) (leafK1 ⟨#[107]⟩) = (0, putB s (v + (t : Int)) (bs (bytesD knK))) from es.out] at C7
              simp only [errV_0] at C7
              clear S5a hK7 S7 es
              go_wp2_with fail
              refine C7.out.mono ?_
              rintro e w8 ⟨rfl, S8, -⟩
              have C8 := hidS (read_sf S8 (fun _ h => absurd h (by simp)) (v + (t : Int)) HIV.out)
              rw [er.out] at C8
              simp only [errV_0] at C8
              clear C7 S8 er
              go_wp2_with fail
              refine C8.out.mono ?_
              rintro e w9 ⟨ui, uk, ud, uv, ug, rfl, hH9, S9, -⟩
              have hg := hH9 w9 (refl_agree _ _)
              obtain ⟨b, o, cap, rfl, _, _⟩ := leaf_open (k := ⟨#[107]⟩) hg
              obtain ⟨ak, mk, ck, rfl⟩ := hg.keys.slice
              obtain ⟨ad, md, cd, rfl⟩ := hg.kids.slice
              obtain ⟨av, mv, cv, rfl⟩ := hg.vals.slice
              obtain ⟨af, mf, cf, rfl⟩ := hg.free.slice
              rw [show (pageCells knK (.slice (some ⟨b, o, none⟩) 1 cap) (.slice ak mk ck) (.slice ad md cd) (.slice av mv cv) (.slice af mf cf)).toArray = #[.int .i64 1, .slice (some ⟨b, o, none⟩) 1 cap, .slice ak mk ck, .slice ad md cd, .string ⟨#[]⟩, .slice av mv cv, .slice af mf cf, .int .i64 0, .int .u64 0, .int .i64 0, .int .i64 0, .int .i64 0, .int .i64 0, .int .i64 0] from rfl]
              have S9a := hidS (fun ob => S9.alloc ob)
              have hwt : IntKind.i64.wrap ((t : Int) + 1) = (t : Int) + 1 := by have := HK.out; rw [IntKind.wrap_i64]; omega
              clear hH9 hg S9 C8
              go_wp2
              go_roundg g
              case rel => exact ⟨t + 1, _, by omega, by simp, hI2, hidS (S9a.out _)⟩
              case measure => omega
        | succ i =>
          obtain rfl : jj = (i : Int) := by omega
          have d1 : decide ((i : Int) ≥ 0) = true := decide_eq_true (by omega)
          have hw1 : IntKind.i64.wrap ((i : Int) + (K : Int)) = (i : Int) + (K : Int) := by have := HK.out; rw [IntKind.wrap_i64]; omega
          have d2 : decide ((i : Int) + (K : Int) ≤ 16) = okU a0 K i 0 := by
            rw [okU_zero]
            exact decide_eq_decide.2 (by omega)
          have hw3 : IntKind.i64.wrap (2 + (i : Int)) = 2 + (i : Int) := by rw [IntKind.wrap_i64]; omega
          have hw4 : IntKind.i64.wrap ((i : Int) - 1) = (i : Int) - 1 := by rw [IntKind.wrap_i64]; omega
          clear hjj
          replace hg := hidS hg
          go_wp2
          go_loopg [10, 11] K (fun g ok j wr3 => ∃ (t : Nat), t + g = K ∧ ok = .bool (okU a0 K i t) ∧ j = .int .i64 (t : Int) ∧ wr3 = wr)
          case atStart => exact ⟨0, by omega, rfl, rfl, rfl⟩
          case round =>
            obtain ⟨t, ht, rfl, rfl, rfl⟩ := hrel
            clear d1 d2 hw1
            cases gk with
            | zero =>
              have hte : t = K := by omega
              subst hte
              have d3 : decide ((t : Int) < (t : Int)) = false := by simp
              cases hok : okU a0 t i t with
              | true =>
                have hW2 := hidS (want_yes hok (by have := hg.out; omega))
                clear hok hW
                go_wp2
                go_roundg i
                case rel => exact ⟨2 + (i : Int), (i : Int) - 1, rfl, rfl, rfl, by have := hg.out; omega, hW2, rfl⟩
                case measure => omega
              | false =>
                have hW2 := hidS (want_no hok hW.out)
                clear hok hW
                go_wp2
                go_roundg i
                case rel => exact ⟨v, (i : Int) - 1, rfl, rfl, rfl, by have := hg.out; omega, hW2, rfl⟩
                case measure => omega
            | succ g =>
              have d3 : decide ((t : Int) < (K : Int)) = true := decide_eq_true (by omega)
              cases hok : okU a0 K i t with
              | false =>
                have hW2 := hidS (want_no (okU_false hok (by omega)) hW.out)
                clear hok hW
                go_wp2
                go_roundg i
                case rel => exact ⟨v, (i : Int) - 1, rfl, rfl, rfl, by have := hg.out; omega, hW2, rfl⟩
                case measure => omega
              | true =>
                have hok1 : i + K ≤ 16 := by
                  have := hok
                  simp only [okU, Bool.and_eq_true, decide_eq_true_eq] at this
                  exact this.1
                have hw6 : min (IntKind.u64.wrap ((i : Int) + (t : Int))).toNat 16 = i + t := by rw [IntKind.wrap_u64]; omega
                clear hok1
                have hbit : (bits BinOp.and IntKind.u16 (a0 / 2 ^ (i + t)) 1 == 1) = bitB a0 (i + t) := rfl
                have hok2 : okU a0 K i (t + 1) = bitB a0 (i + t) := by rw [okU_succ, hok]; rfl
                replace hok2 := hidS hok2
                clear hok
                go_wp2
                go_roundg g
                case rel => exact ⟨t + 1, by omega, by rw [hok2.out], by go_num, rfl⟩
                case measure => omega
end Go.Proofs.YtpionokcabjokaaGreat
