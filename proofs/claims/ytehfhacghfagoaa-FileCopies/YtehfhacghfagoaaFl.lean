/- FileCopies: a copy goes its own way. -/
import Derived.Test.YtehfhacghfagoaaSa
namespace Go.Proofs.Ytehfhacghfagoaa
open Go.RowKit

theorem FileAt.drewN {w : World} {B fb : Nat} {v : Value} {l : List Sh} (h : FileAt w B fb v l) (n : Nat) : FileAt (w.drewN n) B fb v l := h.kept rfl (fun _ _ => rfl)
/-- A file below block B, behind what is done from B on. -/
theorem FileAt.under {w w' : World} {B B0 fb : Nat} {v : Value} {l : List Sh} (h : FileAt w B0 fb v l) (hs : w.heap.size = B) (hb : Below B w w') : FileAt w' B0 fb v l := by
  subst hs
  exact h.below hb

set_option maxRecDepth 100000 in
set_option maxHeartbeats 8000000 in
theorem copies_law (ss : List ByteArray) (ls : List StepD) (v u : Value) (w : World) (hv : StrsAt w v ss) (hu : StepsAt w u ls) :
    Calls Try.prog 4 #[v, u] w fun e w' => e = .returned (.bool true) ∧ Below w.heap.size w w' := by
  obtain ⟨uo, uc, rfl, hum, hu3⟩ := hu
  have hv0 := hv
  obtain ⟨vo, vc, rfl, ⟨hvm, hvc⟩, hv3⟩ := hv
  unfold maxLen at hum hvm
  replace hu3 := hid hu3
  replace hv3 := hid hv3
  replace hv0 := hid hv0
  by_cases hbig : 30 < ls.length ∨ 20 < ss.length
  · rcases Nat.lt_or_ge 30 ls.length with h30 | h30
    · clear hbig
      go_enter Try.func4, Try.ntmps4
      go_wp2_with fail
      refine (known_any w).mono ?_
      rintro e w1 ⟨rfl, B1⟩
      replace B1 := hid B1
      go_wp2
      go_ret
      exact ⟨rfl, B1.out⟩
    · have h20 : 20 < ss.length := by omega
      clear hbig
      go_enter Try.func4, Try.ntmps4
      go_wp2_with fail
      refine (known_any w).mono ?_
      rintro e w1 ⟨rfl, B1⟩
      replace B1 := hid B1
      go_wp2
      go_ret
      exact ⟨rfl, B1.out⟩
  have h30 : ls.length ≤ 30 := by omega
  have h20 : ss.length ≤ 20 := by omega
  clear hbig
  go_enter Try.func4, Try.ntmps4
  go_wp2_with fail
  refine (known_any w).mono ?_
  rintro e w1 ⟨rfl, B1⟩
  have hv1 := hid (hv0.out.below B1)
  have hle := B1.size
  replace B1 := hid B1
  go_wp2_with fail
  refine (new_any ss _ w1 hv1.out (by omega)).mono ?_
  rintro e w2 ⟨rfl, fv, F2, B2⟩
  have HB2 := hid (bel B1.out B2 hle)
  generalize w1.heap.size = fb at *
  replace F2 := hid F2
  clear B2 B1 hv1 hv0
  go_wp2_with fail
  refine (len_any _ fb fb _ _ F2.out).mono ?_
  rw [newL_length]
  rintro e wx ⟨rfl, rfl⟩
  go_wp2_with fail
  refine (copy_any _ fb fb _ _ F2.out).mono ?_
  rintro e w3 ⟨cb, cv, rfl, hcb, FC3, B3⟩
  have hle2 := HB2.out.size
  have hfl := F2.out.lt
  obtain ⟨N, hN⟩ : ∃ N, wx.heap.size = N := ⟨_, rfl⟩
  rw [hN] at FC3 B3 hcb hle2
  replace hN := hid hN
  replace FC3 := hid FC3
  replace B3 := hid B3
  go_wp2
  go_loopg [8] ls.length (fun g i wr => ∃ (k : Nat) (dv : Value) (dl : List Sh), k + g = ls.length ∧ i = .int .i64 k ∧ Hid (FileAt wr N cb dv dl) ∧ Hid (Below N wx wr))
  case atStart => exact ⟨0, cv, _, by omega, rfl, FC3, B3⟩
  case round =>
    obtain ⟨k, dv, dl, hk, rfl, hf, hb⟩ := hrel
    clear FC3 B3
    have HBw := hid (HB2.out.trans (hb.out.mono (by omega)))
    cases gk with
    | succ g =>
      have hlk : k < ls.length := by omega
      obtain ⟨b, o, xu, ha, hbl, hr, hkp, _⟩ := hu3.out k hlk
      have hx := atSteps (len := ls.length) (cap := uc) (b := b) (o := o) k ha hlk
      have hrr := range_below hr ((HBw.out)) hbl
      obtain ⟨c0, c1, c2, c3⟩ := range4 hrr
      have hKP := hid (hkp.below HBw.out)
      generalize ls[k] = x at *
      obtain ⟨xw, xp, xs, xk⟩ := x
      have hws := hb.out.size
      rw [hN.out] at hws
      obtain ⟨ko, kc, rfl, ⟨hkm, _⟩, _⟩ := hkp
      unfold maxLen at hkm
      clear hr hrr ha
      simp only [] at *
      by_cases hq : 500 < xk.length
      · go_wp2
        go_ret
        exact ⟨rfl, HBw.out.alloc (by omega) _⟩
      by_cases hq2 : 60 < xp ∧ xp < 1000000
      · obtain ⟨hq2, hq3⟩ := hq2
        go_wp2
        go_ret
        exact ⟨rfl, HBw.out.alloc (by omega) _⟩
      have HF := hid (hf.out.alloc (.cells #[.int .i64 xw, .int .i64 xp, .string xs, .slice ko xk.length kc] 31))
      replace hq : xk.length ≤ 500 := by omega
      have hq3 : xp ≤ 60 ∨ 1000000 ≤ xp := by omega
      clear hq2
      rcases hq3 with hq2 | hq2
      all_goals
        by_cases hw5 : xw ≤ 5
        · go_wp2_with fail
          · refine (write_int _ N cb _ _ xp xs HF.out).mono ?_
            rintro e w4 ⟨rfl, dv', F', O'⟩
            have HB' := hid ((hb.out.alloc (by omega) _).trans (O'.below HF.out))
            replace F' := hid F'
            clear O' HF hb hf HBw hKP
            go_wp2
            go_roundg g
            case rel => exact ⟨k + 1, _, _, by omega, by go_num, F', HB'⟩
            case measure => omega
        · by_cases hw6 : xw = 6
          · subst hw6
            go_wp2_with fail
            refine (sync_any _ N cb _ _ HF.out).mono ?_
            rintro e w4 ⟨rfl, F', O'⟩
            have HB' := hid ((hb.out.alloc (by omega) _).trans (O'.below HF.out))
            replace F' := hid F'
            clear O' HF hb hf HBw hKP
            go_wp2
            go_roundg g
            case rel => exact ⟨k + 1, _, _, by omega, by go_num, F', HB'⟩
            case measure => omega
          · have hw7 : (xw == 6) = false := by simpa using hw6
            have hKX := hKP.out.below ((Below.refl _ wr).alloc (Nat.le_refl _) (.cells #[.int .i64 xw, .int .i64 xp, .string xs, .slice ko xk.length kc] 31))
            replace hKX := hid hKX
            go_wp2_with fail
            refine (power_any _ N cb _ _ _ xk HF.out hKX.out).mono ?_
            rintro e w4 ⟨rfl, dv', F', O'⟩
            have HB' := hid ((hb.out.alloc (by omega) _).trans (O'.below HF.out))
            replace F' := hid F'
            clear O' HF hb hf HBw hKP
            go_wp2
            go_roundg g
            case rel => exact ⟨k + 1, _, _, by omega, by go_num, F', HB'⟩
            case measure => omega
    | zero =>
      have hke : k = ls.length := by omega
      subst hke
      have FW := hid (F2.out.under hN.out hb.out)
      have hss := hid (fun (k : Nat) (h : k < ss.length) => (hv3.out k h))
      clear hf hb HB2 F2 hu3 hv3
      go_wp2
      go_loopg [10] ss.length (fun g i wq => ∃ (k : Nat), k + g = ss.length ∧ i = .int .i64 k ∧ Hid (FileAt wq fb fb fv (newL ss)) ∧ Hid (Below w.heap.size w wq))
      case atStart => exact ⟨0, by omega, rfl, FW, HBw⟩
      case round =>
        obtain ⟨k, hk, rfl, hf, hb⟩ := hrel
        clear FW HBw
        cases gk with
        | succ g =>
          have hkm : k < ss.length := by omega
          obtain ⟨a, ha, hcell, _⟩ := hss.out k hkm
          have hx := index_at (len := ss.length) (cap := vc) Try.elemStrs Try.sizeStrs k ha hkm
          have hcs : wr.cell? (a.add k) = some (.string ss[k]) := (hb.out.cell (p := a.add k) (World.block_lt_of_cell? w _ hcell)).trans hcell
          have hR := hid (fun n => read_any (wr.drewN n) fb fb _ _ (k : Int) (hf.out.drewN n))
          rw [newL_read ss k hkm] at hR
          generalize ss[k] = s at *
          clear hcell ha
          go_wp2_with fail
          go_quiet ((go_at_call 20; refine Calls.quiet_of_same (hR.out _)))
          go_wp2
          go_roundg g
          case rel => exact ⟨k + 1, by omega, by go_num, hf.out.drewN nq, hb.out.trans ((below_draws wr nq).mono hb.out.size)⟩
          case measure => omega
        | zero =>
          have hke : k = ss.length := by omega
          subst hke
          go_wp2_with fail
          refine (len_any _ fb fb _ _ hf.out).mono ?_
          rw [newL_length]
          rintro e w6 ⟨rfl, rfl⟩
          go_wp2_with fail
          refine (loose_any _ fb fb _ _ hf.out).mono ?_
          rw [newL_loose]
          rintro e w7 ⟨lv, rfl, OL, B7⟩
          obtain ⟨lo, lc, rfl⟩ := OL.slice
          have HB7 := hid (bel hb.out B7 hb.out.size)
          clear OL B7 hb hf
          go_wp2
          go_ret
          exact ⟨rfl, HB7.out⟩
end Go.Proofs.Ytehfhacghfagoaa
