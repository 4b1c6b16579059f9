/- ProcsPlays: every row of spawns, kills, losses of power: each number, each error, who lives, behind each, as the reference has it. -/
import Derived.Test.YteafananeopigaaYs
import Derived.Deep.DeepCutAuto
import Derived.Deep.RegionHeld3
namespace Go.Proofs.Yteafananeopigaa
open Go.RowKit

set_option maxRecDepth 100000 in
set_option maxHeartbeats 8000000 in
theorem plays_law (l : List Int) (v0 : Value) (w : World) (h0 : IntsAt w v0 l) :
    Calls Try.prog 3 #[v0] w fun e w' => e = .returned (.bool true) ∧ Below w.heap.size w w' := by
  obtain ⟨ao, cap, rfl, hlm, h3⟩ := h0
  unfold maxLen at hlm
  have hnil := Try.eqNilNil
  have he25 := Try.eqNil25
  have he26 := Try.eqNil26
  replace h3 := hid h3
  go_enter Try.func3, Try.ntmps3
  go_wp2_with fail
  refine (known_any w).mono ?_
  rintro e w0 ⟨rfl, B0⟩
  replace B0 := hid B0
  by_cases hl : 100 < l.length
  · go_wp2
    go_ret
    exact ⟨rfl, B0.out⟩
  go_wp2_with fail
  refine (new_any w0).mono ?_
  rintro e w1 ⟨rfl, F1, B1⟩
  have hbel := B0.out.trans (B1.mono B0.out.size)
  have hb0 := B0.out.size
  have hb1 := B1.size
  have BA := (Below.refl w1.heap.size w1).alloc (Nat.le_refl _) (.cells #[.slice none 0 0, .int .i64 0] 28)
  have N0 : Bo w (w1.alloc (.cells #[.slice none 0 0, .int .i64 0] 28)) w0.heap.size (w0.heap.size + 1) w1.heap.size (.slice none 0 0) (.slice none 0 0) 0 [] 0 [] :=
    ⟨F1.below BA, ⟨heap_newL _ _, hb1, OwnInts.nil _ _⟩, by simp [Value.ownBlock], bel hbel BA hbel.size, hb0⟩
  replace N0 := hid N0
  clear B1 B0 F1 hbel BA
  generalize w0.heap.size = cb at *
  generalize cb + 1 = pb at *
  go_wp2
  generalize w1.alloc (.cells #[.slice none 0 0, .int .i64 0] 28) = w2 at *
  generalize w1.heap.size = rb at *
  go_loopg [5] l.length (fun g i wr => ∃ (k : Nat) (v u : Value) (la : Int) (L : List Int), k + g = l.length ∧ i = .int .i64 k ∧ la ≤ k ∧ Hid (Bo w wr cb pb rb v u la L la L))
  case atStart => exact ⟨0, _, _, _, _, by omega, rfl, by omega, N0⟩
  case round =>
    obtain ⟨k, v, u, la, L, hk, rfl, hla, hn⟩ := hrel
    clear N0
    cases gk with
    | zero =>
      have hke : k = l.length := by omega
      subst hke
      go_wp2
      go_ret
      exact ⟨rfl, hn.out.bel⟩
    | succ g =>
      have hlk : k < l.length := by omega
      obtain ⟨a, ha, hce⟩ := h3.out k hlk
      have hx := index_at (len := l.length) (cap := cap) Try.elemInts Try.sizeInts k ha hlk
      obtain ⟨x, hxl⟩ : ∃ x, l[k] = x := ⟨_, rfl⟩
      rw [hxl] at hce
      have hab : (a.add k).block < w.heap.size := World.block_lt_of_cell? w _ hce
      have hce2 := (hn.out.bel.cell (p := a.add k) hab).trans hce
      replace hce := hid hce
      replace hxl := hid hxl
      clear ha
      go_upto_region 7 with fail
      iterate 20 (try go_step)
      iterate 3 go_step
      go_cut [] (fun wc => ∃ (v' u' : Value) (la' : Int) (L' : List Int), la' ≤ (k : Int) + 1 ∧ Hid (Bo w wc cb pb rb v' u' la' L' la' L'))
      case first =>
        have hL64 := hn.out.p.len
        have hlo := hn.out.p.lo
        by_cases hx0 : x = 0
        · subst hx0
          by_cases hfull : L.length = 64
          · go_wp2_with fail
            refine (spawn_full _ cb pb cb _ _ L hn.out.p hfull).mono ?_
            rintro e w4 ⟨rfl, rfl⟩
            go_wp2_with fail
            refine (rspawn_full _ cb rb _ _ L hn.out.r hfull).mono ?_
            rintro e w5 ⟨rfl, rfl⟩
            go_wp2
            go_meet
            case rel => exact ⟨_, _, _, _, by omega, hn⟩
          · go_wp2_with fail
            refine (spawn_any _ cb pb cb _ _ L hn.out.p (by omega) (by omega)).mono ?_
            rintro e w4 ⟨rfl, v4, F4, O4⟩
            have N4 := hid (hn.out.po F4 O4)
            clear F4 O4 hn
            go_wp2_with fail
            refine (rspawn_any _ cb rb _ _ L N4.out.r (by omega) (by omega) (by omega)).mono ?_
            rintro e w5 ⟨rfl, u5, R5, G5, g5⟩
            have N5 := hid (N4.out.ro R5 G5 g5)
            clear R5 G5 g5 N4
            go_wp2
            go_meet
            case rel => exact ⟨_, _, _, _, by omega, N5⟩
        · have hx0b : (x == 0) = false := by simpa using hx0
          by_cases hx1 : x = -1
          · subst hx1
            go_wp2_with fail
            refine (power_any _ cb pb cb _ _ _ L hn.out.p).mono ?_
            rintro e w4 ⟨rfl, F4, O4⟩
            have N4 := hid (hn.out.po (l' := []) F4 O4)
            have c4 := cell_rowL N4.out.r.obj
            have z4 := frozen_rowL N4.out.r.obj
            have l4 := N4.out.r.lt
            have N5 := hid (N4.out.ro (N4.out.r.put0 (w' := w4) rfl (OwnInts.nil _ _)) (grown_setCell w4 rb 0 (.slice none 0 0)) (by simp [Value.ownBlock]))
            obtain ⟨au, cu, hu⟩ := N4.out.r.row.slice
            subst hu
            clear F4 O4 hn N4
            go_wp2
            go_meet
            case rel => exact ⟨_, _, _, _, by omega, N5⟩
          · have hx1b : (x == -1) = false := by simpa using hx1
            have NH : Hid (Bo w wr.drew cb pb rb v u la L la L) := hid (hn.out.below ⟨rfl, rfl, rfl, Nat.le_refl _, fun _ _ => rfl⟩)
            by_cases hmem : x ∈ L
            · replace hmem := hid hmem
              clear hn
              go_wp2_with fail
              go_region_held3 (fun w' => w'.cell? (a.add k) = some (.int .i64 x)) (first | exact (NH.out.bel.cell (p := a.add k) hab).trans hce.out | go_keep) (first
                | (go_at_call 11; refine (kill_any _ cb pb cb _ _ x L NH.out.p hmem.out).mono ?_; rintro e wf ⟨rfl, v', F', O'⟩; have NH := hid (NH.out.po F' O'); clear F' O')
                | (go_at_call 12; refine (rkill_any _ cb rb _ _ x L NH.out.r (by omega) hmem.out).mono ?_; rintro e wg ⟨rfl, u', R', G', g'⟩; have NH := hid (NH.out.ro R' G' g'); clear R' G' g'))
              all_goals go_wp2
              all_goals go_meet
              case rel => exact ⟨_, _, _, _, by omega, NH⟩
            · replace hmem := hid hmem
              clear hn
              go_wp2_with fail
              go_region_held3 (fun w' => w'.cell? (a.add k) = some (.int .i64 x)) (first | exact (NH.out.bel.cell (p := a.add k) hab).trans hce.out | go_keep) (first
                | (go_at_call 11; refine (kill_not _ cb pb cb _ _ _ x L NH.out.p hmem.out).mono ?_; rintro e wf ⟨rfl, B'⟩; have NH := hid (NH.out.below B'); clear B')
                | (go_at_call 12; refine (rkill_not _ cb rb _ _ x L NH.out.r (by omega) hmem.out).mono ?_; rintro e wg ⟨rfl, rfl⟩))
              all_goals go_wp2
              all_goals go_meet
              case rel => exact ⟨_, _, _, _, by omega, NH⟩
      case rest =>
        obtain ⟨v', u', la', L', hla', hB⟩ := hcut
        clear hn hce2
        have hL64 := hB.out.p.len
        have NH : Hid (Bo w wc.drew cb pb rb v' u' la' L' la' L') := hid (hB.out.below ⟨rfl, rfl, rfl, Nat.le_refl _, fun _ _ => rfl⟩)
        obtain ⟨au, cu, hu⟩ := hB.out.r.row.slice
        subst hu
        have c0 := cell_rowL hB.out.r.obj 0
        have c1 := cell_rowL hB.out.r.obj 1
        simp only [List.getElem?_toArray, List.getElem?_cons_zero, List.getElem?_cons_succ] at c0 c1
        have cx := (hB.out.bel.cell (p := a.add k) hab).trans hce.out
        obtain ⟨f, hf⟩ : ∃ f : Int → Bool, ∀ y, L'.contains y = f y := ⟨fun y => L'.contains y, fun _ => rfl⟩
        have P1 : Hid (∀ W v n y, ProcsAt W cb pb cb v la' L' n → Calls Try.prog 15 #[.pointer (some ⟨pb, 0, none⟩), .int .i64 y] W fun e w' => e = .returned (.bool (f y)) ∧ Below W.heap.size W w') := hid (fun W v n y h => hf y ▸ lives_any W cb pb cb n v la' y L' h)
        have R1 : Hid (∀ W u y, RpAt W cb rb u la' L' → Calls Try.prog 16 #[.pointer (some ⟨rb, 0, none⟩), .int .i64 y] W fun e w' => e = .returned (.bool (f y)) ∧ w' = W) := hid (fun W u y h => hf y ▸ rlives_any W cb rb u la' y L' h (by omega))
        clear hB hf
        go_wp2_with fail
        go_region_held3 (fun w' => w'.cell? ⟨rb, 0, none⟩ = some (.slice au L'.length cu) ∧ w'.cell? ⟨rb, 1, none⟩ = some (.int .i64 la') ∧ w'.cell? (a.add k) = some (.int .i64 x)) (first | exact ⟨cell_rowL NH.out.r.obj 0, cell_rowL NH.out.r.obj 1, (NH.out.bel.cell (p := a.add k) hab).trans hce.out⟩ | go_keep) (first
          | (go_at_call 14; refine (all_any _ cb pb cb _ _ _ _ NH.out.p).mono ?_; rintro e wf ⟨lv, rfl, OL, BL⟩; have NH := hid (NH.out.below BL); obtain ⟨xo, xc, hlv⟩ := OL.slice; subst hlv; replace OL := hid OL; clear BL)
          | (go_at_call 13; refine (refSameInts_any L' L' _ _ _ (OL.out.at (by unfold maxLen; omega)) (NH.out.r.row.at (by unfold maxLen; omega))).mono ?_; rw [decide_eq_true rfl]; rintro e wf ⟨rfl, BL⟩; have NH := hid (NH.out.below BL); clear BL)
          | (go_at_call 15; refine (P1.out _ _ _ _ NH.out.p).mono ?_; rintro e wf ⟨rfl, BL⟩; have NH := hid (NH.out.below BL); clear BL)
          | (go_at_call 16; refine (R1.out _ _ _ NH.out.r).mono ?_; rintro e wf ⟨rfl, rfl⟩))
        all_goals go_wp2
        all_goals go_roundg g
        case rel => exact ⟨k + 1, _, _, _, _, by omega, by go_num, by omega, NH⟩
        case measure => omega
end Go.Proofs.Yteafananeopigaa
