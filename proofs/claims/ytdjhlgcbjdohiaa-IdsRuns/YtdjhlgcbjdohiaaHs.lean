/- IdsRuns: where numbers stand side by side a run of as many is found, the first one; taken away, it isn't there. -/
import Derived.Test.YtdjhlgcbjdohiaaHr
namespace Go.Proofs.Ytdjhlgcbjdohiaa
open Go.RowKit

theorem Runs.fit {k : Nat} {L : List Int} {at0 want : Int} {r : Nat} (h : Runs k L at0 want r) (hr : r ≤ 20) : Fit L := fun x hx => by
  have h1 := h.lo x hx
  have h2 := h.below x hx
  have h3 := h.most
  omega
/-- What Run tells of such a row. -/
theorem Runs.tells {k : Nat} {L : List Int} {at0 want x : Int} {ok : Bool} {r : Nat} (h : Runs k L at0 want r) (hk : 1 ≤ k) (hr : RunIs L k x ok) : (want < 0 → ok = false) ∧ (¬ want < 0 → ok = true ∧ x = want ∧ RunAt L k x) := by
  rcases hr.sets h.up hk with ⟨rfl, h1, h2⟩ | ⟨rfl, h1⟩
  · refine ⟨fun hw => absurd h1 ((h.no hw).2 x), fun hw => ⟨rfl, ?_, h1⟩⟩
    obtain ⟨e1, e2⟩ := h.yes (by omega)
    rcases Int.lt_trichotomy x want with e | e | e
    · exact absurd h1 (e2 x e)
    · exact e
    · exact absurd e1 (h2 want e)
  · refine ⟨fun _ => rfl, fun hw => absurd (h.yes (by omega)).1 (h1 want)⟩

set_option maxRecDepth 100000 in
set_option maxHeartbeats 8000000 in
theorem runs_law (l : List Int) (a1 : Int) (v0 : Value) (w : World) (h0 : BytesAt w v0 l) (h1 : 0 ≤ a1) (h2 : a1 ≤ 255) :
    Calls Try.prog 4 #[v0, .int .u8 a1] w fun e w' => e = .returned (.bool true) ∧ Below w.heap.size w w' := by
  obtain ⟨ao, cap, rfl, hlm, hcs⟩ := h0
  unfold maxLen at hlm
  obtain ⟨i0, hi, hz0, hz1, hz2⟩ := info_parts Try.infoInt
  obtain ⟨a, rfl⟩ : ∃ a : Nat, a1 = (a : Int) := ⟨a1.toNat, by omega⟩
  obtain ⟨q, hq⟩ : ∃ q : Nat, a % 5 = q := ⟨_, rfl⟩
  have hq5 : q < 5 := by omega
  have hqi : (a : Int) % 5 = (q : Int) := by omega
  clear h1 h2 hq
  replace hcs := hid hcs
  go_enter Try.func4, Try.ntmps4
  go_wp2_with fail
  refine (known_any w).mono ?_
  rintro e w0 ⟨rfl, B0⟩
  replace B0 := hid B0
  by_cases hl : 20 < l.length
  · have hd : decide ((20 : Int) < (l.length : Int)) = true := by simp; omega
    go_wp2
    go_ret
    exact ⟨rfl, B0.out⟩
  have hd : decide ((20 : Int) < (l.length : Int)) = false := by simp; omega
  have hl20 : l.length ≤ 20 := by omega
  clear hlm
  go_wp2
  clear hqi
  go_loopg [5, 6, 7, 9] l.length (fun g vr va vw j wr => ∃ (k : Nat) (L : List Int) (A want : Int) (ro : Option Addr) (cr : Nat), k + g = l.length ∧ vr = .slice ro L.length cr ∧ va = .int .i64 A ∧ vw = .int .i64 want ∧ j = .int .i64 (k : Int) ∧ Hid (Runs (q + 1) L A want k) ∧ Hid (OwnInts wr w.heap.size (.slice ro L.length cr) L) ∧ Hid (Below w.heap.size w wr))
  case atStart => exact ⟨0, [], 2, -1, none, 0, by omega, rfl, rfl, rfl, rfl, hid (runs_zero _ (by omega)), hid (OwnInts.nil _ _), B0⟩
  case round =>
    obtain ⟨k, L, A, want, ro, cr, hk, rfl, rfl, rfl, rfl, hN, hL, hbel⟩ := hrel
    clear B0
    cases gk with
    | succ g =>
      have hkl : k < l.length := by omega
      obtain ⟨pa, ha, hce, hb0, hb1⟩ := hcs.out k hkl
      have hx := index_at (len := l.length) (cap := cap) Try.elemU8s Try.sizeU8s k ha hkl
      obtain ⟨b, hb⟩ : ∃ b : Nat, l[k] = (b : Int) := ⟨l[k].toNat, by omega⟩
      rw [hb] at hce hb0 hb1
      have hab : (pa.add k).block < w.heap.size := World.block_lt_of_cell? w _ hce
      have hcell : wr.cell? (pa.add k) = some (.int .u8 (b : Int)) := (hbel.out.cell (p := pa.add k) hab).trans hce
      obtain ⟨m, hm⟩ : ∃ m : Nat, b % 6 = m := ⟨_, rfl⟩
      have hm6 : m < 6 := by omega
      have hmi : (b : Int) % 6 = (m : Int) := by omega
      obtain ⟨d, hdv⟩ : ∃ d : Nat, b / 64 = d := ⟨_, rfl⟩
      have hd4 : d < 4 := by omega
      have hdi : (b : Int) / 64 = (d : Int) := by omega
      have hnx := hid (hN.out.next (by omega) m d hm6 hd4)
      have hA0 := hN.out.two
      have hA1 := hN.out.most
      have hLl := hN.out.len
      have hwA : ∀ j : Nat, j < 6 → IntKind.i64.wrap (A + (j : Int)) = A + (j : Int) := fun j hj => wrap_i _ (by omega) (by omega)
      have hwm := hwA m hm6
      have hwm1 : IntKind.i64.wrap (A + (m : Int) + 1) = A + (m : Int) + 1 := wrap_i _ (by omega) (by omega)
      have hwm2 : IntKind.i64.wrap (A + (m : Int) + 1 + (d : Int)) = A + (m : Int) + 1 + (d : Int) := wrap_i _ (by omega) (by omega)
      have hLk : L.length ≤ 100 := by omega
      have hcW : Hid (∀ Z, Below w.heap.size w Z → Z.cell? (pa.add k) = some (.int .u8 (b : Int))) := hid (fun Z hZ => (hZ.cell (p := pa.add k) hab).trans hce)
      replace hwA := hid hwA
      clear ha hb hce hb0 hb1 hm hdv hN hA0 hA1 hLl hab
      go_wp2
      clear hmi
      go_loopg [5, 11] m (fun gg vr j wq => ∃ (i : Nat) (so : Option Addr) (cs : Nat), i + gg = m ∧ vr = .slice so (L ++ upTo A i).length cs ∧ j = .int .i64 (i : Int) ∧ Hid (OwnInts wq w.heap.size (.slice so (L ++ upTo A i).length cs) (L ++ upTo A i)) ∧ Hid (Below w.heap.size w wq))
      case atStart => exact ⟨0, ro, cr, by omega, by simp [upTo_zero], rfl, hid (by simpa [upTo_zero] using hL.out), hbel⟩
      case round =>
        obtain ⟨i, so, cs, him, rfl, rfl, hL2, hbel2⟩ := hrel
        clear hL hbel hcell
        have hcell := hcW.out wr hbel2.out
        cases gk with
        | succ gg =>
          have hw := hwA.out i (by omega)
          have hlt : decide ((i : Int) < (m : Int)) = true := by simp; omega
          have hS : L ++ upTo A (i + 1) = (L ++ upTo A i) ++ [A + (i : Int)] := by rw [upTo_succ, List.append_assoc]
          have hlen : (L ++ upTo A i).length ≤ 106 := by rw [List.length_append, upTo_length]; omega
          generalize L ++ upTo A i = M at *
          replace hS := hid hS
          have bA := hid (below_new hbel2.out (.cells #[.int .i64 (A + (i : Int))] 3))
          have A1 := hid (append_one i0 hi hz0 hz1 hz2 (w0 := w) _ M (A + (i : Int)) (hL2.out.alloc (.cells #[.int .i64 (A + (i : Int))] 3)) _ (heap_newL _ _) bA.out (by have := hbel2.out.size; simp; omega) (by omega))
          clear hcell hnx
          go_wp2_with (first
            | (at_builtin; refine wpList_append_any rfl (.tmp 41) (.tmp 45) 22 rfl _ _ rfl rfl (A1.out _) ?_; rintro v1 w1 ⟨⟨ra, rc, rfl⟩, h1, b1⟩; replace h1 := hid h1; replace b1 := hid b1)
            | fail)
          go_roundg gg
          case rel =>
            refine ⟨i + 1, ra, rc, by omega, by rw [hS.out]; simp, by go_num, hid ?_, b1⟩
            rw [hS.out]
            simpa using h1.out
          case measure => omega
        | zero =>
          have him2 : i = m := by omega
          subst him2
          have hlt : decide ((i : Int) < (i : Int)) = false := by simp
          generalize hM : L ++ upTo A i = M at *
          clear hM hcW
          by_cases hc1 : q + 1 ≤ i
          · have hk1 : decide ((q : Int) + 1 ≤ (i : Int)) = true := by simp; omega
            by_cases hc2 : want < 0
            · have hnx2 := hnx.out
              rw [if_pos ⟨hc1, hc2⟩] at hnx2
              replace hnx2 := hid hnx2
              clear hnx
              go_wp2
              go_roundg g
              case rel => exact ⟨k + 1, M, A + (i : Int) + 1 + (d : Int), A, so, cs, by omega, rfl, by go_num, rfl, by go_num, hnx2, hL2, hbel2⟩
              case measure => omega
            · have hnx2 := hnx.out
              rw [if_neg (fun h => hc2 h.2)] at hnx2
              replace hnx2 := hid hnx2
              clear hnx
              go_wp2
              go_roundg g
              case rel => exact ⟨k + 1, M, A + (i : Int) + 1 + (d : Int), want, so, cs, by omega, rfl, by go_num, rfl, by go_num, hnx2, hL2, hbel2⟩
              case measure => omega
          · have hk1 : decide ((q : Int) + 1 ≤ (i : Int)) = false := by simp; omega
            have hnx2 := hnx.out
            rw [if_neg (fun h => hc1 h.1)] at hnx2
            replace hnx2 := hid hnx2
            clear hnx
            go_wp2
            go_roundg g
            case rel => exact ⟨k + 1, M, A + (i : Int) + 1 + (d : Int), want, so, cs, by omega, rfl, by go_num, rfl, by go_num, hnx2, hL2, hbel2⟩
            case measure => omega
    | zero =>
      have hke : k = l.length := by omega
      have hfit := hid (hN.out.fit (by omega))
      have hup := hid hN.out.up
      have hLl := hN.out.len
      obtain ⟨uo, uc, hu, hR⟩ := RowAt.own hL.out
      simp only [Value.slice.injEq, true_and] at hu
      obtain ⟨rfl, rfl⟩ := hu
      replace hR := hid hR
      subst hke
      clear hcs hL
      have hLl2 : L.length ≤ 100 := by omega
      clear hLl
      go_wp2_with fail
      refine (run_any7 L ((q : Int) + 1) ro cr _ rfl wr hR.out (by omega) hfit.out hup.out (by omega)).mono ?_
      rw [show ((q : Int) + 1).toNat = q + 1 by omega]
      rintro e w2 ⟨x, ok, rfl, hrun, b2⟩
      obtain ⟨t1, t2⟩ := hN.out.tells (by omega) hrun
      have hR2 := hid (hR.out.call b2)
      have HB2 := hid (below_call hbel.out b2)
      clear b2 hR hbel hN hrun
      by_cases hw : want < 0
      · have hok := t1 hw
        subst hok
        clear t1 t2
        go_wp2
        go_ret
        exact ⟨rfl, HB2.out⟩
      · obtain ⟨rfl, rfl, hat⟩ := t2 hw
        have g1 := run_gone hup.out hat
        have g2 := hid (run_gone_has L x (k := q + 1) (by omega))
        have g3 := hid (dropL_up L x ((q + 1 : Nat) : Int) hup.out)
        have hx0 : Hid (-9223372036854775808 ≤ x) := hid (by omega)
        clear t1 t2
        rw [show ((q + 1 : Nat) : Int) = (q : Int) + 1 by omega] at g1 g2 g3
        replace hat := hid hat
        go_wp2_with fail
        refine (drop_any7 L x ((q : Int) + 1) ro cr _ rfl w2 hR2.out (by omega) hfit.out hx0.out (by omega)).mono ?_
        generalize dropL L x ((q : Int) + 1) = D at *
        rintro e w3 ⟨u, rfl, hu, b3⟩
        obtain ⟨do1, dc1, rfl, hD⟩ := RowAt.own hu
        have HB3 := hid (below_call HB2.out b3)
        replace hD := hid hD
        have e4 : ((D.length : Int) == (L.length : Int) - ((q : Int) + 1)) = true := by simp; omega
        have hw5 : IntKind.i64.wrap ((L.length : Int) - ((q : Int) + 1)) = (L.length : Int) - ((q : Int) + 1) := wrap_i _ (by omega) (by omega)
        have hD100 : D.length ≤ 1000 := by omega
        replace g1 := hid g1
        clear hu b3 HB2 hR2
        go_wp2_with fail
        refine (has_any7 D x do1 dc1 _ rfl _ hD.out hD100 g3.out).mono ?_
        rw [g2.out]
        rintro e w4 ⟨rfl, b4⟩
        have hD4 := hid (hD.out.call b4)
        have HB4 := hid (below_call HB3.out b4)
        clear b4 hD HB3
        go_wp2_with fail
        refine (is_any D do1 dc1 _ rfl _ hD4.out hD100).mono ?_
        rw [isUp_true.2 g3.out]
        rintro e w5 ⟨rfl, b5⟩
        have HB5 := hid (below_call HB4.out b5)
        clear b5 hD4 HB4
        go_wp2
        go_ret
        exact ⟨rfl, HB5.out⟩
end Go.Proofs.Ytdjhlgcbjdohiaa
