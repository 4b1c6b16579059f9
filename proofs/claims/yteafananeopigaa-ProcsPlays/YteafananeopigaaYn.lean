/- ProcsNever: a number that was is never again, whoever dies, however often power is lost. -/
import Derived.Test.YteafananeopigaaYk
import Derived.Test.YteafananeopigaaYw
import Derived.Test.YteafananeopigaaYh
namespace Go.Proofs.Yteafananeopigaa
open Go.RowKit

theorem withL_top : ∀ (l : List Int) (n : Int), (∀ x ∈ l, x < n) → withL l n = l ++ [n]
  | [], n, _ => rfl
  | x :: l, n, h => by
    have hx : x < n := h x (by simp)
    rw [withL, if_neg (by omega), if_neg (by omega), withL_top l n (fun y hy => h y (by simp [hy]))]
    rfl
/-- A slice of bytes. -/
def BytesAt (w : World) (v : Value) (l : List Int) : Prop :=
  ∃ ao cap, v = .slice ao l.length cap ∧ l.length ≤ maxLen ∧ ∀ i (h : i < l.length), ∃ a, ao = some a ∧ w.cell? (a.add i) = some (.int .u8 l[i]) ∧ 0 ≤ l[i] ∧ l[i] < 256
theorem Try.elemU8s : Try.prog.underlying 44 = some (.slice (Try.prog.elem 44)) := by kernel_rfl
theorem Try.sizeU8s (w : World) : (Go.sizeOf (Try.prog.elem 44)).run Try.prog w = .ok 1 w := by kernel_rfl
/-- Who lives, and a row beside it that has the same numbers. -/
structure Nv (w0 w : World) (cb pb : Nat) (v u : Value) (k : Nat) (L : List Int) : Prop where
  p : ProcsAt w cb pb cb v k L L.length
  row : OwnInts w cb u L
  ne : ∀ g, u.ownBlock = some g → v.ownBlock ≠ some g
  bel : Below w0.heap.size w0 w
  base : w0.heap.size ≤ cb
theorem Nv.below {w0 w w' : World} {cb pb k : Nat} {v u : Value} {L : List Int} (h : Nv w0 w cb pb v u k L) (hb : Below w.heap.size w w') : Nv w0 w' cb pb v u k L :=
  ⟨h.p.below hb, h.row.below hb, h.ne, _root_.Go.Proofs.Yteafananeopigaa.bel h.bel hb h.bel.size, h.base⟩
theorem Nv.len {w0 w : World} {cb pb k : Nat} {v u : Value} {L : List Int} (h : Nv w0 w cb pb v u k L) : L.length ≤ 64 := h.p.len
/-- The object's own method has run, the other row is as it was. -/
theorem po_ne {pb cb : Nat} {w w' : World} {v v' u : Value} (ho : Po pb cb w v w' v') (hu : ∀ g, u.ownBlock = some g → g < w.heap.size) (h : ∀ g, u.ownBlock = some g → v.ownBlock ≠ some g) : ∀ g, u.ownBlock = some g → v'.ownBlock ≠ some g := by
  intro g h1 h2
  rcases ho.row g h2 with h3 | h3
  · exact h g h1 h3
  · have := hu g h1
    omega

set_option maxRecDepth 100000 in
set_option maxHeartbeats 4000000 in
theorem never_law (l : List Int) (v0 : Value) (w : World) (h0 : BytesAt w v0 l) :
    Calls Try.prog 5 #[v0] w fun e w' => e = .returned (.bool true) ∧ Below w.heap.size w w' := by
  obtain ⟨ao, cap, rfl, hlm, h3⟩ := h0
  unfold maxLen at hlm
  have hnil := Try.eqNilNil
  replace h3 := hid h3
  go_enter Try.func5, Try.ntmps5
  go_wp2_with fail
  refine (known_any w).mono ?_
  rintro e w0 ⟨rfl, B0⟩
  replace B0 := hid B0
  by_cases hl : 60 < l.length
  · go_wp2
    go_ret
    exact ⟨rfl, B0.out⟩
  go_wp2_with fail
  refine (new_any w0).mono ?_
  rintro e w1 ⟨rfl, F1, B1⟩
  have N0 : Nv w w1 w0.heap.size (w0.heap.size + 1) (.slice none 0 0) (.slice none 0 0) 0 [] := ⟨F1, OwnInts.nil _ _, by simp [Value.ownBlock], B0.out.trans (B1.mono B0.out.size), B0.out.size⟩
  replace N0 := hid N0
  clear B1 B0 F1
  generalize w0.heap.size = cb at *
  generalize cb + 1 = pb at *
  go_wp2
  go_loopg [4, 5, 6] l.length (fun g la u i wr => ∃ (k : Nat) (v : Value) (L : List Int), k + g = l.length ∧ la = .int .i64 k ∧ i = .int .i64 k ∧ L.length ≤ k ∧ Hid (Nv w wr cb pb v u k L))
  case atStart => exact ⟨0, _, [], by omega, rfl, rfl, by simp, N0⟩
  case round =>
    obtain ⟨k, v, L, hk, rfl, rfl, hLk, hn⟩ := hrel
    clear N0
    cases gk with
    | zero =>
      have hke : k = l.length := by omega
      subst hke
      go_wp2
      go_ret
      exact ⟨rfl, hn.out.bel⟩
    | succ g =>
      have hlk : k < l.length := by omega
      have hw : IntKind.i64.wrap ((k : Int) + 1) = (k : Int) + 1 := by rw [IntKind.wrap_i64]; omega
      obtain ⟨a, ha, hce, hb0, hb1⟩ := h3.out k hlk
      have hx := index_at (len := l.length) (cap := cap) Try.elemU8s Try.sizeU8s k ha hlk
      obtain ⟨b, hb⟩ : ∃ b : Nat, l[k] = (b : Int) := ⟨l[k].toNat, by omega⟩
      rw [hb] at hce hb0 hb1
      have hab : (a.add k).block < w.heap.size := World.block_lt_of_cell? w _ hce
      replace hce := hid hce
      clear ha hb
      go_wp2_with fail
      refine (spawn_any _ cb pb cb _ k L hn.out.p (by omega) (by omega)).mono ?_
      rintro e w2 ⟨rfl, v2, F2, O2⟩
      have hrow2 := hn.out.row.po hn.out.p O2 hn.out.ne
      have hne2 := po_ne O2 (fun g hg => (World.ownsRow.lt hn.out.row g hg).2) hn.out.ne
      have hbel2 := hn.out.bel.trans ((O2.below hn.out.p).mono hn.out.base)
      have hbase := hid hn.out.base
      have hup := withL_top L ((k : Int) + 1) (fun x hx => by have := hn.out.p.upto x hx; omega)
      obtain ⟨ao5, cap5, hu5⟩ := hn.out.row.slice
      subst hu5
      clear O2 hn
      go_wp2_with fail
      refine (with_any L ((k : Int) + 1) _ cb w2 hrow2 F2.baseLe (by omega)).mono ?_
      rw [hup]
      rintro e w3 ⟨u3, rfl, hrow3, hr3, hB3⟩
      have N3 : Nv w w3 cb pb v2 u3 (k + 1) (L ++ [(k : Int) + 1]) := by
        refine ⟨by simpa using F2.below hB3, hrow3, fun g h1 h2 => ?_, bel hbel2 hB3 hbel2.size, hbase.out⟩
        rcases hr3 g h1 with h4 | h4
        · exact hne2 g h4 h2
        · have := (F2.rowLt g h2).2
          omega
      replace N3 := hid N3
      have hM0 : 0 < (L ++ [(k : Int) + 1]).length := by simp
      have hM1 : (L ++ [(k : Int) + 1]).length ≤ k + 1 := by simp; omega
      generalize L ++ [(k : Int) + 1] = M at *
      clear hrow2 hne2 hbel2 hup F2 hrow3 hr3 hB3
      obtain ⟨ao3, cap3, hu3⟩ := N3.out.row.slice
      subst hu3
      have hcell3 : w3.cell? (a.add k) = some (.int .u8 b) := (N3.out.bel.cell (p := a.add k) hab).trans hce.out
      have hrest : Hid (b % 3 = 0 ∨ b % 3 = 1 ∨ b % 3 = 2) := hid (by omega)
      rcases hrest.out with h30 | h30 | h30
      · have h3i : (b : Int) % 3 = 0 := by omega
        have N4 := N3
        clear N3
        go_wp2_with fail
        refine (all_any _ cb pb cb _ _ _ _ N4.out.p).mono ?_
        rintro e w5 ⟨lv, rfl, OL, Bw⟩
        have N5 := hid (N4.out.below Bw)
        obtain ⟨lo, lc, hlv⟩ := OL.slice
        subst hlv
        have hm5 := N4.out.len
        have HA := hid (OL.at (by unfold maxLen; omega))
        have HU := hid (N5.out.row.at (by unfold maxLen; omega))
        replace OL := hid OL
        clear Bw N4
        go_wp2_with fail
        refine (refSameInts_any M M _ _ _ HA.out HU.out).mono ?_
        rw [decide_eq_true rfl]
        rintro e w6 ⟨rfl, Bw⟩
        have N6 := hid (N5.out.below Bw)
        clear Bw N5 OL HA HU
        go_wp2
        go_roundg g
        case rel => exact ⟨k + 1, _, _, by omega, by go_num, by go_num, by (first | omega | simp), N6⟩
        case measure => omega
      · have h3i : (b : Int) % 3 = 1 := by omega
        obtain ⟨q, hq⟩ : ∃ q : Nat, b % M.length = q := ⟨_, rfl⟩
        have hqi : (b : Int) % (M.length : Int) = (q : Int) := by rw [← hq]; simp
        have hqm : q < M.length := by rw [← hq]; exact Nat.mod_lt _ (by omega)
        obtain ⟨ao4, cap4, hv4, _, hc4⟩ := N3.out.row.at (by unfold maxLen; omega)
        simp only [Value.slice.injEq, true_and] at hv4
        obtain ⟨rfl, rfl⟩ := hv4
        obtain ⟨a4, ha4, hcx⟩ := hc4 q hqm
        have hxq := index_at (len := M.length) (cap := cap3) Try.elemInts Try.sizeInts q ha4 hqm
        have hmem : M[q] ∈ M := List.getElem_mem hqm
        obtain ⟨y, hy⟩ : ∃ y, M[q] = y := ⟨_, rfl⟩
        rw [hy] at hcx hmem
        replace hmem := hid hmem
        replace hq := hid hq
        clear hy ha4 hc4
        go_wp2_with fail
        refine (kill_any _ cb pb cb _ _ y M N3.out.p hmem.out).mono ?_
        rintro e w4 ⟨rfl, v4, F4, O4⟩
        have hrow4 := N3.out.row.po N3.out.p O4 N3.out.ne
        have hne4 := po_ne O4 (fun g hg => (World.ownsRow.lt N3.out.row g hg).2) N3.out.ne
        have hbel4 := N3.out.bel.trans ((O4.below N3.out.p).mono N3.out.base)
        have hbase4 := N3.out.base
        replace hrow4 := hid hrow4
        replace hne4 := hid hne4
        replace hbel4 := hid hbel4
        replace F4 := hid F4
        have hkl := killL_length M y N3.out.p.rises hmem.out
        clear O4 N3 hcell3 hcx hxq hqi
        go_wp2_with fail
        refine (without_any M y _ cb w4 hrow4.out (by omega)).mono ?_
        rw [show withoutL M y = killL M y from rfl]
        rintro e w7 ⟨u7, rfl, hrow7, hB7⟩
        have N4 : Hid (Nv w w7 cb pb v4 u7 (k + 1) (killL M y)) := hid ⟨F4.out.below hB7, hrow7.mono F4.out.baseLe, fun g h1 h2 => by have := (World.ownsRow.lt hrow7 g h1).1; have := (F4.out.rowLt g h2).2; omega, bel hbel4.out hB7 hbel4.out.size, hbase4⟩
        clear hrow7 hB7 hrow4 hne4 hbel4 F4
        have hR1 : (killL M y).length ≤ k + 1 := by omega
        clear hkl
        generalize killL M y = R at *
        obtain ⟨ao7, cap7, hu7⟩ := N4.out.row.slice
        subst hu7
        go_wp2_with fail
        refine (all_any _ cb pb cb _ _ _ _ N4.out.p).mono ?_
        rintro e w5 ⟨lv, rfl, OL, Bw⟩
        have N5 := hid (N4.out.below Bw)
        obtain ⟨lo, lc, hlv⟩ := OL.slice
        subst hlv
        have hm5 := N4.out.len
        have HA := hid (OL.at (by unfold maxLen; omega))
        have HU := hid (N5.out.row.at (by unfold maxLen; omega))
        replace OL := hid OL
        clear Bw N4
        go_wp2_with fail
        refine (refSameInts_any R R _ _ _ HA.out HU.out).mono ?_
        rw [decide_eq_true rfl]
        rintro e w6 ⟨rfl, Bw⟩
        have N6 := hid (N5.out.below Bw)
        clear Bw N5 OL HA HU
        go_wp2
        go_roundg g
        case rel => exact ⟨k + 1, _, _, by omega, by go_num, by go_num, by (first | omega | simp), N6⟩
        case measure => omega
      · have h3i : (b : Int) % 3 = 2 := by omega
        go_wp2_with fail
        refine (power_any _ cb pb cb _ _ _ _ N3.out.p).mono ?_
        rintro e w4 ⟨rfl, F4, O4⟩
        have N4 : Hid (Nv w w4 cb pb (.slice none 0 0) (.slice none 0 0) (k + 1) []) := hid ⟨F4, OwnInts.nil _ _, by simp [Value.ownBlock], N3.out.bel.trans ((O4.below N3.out.p).mono N3.out.base), N3.out.base⟩
        clear O4 F4 N3
        go_wp2_with fail
        refine (all_any _ cb pb cb _ _ _ _ N4.out.p).mono ?_
        rintro e w5 ⟨lv, rfl, OL, Bw⟩
        have N5 := hid (N4.out.below Bw)
        obtain ⟨lo, lc, hlv⟩ := OL.slice
        subst hlv
        have hm5 := N4.out.len
        have HA := hid (OL.at (by unfold maxLen; omega))
        have HU := hid (N5.out.row.at (by unfold maxLen; omega))
        replace OL := hid OL
        clear Bw N4
        go_wp2_with fail
        refine (refSameInts_any [] [] _ _ _ HA.out HU.out).mono ?_
        rw [decide_eq_true rfl]
        rintro e w6 ⟨rfl, Bw⟩
        have N6 := hid (N5.out.below Bw)
        clear Bw N5 OL HA HU
        go_wp2
        go_roundg g
        case rel => exact ⟨k + 1, _, _, by omega, by go_num, by go_num, by (first | omega | simp), N6⟩
        case measure => omega
end Go.Proofs.Yteafananeopigaa
