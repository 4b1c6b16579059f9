/- IdsSets: rows are sets. -/
import Derived.Test.YtdjhlgcbjdohiaaHn
namespace Go.Proofs.Ytdjhlgcbjdohiaa
open Go.RowKit

theorem both_has (a b : List Int) (i : Int) : (mergeL a b).contains i = (a.contains i || b.contains i) := by
  rw [Bool.eq_iff_iff]
  simp only [List.contains_eq_mem, decide_eq_true_eq, Bool.or_eq_true]
  exact mergeL_mem a b i
theorem drop_one_has (W : List Int) (n : Int) : (dropL W n 1).contains n = false := by
  simp only [List.contains_eq_mem, decide_eq_false_iff_not]
  rw [dropL_mem]
  omega
theorem again_len (X : List Int) (n : Int) (h : Up X) : (mergeL (mergeL X [n]) [n]).length = (mergeL X [n]).length := by
  have hw := mergeL_up X [n] h (up_short (by simp))
  rw [up_ext (mergeL (mergeL X [n]) [n]) (mergeL X [n]) (mergeL_up _ _ hw (up_short (by simp))) hw]
  intro x
  rw [mergeL_mem, mergeL_mem]
  simp
theorem filter_one_length : ∀ (l : List Int) (n : Int), Up l → n ∈ l → (dropL l n 1).length + 1 = l.length
  | [], n, _, h => absurd h (by simp)
  | a :: l, n, hp, h => by
    rw [up_cons] at hp
    by_cases hx : a = n
    · subst hx
      have hall : dropL (a :: l) a 1 = l := by
        apply up_ext
        · exact dropL_up _ _ _ (up_cons.2 hp)
        · exact hp.2
        · intro y
          rw [dropL_mem, List.mem_cons]
          constructor
          · rintro ⟨rfl | h1, h2⟩
            · omega
            · exact h1
          · intro hy
            have := hp.1 y hy
            exact ⟨.inr hy, by omega⟩
      rw [hall]
      simp
    · have h' : n ∈ l := (List.mem_cons.1 h).resolve_left (fun e => hx e.symm)
      have ih := filter_one_length l n hp.2 h'
      have hb : (decide (a < n) || decide (max (1 : Int) 0 ≤ a - n)) = true := by
        simp only [Bool.or_eq_true, decide_eq_true_eq]
        omega
      have hc : dropL (a :: l) n 1 = a :: dropL l n 1 := by
        rw [dropL, List.filter_cons, if_pos hb]
        rfl
      rw [hc]
      simp
      omega
theorem drop_one_len (X : List Int) (n : Int) (h : Up X) : (dropL (mergeL X [n]) n 1).length + 1 = (mergeL X [n]).length :=
  filter_one_length _ _ (mergeL_up X [n] h (up_short (by simp))) (by rw [mergeL_mem]; simp)
theorem fit_merge (a b : List Int) (ha : Fit a) (hb : Fit b) : Fit (mergeL a b) := fun x hx => by
  rcases (mergeL_mem a b x).1 hx with h | h
  · exact ha x h
  · exact hb x h

set_option maxRecDepth 100000 in
set_option maxHeartbeats 8000000 in
theorem sets_law (l m : List Int) (n : Int) (v0 v1 : Value) (w : World) (h0 : BytesAt w v0 l) (h0' : BytesAt w v1 m) (h1 : 0 ≤ n) (h2 : n ≤ 255) :
    Calls Try.prog 5 #[v0, v1, .int .u8 n] w fun e w' => e = .returned (.bool true) ∧ Below w.heap.size w w' := by
  obtain ⟨ao, cap, rfl, hlm, hcs⟩ := h0
  obtain ⟨ao2, cap2, rfl, hlm2, hcs2⟩ := h0'
  unfold maxLen at hlm hlm2
  have hfit : Hid (Fit (rowOf l l.length)) := hid (rowOf_fit l l.length (Nat.le_refl _) (fun i hi => by obtain ⟨_, _, _, h⟩ := hcs i hi; exact h))
  have hw1 : IntKind.i64.wrap n = n := wrap_i _ (by omega) (by omega)
  have hnf : Hid (Fit [n]) := hid (fun x hx => by have : x = n := by simpa using hx
                                                  omega)
  replace hcs := hid hcs
  replace hcs2 := hid hcs2
  go_enter Try.func5, Try.ntmps5
  go_wp2_with fail
  refine (known_any w).mono ?_
  rintro e w0 ⟨rfl, B0⟩
  replace B0 := hid B0
  by_cases hl : 40 < l.length
  · have hd : decide ((40 : Int) < (l.length : Int)) = true := by simp; omega
    go_wp2
    go_ret
    exact ⟨rfl, B0.out⟩
  have hd : decide ((40 : Int) < (l.length : Int)) = false := by simp; omega
  by_cases hm : 40 < m.length
  · have hd2 : decide ((40 : Int) < (m.length : Int)) = true := by simp; omega
    go_wp2
    go_ret
    exact ⟨rfl, B0.out⟩
  have hd2 : decide ((40 : Int) < (m.length : Int)) = false := by simp; omega
  have hl60 : l.length ≤ 40 := by omega
  have hm60 : m.length ≤ 40 := by omega
  clear hlm hlm2
  go_wp2
  go_loopg [7, 9] l.length (fun g vr j wr => ∃ (k : Nat) (ro : Option Addr) (cr : Nat), k + g = l.length ∧ vr = .slice ro (rowOf l k).length cr ∧ j = .int .i64 (k : Int) ∧ Hid (RowAt wr ro cr (rowOf l k)) ∧ Hid (Below w.heap.size w wr))
  case atStart => exact ⟨0, none, 0, by omega, rfl, rfl, hid (by rw [rowOf_zero]; exact RowAt.nil _), B0⟩
  case round =>
    obtain ⟨k, ro, cr, hk, rfl, rfl, hR, hbel⟩ := hrel
    clear B0
    obtain ⟨u1, u2, u3⟩ := rowOf_all l k (by omega)
    cases gk with
    | succ g =>
      have hkl : k < l.length := by omega
      obtain ⟨a, ha, hce, hb0, hb1⟩ := hcs.out k hkl
      have hx := index_at (len := l.length) (cap := cap) Try.elemU8s Try.sizeU8s k ha hkl
      have hcell : wr.cell? (a.add k) = some (Value.int .u8 l[k]) := (hbel.out.cell (p := a.add k) (World.block_lt_of_cell? w _ hce)).trans hce
      have hS := hid (rowOf_succ l k hkl)
      have hwb : IntKind.i64.wrap l[k] = l[k] := wrap_i _ (by omega) (by omega)
      generalize l[k] = b at *
      generalize hX : rowOf l k = X at *
      clear ha hce hb0 hb1 u3 hX
      go_wp2_with fail
      refine (with_any7 X b ro cr _ rfl wr hR.out (by omega)).mono ?_
      rw [← hS.out]
      rintro e w2 ⟨u, rfl, hu, b2⟩
      obtain ⟨uo, uc, rfl, hr⟩ := RowAt.own hu
      replace hr := hid hr
      have HB2 := hid (below_call hbel.out b2)
      clear hu b2 hcell hR hbel
      go_wp2
      go_roundg g
      case rel => exact ⟨k + 1, uo, uc, by omega, rfl, by go_num, hr, HB2⟩
      case measure => omega
    | zero =>
      have hke : k = l.length := by omega
      subst hke
      clear hcs u3
      generalize hX : rowOf l l.length = X at *
      replace u1 := hid u1
      clear hX
      go_wp2
      go_loopg [8, 10] m.length (fun g vr j wr => ∃ (k : Nat) (so : Option Addr) (cs : Nat), k + g = m.length ∧ vr = .slice so (rowOf m k).length cs ∧ j = .int .i64 (k : Int) ∧ Hid (RowAt wr ro cr X) ∧ Hid (RowAt wr so cs (rowOf m k)) ∧ Hid (Below w.heap.size w wr))
      case atStart => exact ⟨0, none, 0, by omega, rfl, rfl, hR, hid (by rw [rowOf_zero]; exact RowAt.nil _), hbel⟩
      case round =>
        obtain ⟨k, so, cs, hk2, rfl, rfl, hX, hS, hbel2⟩ := hrel
        clear hR hbel
        obtain ⟨y1, y2, y3⟩ := rowOf_all m k (by omega)
        cases gk with
        | succ g =>
          have hkl : k < m.length := by omega
          obtain ⟨a, ha, hce, hb0, hb1⟩ := hcs2.out k hkl
          have hx := index_at (len := m.length) (cap := cap2) Try.elemU8s Try.sizeU8s k ha hkl
          have hcell : wr.cell? (a.add k) = some (Value.int .u8 m[k]) := (hbel2.out.cell (p := a.add k) (World.block_lt_of_cell? w _ hce)).trans hce
          have hSS := hid (rowOf_succ m k hkl)
          have hwb : IntKind.i64.wrap m[k] = m[k] := wrap_i _ (by omega) (by omega)
          generalize m[k] = b at *
          generalize hY : rowOf m k = Y at *
          clear ha hce hb0 hb1 y3 hY
          go_wp2_with fail
          refine (with_any7 Y b so cs _ rfl wr hS.out (by omega)).mono ?_
          rw [← hSS.out]
          rintro e w2 ⟨u, rfl, hu, b2⟩
          obtain ⟨uo, uc, rfl, hr⟩ := RowAt.own hu
          replace hr := hid hr
          have HX2 := hid (hX.out.call b2)
          have HB2 := hid (below_call hbel2.out b2)
          clear hu b2 hcell hX hS hbel2
          go_wp2
          go_roundg g
          case rel => exact ⟨k + 1, uo, uc, by omega, rfl, by go_num, HX2, hr, HB2⟩
          case measure => omega
        | zero =>
          have hke : k = m.length := by omega
          subst hke
          clear hcs2 y3
          generalize hY : rowOf m m.length = Y at *
          replace y1 := hid y1
          clear hY
          go_wp2_with fail
          refine (both_any X Y ro so cr cs _ _ rfl rfl _ hX.out hS.out (by omega)).mono ?_
          rintro e w2 ⟨u, rfl, hu, b2⟩
          obtain ⟨uo, uc, rfl, hU⟩ := RowAt.own hu
          have HX2 := hid (hX.out.call b2)
          have HS2 := hid (hS.out.call b2)
          have HB2 := hid (below_call hbel2.out b2)
          replace hU := hid hU
          clear hu b2 hX hS hbel2
          go_wp2_with fail
          refine (both_any Y X so ro cs cr _ _ rfl rfl _ HS2.out HX2.out (by omega)).mono ?_
          have hUh := hid (both_has X Y)
          have hVh := hid (both_has Y X)
          have uU := hid (mergeL_up X Y u1.out y1.out)
          have uV := hid (mergeL_up Y X y1.out u1.out)
          have lU := mergeL_length X Y
          have lV := mergeL_length Y X
          generalize mergeL X Y = U at *
          generalize mergeL Y X = V at *
          rintro e w3 ⟨u, rfl, hu, b2⟩
          obtain ⟨vo, vc, rfl, hV⟩ := RowAt.own hu
          have HX3 := hid (HX2.out.call b2)
          have HS3 := hid (HS2.out.call b2)
          have HU3 := hid (hU.out.call b2)
          have HB3 := hid (below_call HB2.out b2)
          replace hV := hid hV
          clear hu b2 HX2 HS2 HB2 hU
          go_wp2
          go_loopg [13] 256 (fun g j wq => ∃ (i : Nat), i + g = 256 ∧ j = .int .i64 (i : Int) ∧ Hid (RowAt wq ro cr X) ∧ Hid (RowAt wq so cs Y) ∧ Hid (RowAt wq uo uc U) ∧ Hid (RowAt wq vo vc V) ∧ Hid (Below w.heap.size w wq))
          case atStart => exact ⟨0, by omega, rfl, HX3, HS3, HU3, hV, HB3⟩
          case round =>
            obtain ⟨i, hi, rfl, HX, HY, HU, HV, HB⟩ := hrel
            clear HX3 HS3 HU3 hV HB3
            cases gk with
            | succ g =>
              have hi2 : i < 256 := by omega
              have h256 : decide ((i : Int) < 256) = true := by simp; omega
              have CU := hid (fun W (hW : Below wr.heap.size wr W) => has_any7 U (i : Int) uo uc _ rfl W (HU.out.call hW) (by omega) uU.out)
              have CV := hid (fun W (hW : Below wr.heap.size wr W) => has_any7 V (i : Int) vo vc _ rfl W (HV.out.call hW) (by omega) uV.out)
              have CX := hid (fun W (hW : Below wr.heap.size wr W) => has_any7 X (i : Int) ro cr _ rfl W (HX.out.call hW) (by omega) u1.out)
              have CY := hid (fun W (hW : Below wr.heap.size wr W) => has_any7 Y (i : Int) so cs _ rfl W (HY.out.call hW) (by omega) y1.out)
              have fin : Hid (∀ Z, Below wr.heap.size wr Z → RowAt Z ro cr X ∧ RowAt Z so cs Y ∧ RowAt Z uo uc U ∧ RowAt Z vo vc V ∧ Below w.heap.size w Z) := hid (fun Z h1 => ⟨HX.out.call h1, HY.out.call h1, HU.out.call h1, HV.out.call h1, below_call HB.out h1⟩)
              clear HX HY HU HV HB
              rw [hUh.out (i : Int)] at CU
              rw [hVh.out (i : Int)] at CV
              generalize X.contains (i : Int) = cx at *
              generalize Y.contains (i : Int) = cy at *
              clear hUh hVh uU uV u1 y1
              cases cx with
              | true =>
                cases cy <;> (
                  go_wp2_with fail
                  refine (CU.out wr (Below.refl _ _)).mono ?_
                  rintro e w3 ⟨rfl, b3⟩
                  replace b3 := hid b3
                  go_wp2_with fail
                  refine (CX.out w3 b3.out).mono ?_
                  rintro e w4 ⟨rfl, b4⟩
                  replace b4 := hid (below_call b3.out b4)
                  clear b3
                  go_wp2_with fail
                  refine (CU.out w4 b4.out).mono ?_
                  rintro e w5 ⟨rfl, b5⟩
                  replace b5 := hid (below_call b4.out b5)
                  clear b4
                  go_wp2_with fail
                  refine (CV.out w5 b5.out).mono ?_
                  rintro e w6 ⟨rfl, b6⟩
                  replace b6 := hid (below_call b5.out b6)
                  clear b5
                  obtain ⟨f1, f2, f3, f4, f5⟩ := fin.out _ b6.out
                  replace f1 := hid f1; replace f2 := hid f2; replace f3 := hid f3; replace f4 := hid f4; replace f5 := hid f5
                  clear b6 CU CV CX CY fin
                  go_wp2
                  go_roundg g
                  case rel => exact ⟨i + 1, by omega, by go_num, f1, f2, f3, f4, f5⟩
                  case measure => omega)
              | false =>
                cases cy <;> (
                  go_wp2_with fail
                  refine (CU.out wr (Below.refl _ _)).mono ?_
                  rintro e w3 ⟨rfl, b3⟩
                  replace b3 := hid b3
                  go_wp2_with fail
                  refine (CX.out w3 b3.out).mono ?_
                  rintro e w4 ⟨rfl, b4⟩
                  replace b4 := hid (below_call b3.out b4)
                  clear b3
                  go_wp2_with fail
                  refine (CY.out w4 b4.out).mono ?_
                  rintro e w7 ⟨rfl, b7⟩
                  replace b7 := hid (below_call b4.out b7)
                  clear b4
                  go_wp2_with fail
                  refine (CU.out w7 b7.out).mono ?_
                  rintro e w5 ⟨rfl, b5⟩
                  replace b5 := hid (below_call b7.out b5)
                  clear b7
                  go_wp2_with fail
                  refine (CV.out w5 b5.out).mono ?_
                  rintro e w6 ⟨rfl, b6⟩
                  replace b6 := hid (below_call b5.out b6)
                  clear b5
                  obtain ⟨f1, f2, f3, f4, f5⟩ := fin.out _ b6.out
                  replace f1 := hid f1; replace f2 := hid f2; replace f3 := hid f3; replace f4 := hid f4; replace f5 := hid f5
                  clear b6 CU CV CX CY fin
                  go_wp2
                  go_roundg g
                  case rel => exact ⟨i + 1, by omega, by go_num, f1, f2, f3, f4, f5⟩
                  case measure => omega)
            | zero =>
              have hi2 : i = 256 := by omega
              subst hi2
              clear HV uV hVh hUh
              go_wp2_with fail
              refine (with_any7 X n ro cr _ rfl _ HX.out (by omega)).mono ?_
              have uW := hid (mergeL_up X [n] u1.out (up_short (by simp)))
              have lW := mergeL_length X [n]
              have fW := hid (fit_merge X [n] hfit.out hnf.out)
              have e1 := again_len X n u1.out
              have e2 := hid (drop_one_has (mergeL X [n]) n)
              have e3 := drop_one_len X n u1.out
              rw [List.length_singleton] at lW
              have uW2 := hid (mergeL_up (mergeL X [n]) [n] uW.out (up_short (by simp)))
              have uD := hid (dropL_up (mergeL X [n]) n 1 uW.out)
              generalize mergeL X [n] = W at *
              rintro e w4 ⟨u, rfl, hu, b2⟩
              obtain ⟨wo, wc, rfl, hW⟩ := RowAt.own hu
              have HX4 := hid (HX.out.call b2)
              have HU4 := hid (HU.out.call b2)
              have HB4 := hid (below_call HB.out b2)
              replace hW := hid hW
              clear hu b2 HX HY HU HB
              go_wp2_with fail
              refine (is_any X ro cr _ rfl _ HX4.out (by omega)).mono ?_
              rw [isUp_true.2 u1.out]
              rintro e w5 ⟨rfl, b2⟩
              have HU5 := hid (HU4.out.call b2)
              have HW5 := hid (hW.out.call b2)
              have HB5 := hid (below_call HB4.out b2)
              clear b2 HX4 HU4 hW HB4
              go_wp2_with fail
              refine (is_any U uo uc _ rfl _ HU5.out (by omega)).mono ?_
              rw [isUp_true.2 uU.out]
              rintro e w6 ⟨rfl, b2⟩
              have HW6 := hid (HW5.out.call b2)
              have HB6 := hid (below_call HB5.out b2)
              clear b2 HU5 HW5 HB5
              go_wp2_with fail
              refine (is_any W wo wc _ rfl _ HW6.out (by omega)).mono ?_
              rw [isUp_true.2 uW.out]
              rintro e w7 ⟨rfl, b2⟩
              have HW7 := hid (HW6.out.call b2)
              have HB7 := hid (below_call HB6.out b2)
              clear b2 HW6 HB6
              go_wp2_with fail
              refine (with_any7 W n wo wc _ rfl _ HW7.out (by omega)).mono ?_
              rintro e w8 ⟨u, rfl, hu, b2⟩
              obtain ⟨wo2, wc2, rfl⟩ := hu.slice
              rw [e1]
              have HW8 := hid (HW7.out.call b2)
              have HB8 := hid (below_call HB7.out b2)
              clear b2 HW7 HB7 hu e1
              have C9 := hid (fun Z (hZ : RowAt Z wo wc W) => without_any7 W n wo wc _ rfl Z hZ (by omega) fW.out (by omega))
              have e4 : ((dropL W n 1).length : Int) = (W.length : Int) - 1 := by omega
              have lD : (dropL W n 1).length ≤ 1000 := by omega
              generalize dropL W n 1 = D at *
              clear e3
              go_wp2_with fail
              refine (C9.out _ HW8.out).mono ?_
              rintro e w9 ⟨u, rfl, hu, b2⟩
              obtain ⟨do1, dc1, rfl, hD⟩ := RowAt.own hu
              have HW9 := hid (HW8.out.call b2)
              have HB9 := hid (below_call HB8.out b2)
              replace hD := hid hD
              replace e4 := hid e4
              clear b2 HW8 HB8 hu
              go_wp2_with fail
              refine (has_any7 D n do1 dc1 _ rfl _ hD.out lD uD.out).mono ?_
              rw [e2.out]
              rintro e w10 ⟨rfl, b2⟩
              have HW10 := hid (HW9.out.call b2)
              have HB10 := hid (below_call HB9.out b2)
              clear b2 HW9 HB9 hD
              go_wp2_with fail
              refine (C9.out _ HW10.out).mono ?_
              rintro e w11 ⟨u, rfl, hu, b2⟩
              obtain ⟨do2, dc2, rfl⟩ := hu.slice
              have HB11 := hid (below_call HB10.out b2)
              have e5 : ((D.length : Int) == (W.length : Int) - 1) = true := by simpa using e4.out
              have hw5 : IntKind.i64.wrap ((W.length : Int) - 1) = (W.length : Int) - 1 := wrap_i _ (by omega) (by omega)
              clear b2 HW10 HB10 hu C9
              go_wp2
              go_ret
              exact ⟨rfl, HB11.out⟩
end Go.Proofs.Ytdjhlgcbjdohiaa
