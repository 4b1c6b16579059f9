/- IdsDrops: so many numbers from one on go, the others stay. -/
import Derived.Test.YtdjhlgcbjdohiaaHm
namespace Go.Proofs.Ytdjhlgcbjdohiaa
open Go.RowKit

/-- A slice of bytes. -/
def BytesAt (w : World) (v : Value) (l : List Int) : Prop :=
  ∃ ao cap, v = .slice ao l.length cap ∧ l.length ≤ maxLen ∧ ∀ i (h : i < l.length), ∃ a, ao = some a ∧ w.cell? (a.add i) = some (.int .u8 l[i]) ∧ 0 ≤ l[i] ∧ l[i] < 256
theorem Try.elemU8s : Try.prog.underlying 34 = some (.slice (Try.prog.elem 34)) := by kernel_rfl
theorem Try.sizeU8s (w : World) : (Go.sizeOf (Try.prog.elem 34)).run Try.prog w = .ok 1 w := by kernel_rfl

/-- The row of the first k of l, put in one by one. -/
def rowOf (l : List Int) (k : Nat) : List Int := (l.take k).foldl (fun r x => mergeL r [x]) []
theorem rowOf_zero (l : List Int) : rowOf l 0 = [] := by simp [rowOf]
theorem rowOf_succ (l : List Int) (k : Nat) (h : k < l.length) : rowOf l (k + 1) = mergeL (rowOf l k) [l[k]] := by
  rw [rowOf, List.take_succ_eq_append_getElem h, List.foldl_append]
  rfl
theorem rowOf_all (l : List Int) : ∀ k, k ≤ l.length → Up (rowOf l k) ∧ (rowOf l k).length ≤ k ∧ ∀ x, x ∈ rowOf l k ↔ x ∈ l.take k
  | 0, _ => by rw [rowOf_zero]; exact ⟨up_nil, by simp, by simp⟩
  | k + 1, h => by
    obtain ⟨h1, h2, h3⟩ := rowOf_all l k (by omega)
    rw [rowOf_succ l k (by omega)]
    refine ⟨mergeL_up _ _ h1 (up_short (by simp)), ?_, fun x => ?_⟩
    · have := mergeL_length (rowOf l k) [l[k]]
      simp at this
      omega
    · rw [mergeL_mem, h3, List.take_succ_eq_append_getElem (by omega), List.mem_append]
theorem rowOf_fit (l : List Int) (k : Nat) (h : k ≤ l.length) (hb : ∀ i (_ : i < l.length), 0 ≤ l[i] ∧ l[i] < 256) : Fit (rowOf l k) := by
  intro x hx
  have := ((rowOf_all l k h).2.2 x).1 hx
  obtain ⟨i, hi, rfl⟩ := List.mem_iff_getElem.1 (List.mem_of_mem_take this)
  have := hb i hi
  omega
theorem drop_has (X : List Int) (f m i : Int) (hm : 0 ≤ m) : (dropL X f m).contains i = (X.contains i && !(decide (f ≤ i) && decide (i < f + m))) := by
  have h := dropL_mem X f m i
  rw [Bool.eq_iff_iff]
  simp only [List.contains_eq_mem, decide_eq_true_eq, Bool.and_eq_true, Bool.not_eq_true', Bool.and_eq_false_iff, decide_eq_false_iff_not]
  rw [h]
  constructor
  · rintro ⟨h1, h2⟩
    exact ⟨h1, by omega⟩
  · rintro ⟨h1, h2⟩
    exact ⟨h1, by omega⟩

set_option maxRecDepth 100000 in
set_option maxHeartbeats 4000000 in
theorem drops_law (l : List Int) (a1 a2 : Int) (v0 : Value) (w : World) (h0 : BytesAt w v0 l) (h1 : 0 ≤ a1) (h2 : a1 ≤ 255) (h3 : 0 ≤ a2) (h4 : a2 ≤ 255) :
    Calls Try.prog 6 #[v0, .int .u8 a1, .int .u8 a2] w fun e w' => e = .returned (.bool true) ∧ Below w.heap.size w w' := by
  obtain ⟨ao, cap, rfl, hlm, hcs⟩ := h0
  unfold maxLen at hlm
  have hfit : Hid (∀ k, k ≤ l.length → Fit (rowOf l k)) := hid (fun k hk => rowOf_fit l k hk (fun i hi => by obtain ⟨_, _, _, h⟩ := hcs i hi; exact h))
  have hw1 : IntKind.i64.wrap a1 = a1 := wrap_i _ (by omega) (by omega)
  have hw2 : IntKind.i64.wrap a2 = a2 := wrap_i _ (by omega) (by omega)
  have hw3 : IntKind.i64.wrap (a1 + a2) = a1 + a2 := wrap_i _ (by omega) (by omega)
  replace hcs := hid hcs
  go_enter Try.func6, Try.ntmps6
  go_wp2_with fail
  refine (known_any w).mono ?_
  rintro e w0 ⟨rfl, B0⟩
  replace B0 := hid B0
  by_cases hl : 60 < l.length
  · go_wp2
    go_ret
    exact ⟨rfl, B0.out⟩
  have hl60 : l.length ≤ 60 := by omega
  clear hlm
  go_wp2
  go_loopg [7, 8] l.length (fun g vr j wr => ∃ (k : Nat) (ro : Option Addr) (cr : Nat), k + g = l.length ∧ vr = .slice ro (rowOf l k).length cr ∧ j = .int .i64 (k : Int) ∧ Hid (RowAt wr ro cr (rowOf l k)) ∧ Hid (Below w.heap.size w wr))
  case atStart => exact ⟨0, none, 0, by omega, rfl, rfl, hid (by rw [rowOf_zero]; exact RowAt.nil _), B0⟩
  case round =>
    obtain ⟨k, ro, cr, hk, rfl, rfl, hR, hbel⟩ := hrel
    clear B0
    obtain ⟨u1, u2, u3⟩ := rowOf_all l k (by omega)
    cases gk with
    | succ g =>
      have hkl : k < l.length := by omega
      obtain ⟨a, ha, hce, hb0, hb1⟩ := hcs.out k hkl
      have hx := index_at (len := l.length) (cap := cap) Try.elemU8s Try.sizeU8s k ha hkl
      have hcell : wr.cell? (a.add k) = some (Value.int .u8 l[k]) := (hbel.out.cell (p := a.add k) (World.block_lt_of_cell? w _ hce)).trans hce
      have hS := hid (rowOf_succ l k hkl)
      have hwb : IntKind.i64.wrap l[k] = l[k] := wrap_i _ (by omega) (by omega)
      generalize l[k] = b at *
      generalize hX : rowOf l k = X at *
      clear ha hce hb0 hb1 u3 hX
      go_wp2_with fail
      refine (with_any7 X b ro cr _ rfl wr hR.out (by omega)).mono ?_
      rw [← hS.out]
      rintro e w2 ⟨u, rfl, hu, b2⟩
      obtain ⟨uo, uc, rfl, hr⟩ := RowAt.own hu
      replace hr := hid hr
      have HB2 := hid (below_call hbel.out b2)
      clear hu b2 hcell hR hbel
      go_wp2
      go_roundg g
      case rel => exact ⟨k + 1, uo, uc, by omega, rfl, by go_num, hr, HB2⟩
      case measure => omega
    | zero =>
      have hke : k = l.length := by omega
      have hfX := hid (hfit.out k (by omega))
      subst hke
      clear hcs hfit u3
      generalize hX : rowOf l l.length = X at *
      replace u1 := hid u1
      clear hX
      go_wp2_with fail
      refine (drop_any7 X a1 a2 ro cr _ rfl wr hR.out (by omega) hfX.out (by omega) (by omega)).mono ?_
      have hD := hid (fun i => drop_has X a1 a2 i (by omega))
      have uD := hid (dropL_up X a1 a2 u1.out)
      have lD := dropL_length X a1 a2
      generalize dropL X a1 a2 = D at *
      rintro e w2 ⟨u, rfl, hu, b2⟩
      obtain ⟨uo, uc, rfl, hr⟩ := RowAt.own hu
      replace hr := hid hr
      have HR2 := hid (hR.out.call b2)
      have HB2 := hid (below_call hbel.out b2)
      clear hu b2 hR hbel hfX
      go_wp2
      go_loopg [10] 256 (fun g j wq => ∃ (i : Nat), i + g = 256 ∧ j = .int .i64 (i : Int) ∧ Hid (RowAt wq ro cr X) ∧ Hid (RowAt wq uo uc D) ∧ Hid (Below w.heap.size w wq))
      case atStart => exact ⟨0, by omega, rfl, HR2, hr, HB2⟩
      case round =>
        obtain ⟨i, hi, rfl, HX, HD, HB⟩ := hrel
        clear HR2 hr HB2
        cases gk with
        | zero =>
          have hi2 : i = 256 := by omega
          subst hi2
          go_wp2_with fail
          refine (is_any D uo uc _ rfl _ HD.out (by omega)).mono ?_
          rw [isUp_true.2 uD.out]
          rintro e w3 ⟨rfl, b3⟩
          have HB3 := hid (below_call HB.out b3)
          clear b3
          go_wp2
          go_ret
          exact ⟨rfl, HB3.out⟩
        | succ g =>
          have hi2 : i < 256 := by omega
          have hDi := hD.out (i : Int)
          have h256 : decide ((i : Int) < 256) = true := by simp; omega
          have C1 := hid (has_any7 D (i : Int) uo uc _ rfl wr HD.out (by omega) uD.out)
          have C2 := hid (fun W (hW : Below wr.heap.size wr W) => has_any7 X (i : Int) ro cr _ rfl W (HX.out.call hW) (by omega) u1.out)
          have fin : Hid (∀ W Z, Below wr.heap.size wr W → Below W.heap.size W Z → RowAt Z ro cr X ∧ RowAt Z uo uc D ∧ Below w.heap.size w Z) := hid (fun W Z h1 h2 => ⟨(HX.out.call h1).call h2, (HD.out.call h1).call h2, below_call (below_call HB.out h1) h2⟩)
          clear HX HD HB
          rw [hDi] at C1
          generalize X.contains (i : Int) = cx at *
          clear hD uD u1 hDi
          by_cases hc1 : a1 ≤ (i : Int)
          · by_cases hc2 : (i : Int) < a1 + a2
            · have e1 : decide (a1 ≤ (i : Int)) = true := by simp; omega
              have e2 : decide ((i : Int) < a1 + a2) = true := by simp; omega
              cases cx with
              | false =>
                go_wp2_with fail
                refine C1.out.mono ?_
                rintro e w3 ⟨rfl, b3⟩
                go_wp2_with fail
                refine (C2.out w3 b3).mono ?_
                rintro e w4 ⟨rfl, b4⟩
                obtain ⟨f1, f2, f3⟩ := fin.out _ _ b3 b4
                replace f1 := hid f1; replace f2 := hid f2; replace f3 := hid f3
                clear b3 b4 C1 C2 fin
                go_wp2
                go_roundg g
                case rel => exact ⟨i + 1, by omega, by go_num, f1, f2, f3⟩
                case measure => omega
              | true =>
                go_wp2_with fail
                refine C1.out.mono ?_
                rintro e w3 ⟨rfl, b3⟩
                go_wp2_with fail
                refine (C2.out w3 b3).mono ?_
                rintro e w4 ⟨rfl, b4⟩
                obtain ⟨f1, f2, f3⟩ := fin.out _ _ b3 b4
                replace f1 := hid f1; replace f2 := hid f2; replace f3 := hid f3
                clear b3 b4 C1 C2 fin
                go_wp2
                go_roundg g
                case rel => exact ⟨i + 1, by omega, by go_num, f1, f2, f3⟩
                case measure => omega
            · have e1 : decide (a1 ≤ (i : Int)) = true := by simp; omega
              have e2 : decide ((i : Int) < a1 + a2) = false := by simp; omega
              cases cx with
              | false =>
                go_wp2_with fail
                refine C1.out.mono ?_
                rintro e w3 ⟨rfl, b3⟩
                go_wp2_with fail
                refine (C2.out w3 b3).mono ?_
                rintro e w4 ⟨rfl, b4⟩
                obtain ⟨f1, f2, f3⟩ := fin.out _ _ b3 b4
                replace f1 := hid f1; replace f2 := hid f2; replace f3 := hid f3
                clear b3 b4 C1 C2 fin
                go_wp2
                go_roundg g
                case rel => exact ⟨i + 1, by omega, by go_num, f1, f2, f3⟩
                case measure => omega
              | true =>
                go_wp2_with fail
                refine C1.out.mono ?_
                rintro e w3 ⟨rfl, b3⟩
                go_wp2_with fail
                refine (C2.out w3 b3).mono ?_
                rintro e w4 ⟨rfl, b4⟩
                obtain ⟨f1, f2, f3⟩ := fin.out _ _ b3 b4
                replace f1 := hid f1; replace f2 := hid f2; replace f3 := hid f3
                clear b3 b4 C1 C2 fin
                go_wp2
                go_roundg g
                case rel => exact ⟨i + 1, by omega, by go_num, f1, f2, f3⟩
                case measure => omega
          · have e1 : decide (a1 ≤ (i : Int)) = false := by simp; omega
            cases cx with
            | false =>
              go_wp2_with fail
              refine C1.out.mono ?_
              rintro e w3 ⟨rfl, b3⟩
              go_wp2_with fail
              refine (C2.out w3 b3).mono ?_
              rintro e w4 ⟨rfl, b4⟩
              obtain ⟨f1, f2, f3⟩ := fin.out _ _ b3 b4
              replace f1 := hid f1; replace f2 := hid f2; replace f3 := hid f3
              clear b3 b4 C1 C2 fin
              go_wp2
              go_roundg g
              case rel => exact ⟨i + 1, by omega, by go_num, f1, f2, f3⟩
              case measure => omega
            | true =>
              go_wp2_with fail
              refine C1.out.mono ?_
              rintro e w3 ⟨rfl, b3⟩
              go_wp2_with fail
              refine (C2.out w3 b3).mono ?_
              rintro e w4 ⟨rfl, b4⟩
              obtain ⟨f1, f2, f3⟩ := fin.out _ _ b3 b4
              replace f1 := hid f1; replace f2 := hid f2; replace f3 := hid f3
              clear b3 b4 C1 C2 fin
              go_wp2
              go_roundg g
              case rel => exact ⟨i + 1, by omega, by go_num, f1, f2, f3⟩
              case measure => omega
end Go.Proofs.Ytdjhlgcbjdohiaa
