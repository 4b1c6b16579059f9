/- PageLeafs, way by way. -/
import Derived.Test.YtkfhkhjoindcbaaLm
namespace Go.Proofs.Ytkfhkhjoindcbaa
open Go.RowKit Go.Sort

set_option maxRecDepth 100000 in
set_option maxHeartbeats 4000000 in
theorem leafs_1fB (n q : Int) (w : World) (h0 : 0 ≤ n) (h1 : n < 256) (h2 : 0 ≤ q) (h3 : q < 256) (a m : Nat) (ha : n % 7 = a) (hm : q % 12 = m) (ha7 : a < 7) (hm12 : m < 12) (hca : 0 < a) (hg4 : a ≤ 4) (hm1 : m < 1) :
    Calls Try.prog 4 #[.int .u8 n, .int .u8 q, .bool false] w fun e w' => e = .returned (.bool true) ∧ Below w.heap.size w w' := by
  replace hca := hid hca
  obtain ⟨i0, hi, hz0, hz1, hz2⟩ := info_parts Try.infoItem
  go_enter Try.func4, Try.ntmps4
  go_wp2_with fail
  refine (known_any _).mono ?_
  rintro e w1 ⟨rfl, hb1⟩
  go_wp2
  have hL0 : Lf w1 w1.heap.size (w1.alloc (.cells (leafCs (.slice none 0 0)) 32)) (.slice none 0 0) := ⟨heap_newL _ _, (Below.refl _ _).alloc (Nat.le_refl _) _, by simp⟩
  unfold leafCs at hL0
  replace hL0 := hid hL0
  generalize w1.alloc (.cells #[.int .i64 1, .slice none 0 0, .slice none 0 0, .slice none 0 0, .string ⟨#[]⟩, .slice none 0 0, .slice none 0 0, .int .i64 0, .int .u64 0, .int .i64 0, .int .i64 0, .int .i64 0, .int .i64 0, .int .i64 0] 32) = W1 at *
  generalize hBd : w1.heap.size = B at *
  replace hb1 := hid hb1
  replace ha := hid ha
  replace hm := hid hm
  go_loopw [9] (fun i wr => ∃ (k : Nat) (v : Value), k ≤ a ∧ i = .int .i64 k ∧ Hid (Lf w1 B wr v) ∧ Hid (OwnKeys wr (B + 1) v (keysN k))) (fun i _ => a - (intOf i).toNat)
  case atStart => exact ⟨0, _, Nat.zero_le _, rfl, hL0, World.ownsRow_nil _ _ _ _⟩
  case round =>
    obtain ⟨k, v, hk, rfl, hF, hO⟩ := hrel
    clear hL0
    obtain ⟨ax, nx, cx, rfl⟩ := hO.out.slice
    have hsz := hF.out.size
    by_cases hlk : k < a
    · have cX := cell_rowL hF.out.pg
      unfold leafCs at cX
      have hown : wr.ownsRow (B + 1) 47 10 (.slice ax nx cx) k (rowC (keysN k)) := by
        have := hO.out
        unfold OwnKeys at this
        rwa [keysN_length] at this
      have HK : Hid (rowC (keysN (k + 1)) = rowC (keysN k) ++ [.string (keyN k), .int .i64 1, .string ⟨#[]⟩, .int .i64 0, .int .i64 0, .slice none 0 0, .int .i64 0, .int .i64 0, .int .i64 0, .int .i64 0]) := by
        show _ = _
        rw [keysN_succ, rowC_snoc]
        rfl
      have hc8 : ((UInt8.ofNat (97 + k)).toNat : Int) = 97 + (k : Int) := by
        rw [UInt8.toNat_ofNat', Nat.mod_eq_of_lt (by omega)]
        omega
      have hcv : (convert 42 9 (.slice (some ⟨wr.heap.size, 0, none⟩) 1 1)).run Try.prog (wr.alloc (.cells #[.int .u8 (97 + (k : Int))] 5)) = .ok (.string (bs [UInt8.ofNat (97 + k)])) (wr.alloc (.cells #[.int .u8 (97 + (k : Int))] 5)) := by
        refine conv_one _ _ _ ?_
        rw [hc8]
        exact (cell_rowL (heap_newL wr (.cells #[.int .u8 (97 + (k : Int))] 5)) 0).trans rfl
      have hkn : (⟨#[107]⟩ : ByteArray) ++ bs [UInt8.ofNat (97 + k)] = keyN k := bs_append [107] [UInt8.ofNat (97 + k)]
      have hz1' : (bs [UInt8.ofNat (97 + k)]).size = 1 := by rw [bs_size]; rfl
      clear hc8
      generalize UInt8.ofNat (97 + k) = ch at *
      generalize bs [ch] = chs at *
      generalize keyN k = KEY at *
      go_wp2_with (at_builtin; refine wpList_append_own _ rfl _ _ 22 rfl (B + 1) 47 i0 (.agg #[.string ⟨#[]⟩, .int .i64 0, .string ⟨#[]⟩, .int .i64 0, .int .i64 0, .slice none 0 0, .int .i64 0, .int .i64 0, .int .i64 0, .int .i64 0]) 10 112 Try.underlying22 hi hz0 hz1 hz2 rfl (by decide) _ _ _ rfl ((hown.alloc _).alloc _) ⟨wr.heap.size + 1, 0, none⟩ 1 1 [.string (KEY), .int .i64 1, .string ⟨#[]⟩, .int .i64 0, .int .i64 0, .slice none 0 0, .int .i64 0, .int .i64 0, .int .i64 0, .int .i64 0] rfl rfl (World.news_of_block (cs := #[.string (KEY), .int .i64 1, .string ⟨#[]⟩, .int .i64 0, .int .i64 0, .slice none 0 0, .int .i64 0, .int .i64 0, .int .i64 0, .int .i64 0]) (t := 47) (fr := (0, 0)) (heap_new2 wr _ _)) (fun x hx => by simp only [List.mem_cons, List.not_mem_nil, or_false] at hx; rcases hx with rfl | rfl | rfl | rfl | rfl | rfl | rfl | rfl | rfl | rfl <;> rfl) (by unfold maxLen; omega) (by omega) (by have := hsz; simp; omega) ?_)
      intro v' w3 hown' hgrow _
      rw [← HK.out] at hown'
      have hrow : ∀ q, (Value.slice ax nx cx).ownBlock = some q → B + 1 ≤ q := fun q hq => (hown.lt q hq).1
      have HF3 := hid (((hF.out.alloc (.cells #[.int .u8 (97 + (k : Int))] 5)).alloc (.cells #[.string KEY, .int .i64 1, .string ⟨#[]⟩, .int .i64 0, .int .i64 0, .slice none 0 0, .int .i64 0, .int .i64 0, .int .i64 0, .int .i64 0] 47)).row hgrow hrow)
      have cX3 := cell_rowL HF3.out.pg
      have fX3 := frozen_rowL HF3.out.pg
      unfold leafCs at cX3
      obtain ⟨ay, ny, cy, rfl⟩ : ∃ ao n cap, v' = .slice ao n cap := by
        rcases hown'.2 with ⟨hv, _⟩ | ⟨g, cap, cur, hv, _⟩
        · exact ⟨_, _, _, hv⟩
        · exact ⟨_, _, _, hv⟩
      have HF4 := hid (HF3.out.set (.slice ay ny cy))
      have HO4 : Hid (OwnKeys (w3.setCell ⟨B, 1, none⟩ (.slice ay ny cy)) (B + 1) (.slice ay ny cy) (keysN (k + 1))) := by
        show World.ownsRow _ _ _ _ _ _ _
        rw [keysN_length]
        exact owns_kept_lt hown' (grown_setCell w3 B 1 _) (fun q hq => by cases hq; omega)
      clear hgrow hown hown' hrow HF3 cX HK
      go_wp2
      go_roundw
      case rel => exact ⟨k + 1, _, by omega, by go_num, HF4, HO4⟩
      case measure => simp [intOf]; omega
    · have hka : k = a := by omega
      subst hka
      clear hlk hk
      obtain ⟨p, hp⟩ : ∃ p, k = p + 1 := ⟨k - 1, by have := hca.out; omega⟩
      subst hp
      clear hca
      have hown := hO.out
      unfold OwnKeys at hown
      rw [keysN_length] at hown
      obtain ⟨g, cap, cur, hv, hbg, hg, hncap, hcm, hcs, htk⟩ : ∃ g cap cur, Value.slice ax nx cx = .slice (some ⟨g, 0, none⟩) (p + 1) cap ∧ B + 1 ≤ g ∧ wr.heap[g]? = some (.cells cur 47 (0, 0)) ∧ p + 1 ≤ cap ∧ cap ≤ maxLen ∧ cur.size = cap * 10 ∧ cur.toList.take ((p + 1) * 10) = rowC (keysN (p + 1)) := by
        rcases hown.2 with ⟨_, hn⟩ | ⟨g, cap, cur, h⟩
        · omega
        · exact ⟨g, cap, cur, h⟩
      simp only [Value.slice.injEq] at hv
      obtain ⟨rfl, rfl, rfl⟩ := hv
      have hat : ∀ W, (Instr.indexAt 22 (.slice (some ⟨g, 0, none⟩) (p + 1) cx) (.int .i64 (p : Int))).run Try.prog W = .ok (.pointer (some ⟨g, p * 10, none⟩)) W := fun W => by
        have := atItems (p + 1) cx p (b := g) (o := 0) rfl (by omega) W
        rwa [Nat.zero_add] at this
      obtain ⟨cv, hcv0⟩ : ∃ cv, cur[p * 10]? = some cv := ⟨_, Array.getElem?_eq_getElem (by omega)⟩
      have hcell : wr.cell? ⟨g, p * 10, none⟩ = some cv := (cell_rowL hg _).trans hcv0
      have hfroz := frozen_rowL hg
      have HK1 : Hid (OwnKeys (wr.setCell ⟨g, p * 10, none⟩ (.string (zs m))) (B + 1) (.slice (some ⟨g, 0, none⟩) (p + 1) cx) (keysN p ++ [zs m])) := by
        have h := owns_stored hown (p * 10) (.string (zs m))
        have e := rowC_last (keysN p) (keyN p) (zs m)
        rw [keysN_length] at e
        rw [keysN_succ, e] at h
        show World.ownsRow _ _ _ _ _ _ _
        rw [List.length_append, keysN_length]
        exact h
      have HL1 := hid (hF.out.row (grown_setCell wr g (p * 10) (.string (zs m))) (fun q hq => by cases hq; exact hbg))
      have cP := cell_rowL hF.out.pg
      unfold leafCs at cP
      clear hg htk hcv0 hown hO
      have hmv := hm.out
      go_wp2
      clear hmv
      go_loop [12] (fun x => ∃ j : Nat, j ≤ m ∧ x = .string (zs j)) (fun x => m - strLen x)
      case atStart => exact ⟨0, Nat.zero_le _, rfl⟩
      case round =>
        obtain ⟨j, hj, rfl⟩ := hrel
        have hzj := zs_size j
        have hzn := zs_succ j
        by_cases hjm : j < m
        · exact absurd hjm (by omega)
        · have hje : j = m := by omega
          subst hje
          clear hjm hj hzn
          have hIs : isPB (leafK (keysN p ++ [zs j])) = false := by
            rw [is_c1 p (by omega) j (by omega)]
            simp
            omega
          have hB1 : decide ((1 : Int) ≤ (j : Int)) = false := by simp; omega
          have hLl : (keysN p ++ [zs j]).length ≤ 1000 := by simp [keysN_length]; omega
          have hLs : ∀ x ∈ keysN p ++ [zs j], x.size ≤ 65535 := by
            intro x hx
            rcases List.mem_append.1 hx with hx | hx
            · simp only [keysN, List.mem_map] at hx
              obtain ⟨i, _, rfl⟩ := hx
              simp [keyN, bs_size]
            · obtain rfl : x = zs j := by simpa using hx
              rw [zs_size]; omega
          go_wp2_with fail
          have HLf := HL1
          have HKf := HK1
          clear HL1 HK1 hcell hfroz hat cP hF
          generalize wr.setCell ⟨g, p * 10, none⟩ (.string (zs j)) = wf at *
          have HHG := hid (fun X (hX : Below wf.heap.size wf X) => (HKf.out.hangs hLl hLs).below hX)
          have HTX := hid (leafK_txn (keysN p ++ [zs j]))
          have HPB : Hid (isPB (leafK (keysN p ++ [zs j])) = false) := hIs
          have HBY : Hid (∀ X, Below wf.heap.size wf X → Calls Try.prog 9 #[.agg #[.int .i64 1, (.slice (some ⟨g, 0, none⟩) (p + 1) cx), .slice none 0 0, .slice none 0 0, .string ⟨#[]⟩, .slice none 0 0, .slice none 0 0, .int .i64 0, .int .u64 0, .int .i64 0, .int .i64 0, .int .i64 0, .int .i64 0, .int .i64 0]] X fun e w' => e = .returned (.string (bs (bytesD (leafK (keysN p ++ [zs j]))))) ∧ Below X.heap.size X w') := fun X hX => bytes_any (leafK (keysN p ++ [zs j])) (.slice (some ⟨g, 0, none⟩) (p + 1) cx) (.slice none 0 0) (.slice none 0 0) (.slice none 0 0) (.slice none 0 0) X (HHG.out X hX) HTX.out
          have HIS : Hid (∀ X, Below wf.heap.size wf X → Calls Try.prog 10 #[.agg #[.int .i64 1, (.slice (some ⟨g, 0, none⟩) (p + 1) cx), .slice none 0 0, .slice none 0 0, .string ⟨#[]⟩, .slice none 0 0, .slice none 0 0, .int .i64 0, .int .u64 0, .int .i64 0, .int .i64 0, .int .i64 0, .int .i64 0, .int .i64 0]] X fun e w' => e = .returned (.bool false) ∧ Below X.heap.size X w') := fun X hX => by
            have := is_any (leafK (keysN p ++ [zs j])) (.slice (some ⟨g, 0, none⟩) (p + 1) cx) (.slice none 0 0) (.slice none 0 0) (.slice none 0 0) (.slice none 0 0) X (HHG.out X hX)
            rw [HPB.out] at this
            exact this
          have HP0 : Hid (∀ X, Below wf.heap.size wf X → X.heap[B]? = some (.cells #[.int .i64 1, (.slice (some ⟨g, 0, none⟩) (p + 1) cx), .slice none 0 0, .slice none 0 0, .string ⟨#[]⟩, .slice none 0 0, .slice none 0 0, .int .i64 0, .int .u64 0, .int .i64 0, .int .i64 0, .int .i64 0, .int .i64 0, .int .i64 0] 32 (0, 0))) := fun X hX => (hX.block B (by have := HLf.out.size; omega)).trans HLf.out.pg
          have HBB : Hid (∀ X, Below wf.heap.size wf X → Below w.heap.size w X) := fun X hX => hb1.out.trans ((HLf.out.below.trans (hX.mono (by have := HLf.out.size; omega))).mono (by have := hb1.out.size; omega))
          have HRB : Hid (∀ X, Calls Try.prog 11 #[.string (bs (bytesD (leafK (keysN p ++ [zs j]))))] X fun e w' => ∃ vi vk vd vv vf, e = .returned (.tuple #[.agg #[.int .i64 0, vi, vk, vd, .string ⟨#[]⟩, vv, vf, .int .i64 0, .int .u64 0, .int .i64 0, .int .i64 0, .int .i64 0, .int .i64 0, .int .i64 0], .iface 44 (.int .i64 12)]) ∧ Hangs w' (noPage) vi vk vd vv vf ∧ Below X.heap.size X w') := fun X => by
            have := read_back (leafK (keysN p ++ [zs j])) HTX.out X
            rw [HPB.out] at this
            exact this
          have cP0 := cell_rowL HLf.out.pg
          unfold leafCs at cP0
          have hnil := Try.eqNilNil
          have hnil2 := Try.eqNil
          clear HPB HTX
          generalize bs (bytesD (leafK (keysN p ++ [zs j]))) = LX at *
          go_wp2_with fail
          clear cP0
          have hb0 : Below wf.heap.size wf wf := Below.refl _ _
          refine (HBY.out _ hb0).mono ?_
          rintro e x1 ⟨rfl, hb⟩
          have hx1 := hb0.trans hb
          clear hb hb0 HBY
          go_wp2_with fail
          refine (HRB.out _).mono ?_
          rintro e x2 ⟨vi, vk, vd, vv, vf, rfl, hq, hb⟩
          obtain ⟨qi, mi, ci, rfl⟩ := hq.items.slice
          obtain ⟨qk, mk, ck, rfl⟩ := hq.keys.slice
          obtain ⟨qd, md, cd, rfl⟩ := hq.kids.slice
          obtain ⟨qv, mv, cv, rfl⟩ := hq.vals.slice
          obtain ⟨qf, mf, cf, rfl⟩ := hq.free.slice
          have hx2 := (hx1.trans (hb.mono hx1.size)).alloc (Nat.le_trans hx1.size hb.size) (.cells #[.int .i64 0, .slice qi mi ci, .slice qk mk ck, .slice qd md cd, .string ⟨#[]⟩, .slice qv mv cv, .slice qf mf cf, .int .i64 0, .int .u64 0, .int .i64 0, .int .i64 0, .int .i64 0, .int .i64 0, .int .i64 0] 32)
          have cP2 := cell_rowL (HP0.out _ hx2)
          have HQ2 := hid (heap_newL x2 (.cells #[.int .i64 0, .slice qi mi ci, .slice qk mk ck, .slice qd md cd, .string ⟨#[]⟩, .slice qv mv cv, .slice qf mf cf, .int .i64 0, .int .u64 0, .int .i64 0, .int .i64 0, .int .i64 0, .int .i64 0, .int .i64 0] 32))
          have HG2 : Hid (Hangs (x2.alloc (.cells #[.int .i64 0, .slice qi mi ci, .slice qk mk ck, .slice qd md cd, .string ⟨#[]⟩, .slice qv mv cv, .slice qf mf cf, .int .i64 0, .int .u64 0, .int .i64 0, .int .i64 0, .int .i64 0, .int .i64 0, .int .i64 0] 32)) (noPage) (.slice qi mi ci) (.slice qk mk ck) (.slice qd md cd) (.slice qv mv cv) (.slice qf mf cf)) := hq.below ((Below.refl _ _).alloc (Nat.le_refl _) _)
          clear hq hb hx1 HRB
          go_wp2_with fail
          clear cP2
          generalize x2.alloc (.cells #[.int .i64 0, .slice qi mi ci, .slice qk mk ck, .slice qd md cd, .string ⟨#[]⟩, .slice qv mv cv, .slice qf mf cf, .int .i64 0, .int .u64 0, .int .i64 0, .int .i64 0, .int .i64 0, .int .i64 0, .int .i64 0] 32) = X3 at *
          generalize x2.heap.size = Q at *
          refine (HIS.out _ hx2).mono ?_
          rintro e x4 ⟨rfl, hb⟩
          have hx4 := hx2.trans (hb.mono hx2.size)
          have HQ4 := hid ((hb.block Q (Array.getElem?_eq_some_iff.1 HQ2.out).1).trans HQ2.out)
          have HG4 := hid (HG2.out.below hb)
          have cP4 := cell_rowL (HP0.out _ hx4)
          have cQ4 := cell_rowL HQ4.out
          clear hb hx2 HIS HQ2 HG2
          go_wp2_with fail
          clear cP4 cQ4
          refine (is_same _).mono ?_
          rintro e x5 ⟨rfl, rfl⟩
          have hx5 := HBB.out _ hx4
          go_wp2
          go_ret
          exact ⟨rfl, hx5⟩

set_option maxRecDepth 100000 in
set_option maxHeartbeats 4000000 in
theorem leafs_1fC (n q : Int) (w : World) (h0 : 0 ≤ n) (h1 : n < 256) (h2 : 0 ≤ q) (h3 : q < 256) (a m : Nat) (ha : n % 7 = a) (hm : q % 12 = m) (ha7 : a < 7) (hm12 : m < 12) (hca : 0 < a) (hg4 : a ≤ 4) (hm8 : 8 < m) :
    Calls Try.prog 4 #[.int .u8 n, .int .u8 q, .bool false] w fun e w' => e = .returned (.bool true) ∧ Below w.heap.size w w' := by
  replace hca := hid hca
  obtain ⟨i0, hi, hz0, hz1, hz2⟩ := info_parts Try.infoItem
  go_enter Try.func4, Try.ntmps4
  go_wp2_with fail
  refine (known_any _).mono ?_
  rintro e w1 ⟨rfl, hb1⟩
  go_wp2
  have hL0 : Lf w1 w1.heap.size (w1.alloc (.cells (leafCs (.slice none 0 0)) 32)) (.slice none 0 0) := ⟨heap_newL _ _, (Below.refl _ _).alloc (Nat.le_refl _) _, by simp⟩
  unfold leafCs at hL0
  replace hL0 := hid hL0
  generalize w1.alloc (.cells #[.int .i64 1, .slice none 0 0, .slice none 0 0, .slice none 0 0, .string ⟨#[]⟩, .slice none 0 0, .slice none 0 0, .int .i64 0, .int .u64 0, .int .i64 0, .int .i64 0, .int .i64 0, .int .i64 0, .int .i64 0] 32) = W1 at *
  generalize hBd : w1.heap.size = B at *
  replace hb1 := hid hb1
  replace ha := hid ha
  replace hm := hid hm
  go_loopw [9] (fun i wr => ∃ (k : Nat) (v : Value), k ≤ a ∧ i = .int .i64 k ∧ Hid (Lf w1 B wr v) ∧ Hid (OwnKeys wr (B + 1) v (keysN k))) (fun i _ => a - (intOf i).toNat)
  case atStart => exact ⟨0, _, Nat.zero_le _, rfl, hL0, World.ownsRow_nil _ _ _ _⟩
  case round =>
    obtain ⟨k, v, hk, rfl, hF, hO⟩ := hrel
    clear hL0
    obtain ⟨ax, nx, cx, rfl⟩ := hO.out.slice
    have hsz := hF.out.size
    by_cases hlk : k < a
    · have cX := cell_rowL hF.out.pg
      unfold leafCs at cX
      have hown : wr.ownsRow (B + 1) 47 10 (.slice ax nx cx) k (rowC (keysN k)) := by
        have := hO.out
        unfold OwnKeys at this
        rwa [keysN_length] at this
      have HK : Hid (rowC (keysN (k + 1)) = rowC (keysN k) ++ [.string (keyN k), .int .i64 1, .string ⟨#[]⟩, .int .i64 0, .int .i64 0, .slice none 0 0, .int .i64 0, .int .i64 0, .int .i64 0, .int .i64 0]) := by
        show _ = _
        rw [keysN_succ, rowC_snoc]
        rfl
      have hc8 : ((UInt8.ofNat (97 + k)).toNat : Int) = 97 + (k : Int) := by
        rw [UInt8.toNat_ofNat', Nat.mod_eq_of_lt (by omega)]
        omega
      have hcv : (convert 42 9 (.slice (some ⟨wr.heap.size, 0, none⟩) 1 1)).run Try.prog (wr.alloc (.cells #[.int .u8 (97 + (k : Int))] 5)) = .ok (.string (bs [UInt8.ofNat (97 + k)])) (wr.alloc (.cells #[.int .u8 (97 + (k : Int))] 5)) := by
        refine conv_one _ _ _ ?_
        rw [hc8]
        exact (cell_rowL (heap_newL wr (.cells #[.int .u8 (97 + (k : Int))] 5)) 0).trans rfl
      have hkn : (⟨#[107]⟩ : ByteArray) ++ bs [UInt8.ofNat (97 + k)] = keyN k := bs_append [107] [UInt8.ofNat (97 + k)]
      have hz1' : (bs [UInt8.ofNat (97 + k)]).size = 1 := by rw [bs_size]; rfl
      clear hc8
      generalize UInt8.ofNat (97 + k) = ch at *
      generalize bs [ch] = chs at *
      generalize keyN k = KEY at *
      go_wp2_with (at_builtin; refine wpList_append_own _ rfl _ _ 22 rfl (B + 1) 47 i0 (.agg #[.string ⟨#[]⟩, .int .i64 0, .string ⟨#[]⟩, .int .i64 0, .int .i64 0, .slice none 0 0, .int .i64 0, .int .i64 0, .int .i64 0, .int .i64 0]) 10 112 Try.underlying22 hi hz0 hz1 hz2 rfl (by decide) _ _ _ rfl ((hown.alloc _).alloc _) ⟨wr.heap.size + 1, 0, none⟩ 1 1 [.string (KEY), .int .i64 1, .string ⟨#[]⟩, .int .i64 0, .int .i64 0, .slice none 0 0, .int .i64 0, .int .i64 0, .int .i64 0, .int .i64 0] rfl rfl (World.news_of_block (cs := #[.string (KEY), .int .i64 1, .string ⟨#[]⟩, .int .i64 0, .int .i64 0, .slice none 0 0, .int .i64 0, .int .i64 0, .int .i64 0, .int .i64 0]) (t := 47) (fr := (0, 0)) (heap_new2 wr _ _)) (fun x hx => by simp only [List.mem_cons, List.not_mem_nil, or_false] at hx; rcases hx with rfl | rfl | rfl | rfl | rfl | rfl | rfl | rfl | rfl | rfl <;> rfl) (by unfold maxLen; omega) (by omega) (by have := hsz; simp; omega) ?_)
      intro v' w3 hown' hgrow _
      rw [← HK.out] at hown'
      have hrow : ∀ q, (Value.slice ax nx cx).ownBlock = some q → B + 1 ≤ q := fun q hq => (hown.lt q hq).1
      have HF3 := hid (((hF.out.alloc (.cells #[.int .u8 (97 + (k : Int))] 5)).alloc (.cells #[.string KEY, .int .i64 1, .string ⟨#[]⟩, .int .i64 0, .int .i64 0, .slice none 0 0, .int .i64 0, .int .i64 0, .int .i64 0, .int .i64 0] 47)).row hgrow hrow)
      have cX3 := cell_rowL HF3.out.pg
      have fX3 := frozen_rowL HF3.out.pg
      unfold leafCs at cX3
      obtain ⟨ay, ny, cy, rfl⟩ : ∃ ao n cap, v' = .slice ao n cap := by
        rcases hown'.2 with ⟨hv, _⟩ | ⟨g, cap, cur, hv, _⟩
        · exact ⟨_, _, _, hv⟩
        · exact ⟨_, _, _, hv⟩
      have HF4 := hid (HF3.out.set (.slice ay ny cy))
      have HO4 : Hid (OwnKeys (w3.setCell ⟨B, 1, none⟩ (.slice ay ny cy)) (B + 1) (.slice ay ny cy) (keysN (k + 1))) := by
        show World.ownsRow _ _ _ _ _ _ _
        rw [keysN_length]
        exact owns_kept_lt hown' (grown_setCell w3 B 1 _) (fun q hq => by cases hq; omega)
      clear hgrow hown hown' hrow HF3 cX HK
      go_wp2
      go_roundw
      case rel => exact ⟨k + 1, _, by omega, by go_num, HF4, HO4⟩
      case measure => simp [intOf]; omega
    · have hka : k = a := by omega
      subst hka
      clear hlk hk
      obtain ⟨p, hp⟩ : ∃ p, k = p + 1 := ⟨k - 1, by have := hca.out; omega⟩
      subst hp
      clear hca
      have hown := hO.out
      unfold OwnKeys at hown
      rw [keysN_length] at hown
      obtain ⟨g, cap, cur, hv, hbg, hg, hncap, hcm, hcs, htk⟩ : ∃ g cap cur, Value.slice ax nx cx = .slice (some ⟨g, 0, none⟩) (p + 1) cap ∧ B + 1 ≤ g ∧ wr.heap[g]? = some (.cells cur 47 (0, 0)) ∧ p + 1 ≤ cap ∧ cap ≤ maxLen ∧ cur.size = cap * 10 ∧ cur.toList.take ((p + 1) * 10) = rowC (keysN (p + 1)) := by
        rcases hown.2 with ⟨_, hn⟩ | ⟨g, cap, cur, h⟩
        · omega
        · exact ⟨g, cap, cur, h⟩
      simp only [Value.slice.injEq] at hv
      obtain ⟨rfl, rfl, rfl⟩ := hv
      have hat : ∀ W, (Instr.indexAt 22 (.slice (some ⟨g, 0, none⟩) (p + 1) cx) (.int .i64 (p : Int))).run Try.prog W = .ok (.pointer (some ⟨g, p * 10, none⟩)) W := fun W => by
        have := atItems (p + 1) cx p (b := g) (o := 0) rfl (by omega) W
        rwa [Nat.zero_add] at this
      obtain ⟨cv, hcv0⟩ : ∃ cv, cur[p * 10]? = some cv := ⟨_, Array.getElem?_eq_getElem (by omega)⟩
      have hcell : wr.cell? ⟨g, p * 10, none⟩ = some cv := (cell_rowL hg _).trans hcv0
      have hfroz := frozen_rowL hg
      have HK1 : Hid (OwnKeys (wr.setCell ⟨g, p * 10, none⟩ (.string (zs m))) (B + 1) (.slice (some ⟨g, 0, none⟩) (p + 1) cx) (keysN p ++ [zs m])) := by
        have h := owns_stored hown (p * 10) (.string (zs m))
        have e := rowC_last (keysN p) (keyN p) (zs m)
        rw [keysN_length] at e
        rw [keysN_succ, e] at h
        show World.ownsRow _ _ _ _ _ _ _
        rw [List.length_append, keysN_length]
        exact h
      have HL1 := hid (hF.out.row (grown_setCell wr g (p * 10) (.string (zs m))) (fun q hq => by cases hq; exact hbg))
      have cP := cell_rowL hF.out.pg
      unfold leafCs at cP
      clear hg htk hcv0 hown hO
      have hmv := hm.out
      go_wp2
      clear hmv
      go_loop [12] (fun x => ∃ j : Nat, j ≤ m ∧ x = .string (zs j)) (fun x => m - strLen x)
      case atStart => exact ⟨0, Nat.zero_le _, rfl⟩
      case round =>
        obtain ⟨j, hj, rfl⟩ := hrel
        have hzj := zs_size j
        have hzn := zs_succ j
        by_cases hjm : j < m
        · go_wp2
          go_round
          case rel => exact ⟨j + 1, by omega, rfl⟩
          case measure => simp [strLen, zs_size]; omega
        · have hje : j = m := by omega
          subst hje
          clear hjm hj hzn
          have hIs : isPB (leafK (keysN p ++ [zs j])) = false := by
            rw [is_c1 p (by omega) j (by omega)]
            simp
            omega
          have hB1 : decide ((1 : Int) ≤ (j : Int)) = true := by simp; omega
          have hB8 : decide ((j : Int) ≤ 8) = false := by simp; omega
          have hLl : (keysN p ++ [zs j]).length ≤ 1000 := by simp [keysN_length]; omega
          have hLs : ∀ x ∈ keysN p ++ [zs j], x.size ≤ 65535 := by
            intro x hx
            rcases List.mem_append.1 hx with hx | hx
            · simp only [keysN, List.mem_map] at hx
              obtain ⟨i, _, rfl⟩ := hx
              simp [keyN, bs_size]
            · obtain rfl : x = zs j := by simpa using hx
              rw [zs_size]; omega
          go_wp2_with fail
          have HLf := HL1
          have HKf := HK1
          clear HL1 HK1 hcell hfroz hat cP hF
          generalize wr.setCell ⟨g, p * 10, none⟩ (.string (zs j)) = wf at *
          have HHG := hid (fun X (hX : Below wf.heap.size wf X) => (HKf.out.hangs hLl hLs).below hX)
          have HTX := hid (leafK_txn (keysN p ++ [zs j]))
          have HPB : Hid (isPB (leafK (keysN p ++ [zs j])) = false) := hIs
          have HBY : Hid (∀ X, Below wf.heap.size wf X → Calls Try.prog 9 #[.agg #[.int .i64 1, (.slice (some ⟨g, 0, none⟩) (p + 1) cx), .slice none 0 0, .slice none 0 0, .string ⟨#[]⟩, .slice none 0 0, .slice none 0 0, .int .i64 0, .int .u64 0, .int .i64 0, .int .i64 0, .int .i64 0, .int .i64 0, .int .i64 0]] X fun e w' => e = .returned (.string (bs (bytesD (leafK (keysN p ++ [zs j]))))) ∧ Below X.heap.size X w') := fun X hX => bytes_any (leafK (keysN p ++ [zs j])) (.slice (some ⟨g, 0, none⟩) (p + 1) cx) (.slice none 0 0) (.slice none 0 0) (.slice none 0 0) (.slice none 0 0) X (HHG.out X hX) HTX.out
          have HIS : Hid (∀ X, Below wf.heap.size wf X → Calls Try.prog 10 #[.agg #[.int .i64 1, (.slice (some ⟨g, 0, none⟩) (p + 1) cx), .slice none 0 0, .slice none 0 0, .string ⟨#[]⟩, .slice none 0 0, .slice none 0 0, .int .i64 0, .int .u64 0, .int .i64 0, .int .i64 0, .int .i64 0, .int .i64 0, .int .i64 0]] X fun e w' => e = .returned (.bool false) ∧ Below X.heap.size X w') := fun X hX => by
            have := is_any (leafK (keysN p ++ [zs j])) (.slice (some ⟨g, 0, none⟩) (p + 1) cx) (.slice none 0 0) (.slice none 0 0) (.slice none 0 0) (.slice none 0 0) X (HHG.out X hX)
            rw [HPB.out] at this
            exact this
          have HP0 : Hid (∀ X, Below wf.heap.size wf X → X.heap[B]? = some (.cells #[.int .i64 1, (.slice (some ⟨g, 0, none⟩) (p + 1) cx), .slice none 0 0, .slice none 0 0, .string ⟨#[]⟩, .slice none 0 0, .slice none 0 0, .int .i64 0, .int .u64 0, .int .i64 0, .int .i64 0, .int .i64 0, .int .i64 0, .int .i64 0] 32 (0, 0))) := fun X hX => (hX.block B (by have := HLf.out.size; omega)).trans HLf.out.pg
          have HBB : Hid (∀ X, Below wf.heap.size wf X → Below w.heap.size w X) := fun X hX => hb1.out.trans ((HLf.out.below.trans (hX.mono (by have := HLf.out.size; omega))).mono (by have := hb1.out.size; omega))
          have HRB : Hid (∀ X, Calls Try.prog 11 #[.string (bs (bytesD (leafK (keysN p ++ [zs j]))))] X fun e w' => ∃ vi vk vd vv vf, e = .returned (.tuple #[.agg #[.int .i64 0, vi, vk, vd, .string ⟨#[]⟩, vv, vf, .int .i64 0, .int .u64 0, .int .i64 0, .int .i64 0, .int .i64 0, .int .i64 0, .int .i64 0], .iface 44 (.int .i64 12)]) ∧ Hangs w' (noPage) vi vk vd vv vf ∧ Below X.heap.size X w') := fun X => by
            have := read_back (leafK (keysN p ++ [zs j])) HTX.out X
            rw [HPB.out] at this
            exact this
          have cP0 := cell_rowL HLf.out.pg
          unfold leafCs at cP0
          have hnil := Try.eqNilNil
          have hnil2 := Try.eqNil
          clear HPB HTX
          generalize bs (bytesD (leafK (keysN p ++ [zs j]))) = LX at *
          go_wp2_with fail
          clear cP0
          have hb0 : Below wf.heap.size wf wf := Below.refl _ _
          refine (HBY.out _ hb0).mono ?_
          rintro e x1 ⟨rfl, hb⟩
          have hx1 := hb0.trans hb
          clear hb hb0 HBY
          go_wp2_with fail
          refine (HRB.out _).mono ?_
          rintro e x2 ⟨vi, vk, vd, vv, vf, rfl, hq, hb⟩
          obtain ⟨qi, mi, ci, rfl⟩ := hq.items.slice
          obtain ⟨qk, mk, ck, rfl⟩ := hq.keys.slice
          obtain ⟨qd, md, cd, rfl⟩ := hq.kids.slice
          obtain ⟨qv, mv, cv, rfl⟩ := hq.vals.slice
          obtain ⟨qf, mf, cf, rfl⟩ := hq.free.slice
          have hx2 := (hx1.trans (hb.mono hx1.size)).alloc (Nat.le_trans hx1.size hb.size) (.cells #[.int .i64 0, .slice qi mi ci, .slice qk mk ck, .slice qd md cd, .string ⟨#[]⟩, .slice qv mv cv, .slice qf mf cf, .int .i64 0, .int .u64 0, .int .i64 0, .int .i64 0, .int .i64 0, .int .i64 0, .int .i64 0] 32)
          have cP2 := cell_rowL (HP0.out _ hx2)
          have HQ2 := hid (heap_newL x2 (.cells #[.int .i64 0, .slice qi mi ci, .slice qk mk ck, .slice qd md cd, .string ⟨#[]⟩, .slice qv mv cv, .slice qf mf cf, .int .i64 0, .int .u64 0, .int .i64 0, .int .i64 0, .int .i64 0, .int .i64 0, .int .i64 0] 32))
          have HG2 : Hid (Hangs (x2.alloc (.cells #[.int .i64 0, .slice qi mi ci, .slice qk mk ck, .slice qd md cd, .string ⟨#[]⟩, .slice qv mv cv, .slice qf mf cf, .int .i64 0, .int .u64 0, .int .i64 0, .int .i64 0, .int .i64 0, .int .i64 0, .int .i64 0] 32)) (noPage) (.slice qi mi ci) (.slice qk mk ck) (.slice qd md cd) (.slice qv mv cv) (.slice qf mf cf)) := hq.below ((Below.refl _ _).alloc (Nat.le_refl _) _)
          clear hq hb hx1 HRB
          go_wp2_with fail
          clear cP2
          generalize x2.alloc (.cells #[.int .i64 0, .slice qi mi ci, .slice qk mk ck, .slice qd md cd, .string ⟨#[]⟩, .slice qv mv cv, .slice qf mf cf, .int .i64 0, .int .u64 0, .int .i64 0, .int .i64 0, .int .i64 0, .int .i64 0, .int .i64 0] 32) = X3 at *
          generalize x2.heap.size = Q at *
          refine (HIS.out _ hx2).mono ?_
          rintro e x4 ⟨rfl, hb⟩
          have hx4 := hx2.trans (hb.mono hx2.size)
          have HQ4 := hid ((hb.block Q (Array.getElem?_eq_some_iff.1 HQ2.out).1).trans HQ2.out)
          have HG4 := hid (HG2.out.below hb)
          have cP4 := cell_rowL (HP0.out _ hx4)
          have cQ4 := cell_rowL HQ4.out
          clear hb hx2 HIS HQ2 HG2
          go_wp2_with fail
          clear cP4 cQ4
          refine (is_same _).mono ?_
          rintro e x5 ⟨rfl, rfl⟩
          have hx5 := HBB.out _ hx4
          go_wp2
          go_ret
          exact ⟨rfl, hx5⟩

set_option maxRecDepth 100000 in
set_option maxHeartbeats 4000000 in
theorem leafs_1tT (n q : Int) (w : World) (h0 : 0 ≤ n) (h1 : n < 256) (h2 : 0 ≤ q) (h3 : q < 256) (a m : Nat) (ha : n % 7 = a) (hm : q % 12 = m) (ha7 : a < 7) (hm12 : m < 12) (hca : 0 < a) (hg4 : a ≤ 1) (hm1 : 1 ≤ m) (hm8 : m ≤ 8) :
    Calls Try.prog 4 #[.int .u8 n, .int .u8 q, .bool true] w fun e w' => e = .returned (.bool true) ∧ Below w.heap.size w w' := by
  replace hca := hid hca
  obtain ⟨i0, hi, hz0, hz1, hz2⟩ := info_parts Try.infoItem
  go_enter Try.func4, Try.ntmps4
  go_wp2_with fail
  refine (known_any _).mono ?_
  rintro e w1 ⟨rfl, hb1⟩
  go_wp2
  have hL0 : Lf w1 w1.heap.size (w1.alloc (.cells (leafCs (.slice none 0 0)) 32)) (.slice none 0 0) := ⟨heap_newL _ _, (Below.refl _ _).alloc (Nat.le_refl _) _, by simp⟩
  unfold leafCs at hL0
  replace hL0 := hid hL0
  generalize w1.alloc (.cells #[.int .i64 1, .slice none 0 0, .slice none 0 0, .slice none 0 0, .string ⟨#[]⟩, .slice none 0 0, .slice none 0 0, .int .i64 0, .int .u64 0, .int .i64 0, .int .i64 0, .int .i64 0, .int .i64 0, .int .i64 0] 32) = W1 at *
  generalize hBd : w1.heap.size = B at *
  replace hb1 := hid hb1
  replace ha := hid ha
  replace hm := hid hm
  go_loopw [9] (fun i wr => ∃ (k : Nat) (v : Value), k ≤ a ∧ i = .int .i64 k ∧ Hid (Lf w1 B wr v) ∧ Hid (OwnKeys wr (B + 1) v (keysN k))) (fun i _ => a - (intOf i).toNat)
  case atStart => exact ⟨0, _, Nat.zero_le _, rfl, hL0, World.ownsRow_nil _ _ _ _⟩
  case round =>
    obtain ⟨k, v, hk, rfl, hF, hO⟩ := hrel
    clear hL0
    obtain ⟨ax, nx, cx, rfl⟩ := hO.out.slice
    have hsz := hF.out.size
    by_cases hlk : k < a
    · have cX := cell_rowL hF.out.pg
      unfold leafCs at cX
      have hown : wr.ownsRow (B + 1) 47 10 (.slice ax nx cx) k (rowC (keysN k)) := by
        have := hO.out
        unfold OwnKeys at this
        rwa [keysN_length] at this
      have HK : Hid (rowC (keysN (k + 1)) = rowC (keysN k) ++ [.string (keyN k), .int .i64 1, .string ⟨#[]⟩, .int .i64 0, .int .i64 0, .slice none 0 0, .int .i64 0, .int .i64 0, .int .i64 0, .int .i64 0]) := by
        show _ = _
        rw [keysN_succ, rowC_snoc]
        rfl
      have hc8 : ((UInt8.ofNat (97 + k)).toNat : Int) = 97 + (k : Int) := by
        rw [UInt8.toNat_ofNat', Nat.mod_eq_of_lt (by omega)]
        omega
      have hcv : (convert 42 9 (.slice (some ⟨wr.heap.size, 0, none⟩) 1 1)).run Try.prog (wr.alloc (.cells #[.int .u8 (97 + (k : Int))] 5)) = .ok (.string (bs [UInt8.ofNat (97 + k)])) (wr.alloc (.cells #[.int .u8 (97 + (k : Int))] 5)) := by
        refine conv_one _ _ _ ?_
        rw [hc8]
        exact (cell_rowL (heap_newL wr (.cells #[.int .u8 (97 + (k : Int))] 5)) 0).trans rfl
      have hkn : (⟨#[107]⟩ : ByteArray) ++ bs [UInt8.ofNat (97 + k)] = keyN k := bs_append [107] [UInt8.ofNat (97 + k)]
      have hz1' : (bs [UInt8.ofNat (97 + k)]).size = 1 := by rw [bs_size]; rfl
      clear hc8
      generalize UInt8.ofNat (97 + k) = ch at *
      generalize bs [ch] = chs at *
      generalize keyN k = KEY at *
      go_wp2_with (at_builtin; refine wpList_append_own _ rfl _ _ 22 rfl (B + 1) 47 i0 (.agg #[.string ⟨#[]⟩, .int .i64 0, .string ⟨#[]⟩, .int .i64 0, .int .i64 0, .slice none 0 0, .int .i64 0, .int .i64 0, .int .i64 0, .int .i64 0]) 10 112 Try.underlying22 hi hz0 hz1 hz2 rfl (by decide) _ _ _ rfl ((hown.alloc _).alloc _) ⟨wr.heap.size + 1, 0, none⟩ 1 1 [.string (KEY), .int .i64 1, .string ⟨#[]⟩, .int .i64 0, .int .i64 0, .slice none 0 0, .int .i64 0, .int .i64 0, .int .i64 0, .int .i64 0] rfl rfl (World.news_of_block (cs := #[.string (KEY), .int .i64 1, .string ⟨#[]⟩, .int .i64 0, .int .i64 0, .slice none 0 0, .int .i64 0, .int .i64 0, .int .i64 0, .int .i64 0]) (t := 47) (fr := (0, 0)) (heap_new2 wr _ _)) (fun x hx => by simp only [List.mem_cons, List.not_mem_nil, or_false] at hx; rcases hx with rfl | rfl | rfl | rfl | rfl | rfl | rfl | rfl | rfl | rfl <;> rfl) (by unfold maxLen; omega) (by omega) (by have := hsz; simp; omega) ?_)
      intro v' w3 hown' hgrow _
      rw [← HK.out] at hown'
      have hrow : ∀ q, (Value.slice ax nx cx).ownBlock = some q → B + 1 ≤ q := fun q hq => (hown.lt q hq).1
      have HF3 := hid (((hF.out.alloc (.cells #[.int .u8 (97 + (k : Int))] 5)).alloc (.cells #[.string KEY, .int .i64 1, .string ⟨#[]⟩, .int .i64 0, .int .i64 0, .slice none 0 0, .int .i64 0, .int .i64 0, .int .i64 0, .int .i64 0] 47)).row hgrow hrow)
      have cX3 := cell_rowL HF3.out.pg
      have fX3 := frozen_rowL HF3.out.pg
      unfold leafCs at cX3
      obtain ⟨ay, ny, cy, rfl⟩ : ∃ ao n cap, v' = .slice ao n cap := by
        rcases hown'.2 with ⟨hv, _⟩ | ⟨g, cap, cur, hv, _⟩
        · exact ⟨_, _, _, hv⟩
        · exact ⟨_, _, _, hv⟩
      have HF4 := hid (HF3.out.set (.slice ay ny cy))
      have HO4 : Hid (OwnKeys (w3.setCell ⟨B, 1, none⟩ (.slice ay ny cy)) (B + 1) (.slice ay ny cy) (keysN (k + 1))) := by
        show World.ownsRow _ _ _ _ _ _ _
        rw [keysN_length]
        exact owns_kept_lt hown' (grown_setCell w3 B 1 _) (fun q hq => by cases hq; omega)
      clear hgrow hown hown' hrow HF3 cX HK
      go_wp2
      go_roundw
      case rel => exact ⟨k + 1, _, by omega, by go_num, HF4, HO4⟩
      case measure => simp [intOf]; omega
    · have hka : k = a := by omega
      subst hka
      clear hlk hk
      obtain ⟨p, hp⟩ : ∃ p, k = p + 1 := ⟨k - 1, by have := hca.out; omega⟩
      subst hp
      clear hca
      have hown := hO.out
      unfold OwnKeys at hown
      rw [keysN_length] at hown
      obtain ⟨g, cap, cur, hv, hbg, hg, hncap, hcm, hcs, htk⟩ : ∃ g cap cur, Value.slice ax nx cx = .slice (some ⟨g, 0, none⟩) (p + 1) cap ∧ B + 1 ≤ g ∧ wr.heap[g]? = some (.cells cur 47 (0, 0)) ∧ p + 1 ≤ cap ∧ cap ≤ maxLen ∧ cur.size = cap * 10 ∧ cur.toList.take ((p + 1) * 10) = rowC (keysN (p + 1)) := by
        rcases hown.2 with ⟨_, hn⟩ | ⟨g, cap, cur, h⟩
        · omega
        · exact ⟨g, cap, cur, h⟩
      simp only [Value.slice.injEq] at hv
      obtain ⟨rfl, rfl, rfl⟩ := hv
      have hat : ∀ W, (Instr.indexAt 22 (.slice (some ⟨g, 0, none⟩) (p + 1) cx) (.int .i64 (p : Int))).run Try.prog W = .ok (.pointer (some ⟨g, p * 10, none⟩)) W := fun W => by
        have := atItems (p + 1) cx p (b := g) (o := 0) rfl (by omega) W
        rwa [Nat.zero_add] at this
      obtain ⟨cv, hcv0⟩ : ∃ cv, cur[p * 10]? = some cv := ⟨_, Array.getElem?_eq_getElem (by omega)⟩
      have hcell : wr.cell? ⟨g, p * 10, none⟩ = some cv := (cell_rowL hg _).trans hcv0
      have hfroz := frozen_rowL hg
      have HK1 : Hid (OwnKeys (wr.setCell ⟨g, p * 10, none⟩ (.string (zs m))) (B + 1) (.slice (some ⟨g, 0, none⟩) (p + 1) cx) (keysN p ++ [zs m])) := by
        have h := owns_stored hown (p * 10) (.string (zs m))
        have e := rowC_last (keysN p) (keyN p) (zs m)
        rw [keysN_length] at e
        rw [keysN_succ, e] at h
        show World.ownsRow _ _ _ _ _ _ _
        rw [List.length_append, keysN_length]
        exact h
      have HL1 := hid (hF.out.row (grown_setCell wr g (p * 10) (.string (zs m))) (fun q hq => by cases hq; exact hbg))
      have cP := cell_rowL hF.out.pg
      unfold leafCs at cP
      clear hg htk hcv0 hown hO
      have hmv := hm.out
      go_wp2
      clear hmv
      go_loop [12] (fun x => ∃ j : Nat, j ≤ m ∧ x = .string (zs j)) (fun x => m - strLen x)
      case atStart => exact ⟨0, Nat.zero_le _, rfl⟩
      case round =>
        obtain ⟨j, hj, rfl⟩ := hrel
        have hzj := zs_size j
        have hzn := zs_succ j
        by_cases hjm : j < m
        · go_wp2
          go_round
          case rel => exact ⟨j + 1, by omega, rfl⟩
          case measure => simp [strLen, zs_size]; omega
        · have hje : j = m := by omega
          subst hje
          clear hjm hj hzn
          have hp4 : p < 4 := by omega
          have hIs : isPB (leafK (keysN p ++ [zs j])) = true := by
            rw [is_c1 p (by omega) j (by omega)]
            simp
            omega
          have hB1 : decide ((1 : Int) ≤ (j : Int)) = true := by simp; omega
          have hB8 : decide ((j : Int) ≤ 8) = true := by simp; omega
          have hpz0 : decide (0 < p) = false := by simp; omega
          have hpz1 : decide ((0 : Int) < (p : Int)) = false := by simp; omega
          have hpz2 : decide ((1 : Int) < (p : Int) + 1) = false := by simp; omega
          have hLl : (keysN p ++ [zs j]).length ≤ 1000 := by simp [keysN_length]; omega
          have hLs : ∀ x ∈ keysN p ++ [zs j], x.size ≤ 65535 := by
            intro x hx
            rcases List.mem_append.1 hx with hx | hx
            · simp only [keysN, List.mem_map] at hx
              obtain ⟨i, _, rfl⟩ := hx
              simp [keyN, bs_size]
            · obtain rfl : x = zs j := by simpa using hx
              rw [zs_size]; omega
          go_wp2_with fail
          have HLf := HL1
          have HKf := HK1
          clear HL1 HK1 hcell hfroz hat cP hF
          generalize wr.setCell ⟨g, p * 10, none⟩ (.string (zs j)) = wf at *
          have HHG := hid (fun X (hX : Below wf.heap.size wf X) => (HKf.out.hangs hLl hLs).below hX)
          have HTX := hid (leafK_txn (keysN p ++ [zs j]))
          have HPB : Hid (isPB (leafK (keysN p ++ [zs j])) = true) := hIs
          have HBY : Hid (∀ X, Below wf.heap.size wf X → Calls Try.prog 9 #[.agg #[.int .i64 1, (.slice (some ⟨g, 0, none⟩) (p + 1) cx), .slice none 0 0, .slice none 0 0, .string ⟨#[]⟩, .slice none 0 0, .slice none 0 0, .int .i64 0, .int .u64 0, .int .i64 0, .int .i64 0, .int .i64 0, .int .i64 0, .int .i64 0]] X fun e w' => e = .returned (.string (bs (bytesD (leafK (keysN p ++ [zs j]))))) ∧ Below X.heap.size X w') := fun X hX => bytes_any (leafK (keysN p ++ [zs j])) (.slice (some ⟨g, 0, none⟩) (p + 1) cx) (.slice none 0 0) (.slice none 0 0) (.slice none 0 0) (.slice none 0 0) X (HHG.out X hX) HTX.out
          have HIS : Hid (∀ X, Below wf.heap.size wf X → Calls Try.prog 10 #[.agg #[.int .i64 1, (.slice (some ⟨g, 0, none⟩) (p + 1) cx), .slice none 0 0, .slice none 0 0, .string ⟨#[]⟩, .slice none 0 0, .slice none 0 0, .int .i64 0, .int .u64 0, .int .i64 0, .int .i64 0, .int .i64 0, .int .i64 0, .int .i64 0]] X fun e w' => e = .returned (.bool true) ∧ Below X.heap.size X w') := fun X hX => by
            have := is_any (leafK (keysN p ++ [zs j])) (.slice (some ⟨g, 0, none⟩) (p + 1) cx) (.slice none 0 0) (.slice none 0 0) (.slice none 0 0) (.slice none 0 0) X (HHG.out X hX)
            rw [HPB.out] at this
            exact this
          have HP0 : Hid (∀ X, Below wf.heap.size wf X → X.heap[B]? = some (.cells #[.int .i64 1, (.slice (some ⟨g, 0, none⟩) (p + 1) cx), .slice none 0 0, .slice none 0 0, .string ⟨#[]⟩, .slice none 0 0, .slice none 0 0, .int .i64 0, .int .u64 0, .int .i64 0, .int .i64 0, .int .i64 0, .int .i64 0, .int .i64 0] 32 (0, 0))) := fun X hX => (hX.block B (by have := HLf.out.size; omega)).trans HLf.out.pg
          have HBB : Hid (∀ X, Below wf.heap.size wf X → Below w.heap.size w X) := fun X hX => hb1.out.trans ((HLf.out.below.trans (hX.mono (by have := HLf.out.size; omega))).mono (by have := hb1.out.size; omega))
          have HRB : Hid (∀ X, Calls Try.prog 11 #[.string (bs (bytesD (leafK (keysN p ++ [zs j]))))] X fun e w' => ∃ vi vk vd vv vf, e = .returned (.tuple #[.agg #[.int .i64 1, vi, vk, vd, .string ⟨#[]⟩, vv, vf, .int .i64 0, .int .u64 0, .int .i64 0, .int .i64 0, .int .i64 0, .int .i64 0, .int .i64 0], .nilIface]) ∧ Hangs w' (leafK (keysN p ++ [zs j])) vi vk vd vv vf ∧ Below X.heap.size X w') := fun X => by
            have := read_back (leafK (keysN p ++ [zs j])) HTX.out X
            rw [HPB.out] at this
            exact this
          have cP0 := cell_rowL HLf.out.pg
          unfold leafCs at cP0
          have hnil := Try.eqNilNil
          have hnil2 := Try.eqNil
          clear HPB HTX
          generalize bs (bytesD (leafK (keysN p ++ [zs j]))) = LX at *
          go_wp2_with fail
          clear cP0
          have hb0 : Below wf.heap.size wf wf := Below.refl _ _
          refine (HBY.out _ hb0).mono ?_
          rintro e x1 ⟨rfl, hb⟩
          have hx1 := hb0.trans hb
          clear hb hb0 HBY
          go_wp2_with fail
          refine (HRB.out _).mono ?_
          rintro e x2 ⟨vi, vk, vd, vv, vf, rfl, hq, hb⟩
          obtain ⟨qi, mi, ci, rfl⟩ := hq.items.slice
          obtain ⟨qk, mk, ck, rfl⟩ := hq.keys.slice
          obtain ⟨qd, md, cd, rfl⟩ := hq.kids.slice
          obtain ⟨qv, mv, cv, rfl⟩ := hq.vals.slice
          obtain ⟨qf, mf, cf, rfl⟩ := hq.free.slice
          have hx2 := (hx1.trans (hb.mono hx1.size)).alloc (Nat.le_trans hx1.size hb.size) (.cells #[.int .i64 1, .slice qi mi ci, .slice qk mk ck, .slice qd md cd, .string ⟨#[]⟩, .slice qv mv cv, .slice qf mf cf, .int .i64 0, .int .u64 0, .int .i64 0, .int .i64 0, .int .i64 0, .int .i64 0, .int .i64 0] 32)
          have cP2 := cell_rowL (HP0.out _ hx2)
          have HQ2 := hid (heap_newL x2 (.cells #[.int .i64 1, .slice qi mi ci, .slice qk mk ck, .slice qd md cd, .string ⟨#[]⟩, .slice qv mv cv, .slice qf mf cf, .int .i64 0, .int .u64 0, .int .i64 0, .int .i64 0, .int .i64 0, .int .i64 0, .int .i64 0] 32))
          have HG2 : Hid (Hangs (x2.alloc (.cells #[.int .i64 1, .slice qi mi ci, .slice qk mk ck, .slice qd md cd, .string ⟨#[]⟩, .slice qv mv cv, .slice qf mf cf, .int .i64 0, .int .u64 0, .int .i64 0, .int .i64 0, .int .i64 0, .int .i64 0, .int .i64 0] 32)) (leafK (keysN p ++ [zs j])) (.slice qi mi ci) (.slice qk mk ck) (.slice qd md cd) (.slice qv mv cv) (.slice qf mf cf)) := hq.below ((Below.refl _ _).alloc (Nat.le_refl _) _)
          clear hq hb hx1 HRB
          go_wp2_with fail
          clear cP2
          generalize x2.alloc (.cells #[.int .i64 1, .slice qi mi ci, .slice qk mk ck, .slice qd md cd, .string ⟨#[]⟩, .slice qv mv cv, .slice qf mf cf, .int .i64 0, .int .u64 0, .int .i64 0, .int .i64 0, .int .i64 0, .int .i64 0, .int .i64 0] 32) = X3 at *
          generalize x2.heap.size = Q at *
          refine (HIS.out _ hx2).mono ?_
          rintro e x4 ⟨rfl, hb⟩
          have hx4 := hx2.trans (hb.mono hx2.size)
          have HQ4 := hid ((hb.block Q (Array.getElem?_eq_some_iff.1 HQ2.out).1).trans HQ2.out)
          have HG4 := hid (HG2.out.below hb)
          have cP4 := cell_rowL (HP0.out _ hx4)
          have cQ4 := cell_rowL HQ4.out
          clear hb hx2 HIS HQ2 HG2
          go_wp2_with fail
          clear cP4 cQ4
          have HSQ := same_any (leafK (keysN p ++ [zs j])) (leafK (keysN p ++ [zs j])) (.slice (some ⟨g, 0, none⟩) (p + 1) cx) (.slice none 0 0) (.slice none 0 0) (.slice none 0 0) (.slice none 0 0) _ _ _ _ _ _ (HHG.out _ hx4) HG4.out
          rw [same_self] at HSQ
          refine HSQ.mono ?_
          rintro e x5 ⟨rfl, hb⟩
          have hx5 := HBB.out _ (hx4.trans (hb.mono hx4.size))
          clear hb HSQ HP0 HBB
          go_wp2
          go_ret
          exact ⟨rfl, hx5⟩

set_option maxRecDepth 100000 in
set_option maxHeartbeats 4000000 in
theorem leafs_1tB (n q : Int) (w : World) (h0 : 0 ≤ n) (h1 : n < 256) (h2 : 0 ≤ q) (h3 : q < 256) (a m : Nat) (ha : n % 7 = a) (hm : q % 12 = m) (ha7 : a < 7) (hm12 : m < 12) (hca : 0 < a) (hg4 : a ≤ 1) (hm1 : m < 1) :
    Calls Try.prog 4 #[.int .u8 n, .int .u8 q, .bool true] w fun e w' => e = .returned (.bool true) ∧ Below w.heap.size w w' := by
  replace hca := hid hca
  obtain ⟨i0, hi, hz0, hz1, hz2⟩ := info_parts Try.infoItem
  go_enter Try.func4, Try.ntmps4
  go_wp2_with fail
  refine (known_any _).mono ?_
  rintro e w1 ⟨rfl, hb1⟩
  go_wp2
  have hL0 : Lf w1 w1.heap.size (w1.alloc (.cells (leafCs (.slice none 0 0)) 32)) (.slice none 0 0) := ⟨heap_newL _ _, (Below.refl _ _).alloc (Nat.le_refl _) _, by simp⟩
  unfold leafCs at hL0
  replace hL0 := hid hL0
  generalize w1.alloc (.cells #[.int .i64 1, .slice none 0 0, .slice none 0 0, .slice none 0 0, .string ⟨#[]⟩, .slice none 0 0, .slice none 0 0, .int .i64 0, .int .u64 0, .int .i64 0, .int .i64 0, .int .i64 0, .int .i64 0, .int .i64 0] 32) = W1 at *
  generalize hBd : w1.heap.size = B at *
  replace hb1 := hid hb1
  replace ha := hid ha
  replace hm := hid hm
  go_loopw [9] (fun i wr => ∃ (k : Nat) (v : Value), k ≤ a ∧ i = .int .i64 k ∧ Hid (Lf w1 B wr v) ∧ Hid (OwnKeys wr (B + 1) v (keysN k))) (fun i _ => a - (intOf i).toNat)
  case atStart => exact ⟨0, _, Nat.zero_le _, rfl, hL0, World.ownsRow_nil _ _ _ _⟩
  case round =>
    obtain ⟨k, v, hk, rfl, hF, hO⟩ := hrel
    clear hL0
    obtain ⟨ax, nx, cx, rfl⟩ := hO.out.slice
    have hsz := hF.out.size
    by_cases hlk : k < a
    · have cX := cell_rowL hF.out.pg
      unfold leafCs at cX
      have hown : wr.ownsRow (B + 1) 47 10 (.slice ax nx cx) k (rowC (keysN k)) := by
        have := hO.out
        unfold OwnKeys at this
        rwa [keysN_length] at this
      have HK : Hid (rowC (keysN (k + 1)) = rowC (keysN k) ++ [.string (keyN k), .int .i64 1, .string ⟨#[]⟩, .int .i64 0, .int .i64 0, .slice none 0 0, .int .i64 0, .int .i64 0, .int .i64 0, .int .i64 0]) := by
        show _ = _
        rw [keysN_succ, rowC_snoc]
        rfl
      have hc8 : ((UInt8.ofNat (97 + k)).toNat : Int) = 97 + (k : Int) := by
        rw [UInt8.toNat_ofNat', Nat.mod_eq_of_lt (by omega)]
        omega
      have hcv : (convert 42 9 (.slice (some ⟨wr.heap.size, 0, none⟩) 1 1)).run Try.prog (wr.alloc (.cells #[.int .u8 (97 + (k : Int))] 5)) = .ok (.string (bs [UInt8.ofNat (97 + k)])) (wr.alloc (.cells #[.int .u8 (97 + (k : Int))] 5)) := by
        refine conv_one _ _ _ ?_
        rw [hc8]
        exact (cell_rowL (heap_newL wr (.cells #[.int .u8 (97 + (k : Int))] 5)) 0).trans rfl
      have hkn : (⟨#[107]⟩ : ByteArray) ++ bs [UInt8.ofNat (97 + k)] = keyN k := bs_append [107] [UInt8.ofNat (97 + k)]
      have hz1' : (bs [UInt8.ofNat (97 + k)]).size = 1 := by rw [bs_size]; rfl
      clear hc8
      generalize UInt8.ofNat (97 + k) = ch at *
      generalize bs [ch] = chs at *
      generalize keyN k = KEY at *
      go_wp2_with (at_builtin; refine wpList_append_own _ rfl _ _ 22 rfl (B + 1) 47 i0 (.agg #[.string ⟨#[]⟩, .int .i64 0, .string ⟨#[]⟩, .int .i64 0, .int .i64 0, .slice none 0 0, .int .i64 0, .int .i64 0, .int .i64 0, .int .i64 0]) 10 112 Try.underlying22 hi hz0 hz1 hz2 rfl (by decide) _ _ _ rfl ((hown.alloc _).alloc _) ⟨wr.heap.size + 1, 0, none⟩ 1 1 [.string (KEY), .int .i64 1, .string ⟨#[]⟩, .int .i64 0, .int .i64 0, .slice none 0 0, .int .i64 0, .int .i64 0, .int .i64 0, .int .i64 0] rfl rfl (World.news_of_block (cs := #[.string (KEY), .int .i64 1, .string ⟨#[]⟩, .int .i64 0, .int .i64 0, .slice none 0 0, .int .i64 0, .int .i64 0, .int .i64 0, .int .i64 0]) (t := 47) (fr := (0, 0)) (heap_new2 wr _ _)) (fun x hx => by simp only [List.mem_cons, List.not_mem_nil, or_false] at hx; rcases hx with rfl | rfl | rfl | rfl | rfl | rfl | rfl | rfl | rfl | rfl <;> rfl) (by unfold maxLen; omega) (by omega) (by have := hsz; simp; omega) ?_)
      intro v' w3 hown' hgrow _
      rw [← HK.out] at hown'
      have hrow : ∀ q, (Value.slice ax nx cx).ownBlock = some q → B + 1 ≤ q := fun q hq => (hown.lt q hq).1
      have HF3 := hid (((hF.out.alloc (.cells #[.int .u8 (97 + (k : Int))] 5)).alloc (.cells #[.string KEY, .int .i64 1, .string ⟨#[]⟩, .int .i64 0, .int .i64 0, .slice none 0 0, .int .i64 0, .int .i64 0, .int .i64 0, .int .i64 0] 47)).row hgrow hrow)
      have cX3 := cell_rowL HF3.out.pg
      have fX3 := frozen_rowL HF3.out.pg
      unfold leafCs at cX3
      obtain ⟨ay, ny, cy, rfl⟩ : ∃ ao n cap, v' = .slice ao n cap := by
        rcases hown'.2 with ⟨hv, _⟩ | ⟨g, cap, cur, hv, _⟩
        · exact ⟨_, _, _, hv⟩
        · exact ⟨_, _, _, hv⟩
      have HF4 := hid (HF3.out.set (.slice ay ny cy))
      have HO4 : Hid (OwnKeys (w3.setCell ⟨B, 1, none⟩ (.slice ay ny cy)) (B + 1) (.slice ay ny cy) (keysN (k + 1))) := by
        show World.ownsRow _ _ _ _ _ _ _
        rw [keysN_length]
        exact owns_kept_lt hown' (grown_setCell w3 B 1 _) (fun q hq => by cases hq; omega)
      clear hgrow hown hown' hrow HF3 cX HK
      go_wp2
      go_roundw
      case rel => exact ⟨k + 1, _, by omega, by go_num, HF4, HO4⟩
      case measure => simp [intOf]; omega
    · have hka : k = a := by omega
      subst hka
      clear hlk hk
      obtain ⟨p, hp⟩ : ∃ p, k = p + 1 := ⟨k - 1, by have := hca.out; omega⟩
      subst hp
      clear hca
      have hown := hO.out
      unfold OwnKeys at hown
      rw [keysN_length] at hown
      obtain ⟨g, cap, cur, hv, hbg, hg, hncap, hcm, hcs, htk⟩ : ∃ g cap cur, Value.slice ax nx cx = .slice (some ⟨g, 0, none⟩) (p + 1) cap ∧ B + 1 ≤ g ∧ wr.heap[g]? = some (.cells cur 47 (0, 0)) ∧ p + 1 ≤ cap ∧ cap ≤ maxLen ∧ cur.size = cap * 10 ∧ cur.toList.take ((p + 1) * 10) = rowC (keysN (p + 1)) := by
        rcases hown.2 with ⟨_, hn⟩ | ⟨g, cap, cur, h⟩
        · omega
        · exact ⟨g, cap, cur, h⟩
      simp only [Value.slice.injEq] at hv
      obtain ⟨rfl, rfl, rfl⟩ := hv
      have hat : ∀ W, (Instr.indexAt 22 (.slice (some ⟨g, 0, none⟩) (p + 1) cx) (.int .i64 (p : Int))).run Try.prog W = .ok (.pointer (some ⟨g, p * 10, none⟩)) W := fun W => by
        have := atItems (p + 1) cx p (b := g) (o := 0) rfl (by omega) W
        rwa [Nat.zero_add] at this
      obtain ⟨cv, hcv0⟩ : ∃ cv, cur[p * 10]? = some cv := ⟨_, Array.getElem?_eq_getElem (by omega)⟩
      have hcell : wr.cell? ⟨g, p * 10, none⟩ = some cv := (cell_rowL hg _).trans hcv0
      have hfroz := frozen_rowL hg
      have HK1 : Hid (OwnKeys (wr.setCell ⟨g, p * 10, none⟩ (.string (zs m))) (B + 1) (.slice (some ⟨g, 0, none⟩) (p + 1) cx) (keysN p ++ [zs m])) := by
        have h := owns_stored hown (p * 10) (.string (zs m))
        have e := rowC_last (keysN p) (keyN p) (zs m)
        rw [keysN_length] at e
        rw [keysN_succ, e] at h
        show World.ownsRow _ _ _ _ _ _ _
        rw [List.length_append, keysN_length]
        exact h
      have HL1 := hid (hF.out.row (grown_setCell wr g (p * 10) (.string (zs m))) (fun q hq => by cases hq; exact hbg))
      have cP := cell_rowL hF.out.pg
      unfold leafCs at cP
      clear hg htk hcv0 hown hO
      have hmv := hm.out
      go_wp2
      clear hmv
      go_loop [12] (fun x => ∃ j : Nat, j ≤ m ∧ x = .string (zs j)) (fun x => m - strLen x)
      case atStart => exact ⟨0, Nat.zero_le _, rfl⟩
      case round =>
        obtain ⟨j, hj, rfl⟩ := hrel
        have hzj := zs_size j
        have hzn := zs_succ j
        by_cases hjm : j < m
        · exact absurd hjm (by omega)
        · have hje : j = m := by omega
          subst hje
          clear hjm hj hzn
          have hIs : isPB (leafK (keysN p ++ [zs j])) = false := by
            rw [is_c1 p (by omega) j (by omega)]
            simp
            omega
          have hB1 : decide ((1 : Int) ≤ (j : Int)) = false := by simp; omega
          have hpz0 : decide (0 < p) = false := by simp; omega
          have hpz1 : decide ((0 : Int) < (p : Int)) = false := by simp; omega
          have hpz2 : decide ((1 : Int) < (p : Int) + 1) = false := by simp; omega
          have hLl : (keysN p ++ [zs j]).length ≤ 1000 := by simp [keysN_length]; omega
          have hLs : ∀ x ∈ keysN p ++ [zs j], x.size ≤ 65535 := by
            intro x hx
            rcases List.mem_append.1 hx with hx | hx
            · simp only [keysN, List.mem_map] at hx
              obtain ⟨i, _, rfl⟩ := hx
              simp [keyN, bs_size]
            · obtain rfl : x = zs j := by simpa using hx
              rw [zs_size]; omega
          go_wp2_with fail
          have HLf := HL1
          have HKf := HK1
          clear HL1 HK1 hcell hfroz hat cP hF
          generalize wr.setCell ⟨g, p * 10, none⟩ (.string (zs j)) = wf at *
          have HHG := hid (fun X (hX : Below wf.heap.size wf X) => (HKf.out.hangs hLl hLs).below hX)
          have HTX := hid (leafK_txn (keysN p ++ [zs j]))
          have HPB : Hid (isPB (leafK (keysN p ++ [zs j])) = false) := hIs
          have HBY : Hid (∀ X, Below wf.heap.size wf X → Calls Try.prog 9 #[.agg #[.int .i64 1, (.slice (some ⟨g, 0, none⟩) (p + 1) cx), .slice none 0 0, .slice none 0 0, .string ⟨#[]⟩, .slice none 0 0, .slice none 0 0, .int .i64 0, .int .u64 0, .int .i64 0, .int .i64 0, .int .i64 0, .int .i64 0, .int .i64 0]] X fun e w' => e = .returned (.string (bs (bytesD (leafK (keysN p ++ [zs j]))))) ∧ Below X.heap.size X w') := fun X hX => bytes_any (leafK (keysN p ++ [zs j])) (.slice (some ⟨g, 0, none⟩) (p + 1) cx) (.slice none 0 0) (.slice none 0 0) (.slice none 0 0) (.slice none 0 0) X (HHG.out X hX) HTX.out
          have HIS : Hid (∀ X, Below wf.heap.size wf X → Calls Try.prog 10 #[.agg #[.int .i64 1, (.slice (some ⟨g, 0, none⟩) (p + 1) cx), .slice none 0 0, .slice none 0 0, .string ⟨#[]⟩, .slice none 0 0, .slice none 0 0, .int .i64 0, .int .u64 0, .int .i64 0, .int .i64 0, .int .i64 0, .int .i64 0, .int .i64 0]] X fun e w' => e = .returned (.bool false) ∧ Below X.heap.size X w') := fun X hX => by
            have := is_any (leafK (keysN p ++ [zs j])) (.slice (some ⟨g, 0, none⟩) (p + 1) cx) (.slice none 0 0) (.slice none 0 0) (.slice none 0 0) (.slice none 0 0) X (HHG.out X hX)
            rw [HPB.out] at this
            exact this
          have HP0 : Hid (∀ X, Below wf.heap.size wf X → X.heap[B]? = some (.cells #[.int .i64 1, (.slice (some ⟨g, 0, none⟩) (p + 1) cx), .slice none 0 0, .slice none 0 0, .string ⟨#[]⟩, .slice none 0 0, .slice none 0 0, .int .i64 0, .int .u64 0, .int .i64 0, .int .i64 0, .int .i64 0, .int .i64 0, .int .i64 0] 32 (0, 0))) := fun X hX => (hX.block B (by have := HLf.out.size; omega)).trans HLf.out.pg
          have HBB : Hid (∀ X, Below wf.heap.size wf X → Below w.heap.size w X) := fun X hX => hb1.out.trans ((HLf.out.below.trans (hX.mono (by have := HLf.out.size; omega))).mono (by have := hb1.out.size; omega))
          have HRB : Hid (∀ X, Calls Try.prog 11 #[.string (bs (bytesD (leafK (keysN p ++ [zs j]))))] X fun e w' => ∃ vi vk vd vv vf, e = .returned (.tuple #[.agg #[.int .i64 0, vi, vk, vd, .string ⟨#[]⟩, vv, vf, .int .i64 0, .int .u64 0, .int .i64 0, .int .i64 0, .int .i64 0, .int .i64 0, .int .i64 0], .iface 44 (.int .i64 12)]) ∧ Hangs w' (noPage) vi vk vd vv vf ∧ Below X.heap.size X w') := fun X => by
            have := read_back (leafK (keysN p ++ [zs j])) HTX.out X
            rw [HPB.out] at this
            exact this
          have cP0 := cell_rowL HLf.out.pg
          unfold leafCs at cP0
          have hnil := Try.eqNilNil
          have hnil2 := Try.eqNil
          clear HPB HTX
          generalize bs (bytesD (leafK (keysN p ++ [zs j]))) = LX at *
          go_wp2_with fail
          clear cP0
          have hb0 : Below wf.heap.size wf wf := Below.refl _ _
          refine (HBY.out _ hb0).mono ?_
          rintro e x1 ⟨rfl, hb⟩
          have hx1 := hb0.trans hb
          clear hb hb0 HBY
          go_wp2_with fail
          refine (HRB.out _).mono ?_
          rintro e x2 ⟨vi, vk, vd, vv, vf, rfl, hq, hb⟩
          obtain ⟨qi, mi, ci, rfl⟩ := hq.items.slice
          obtain ⟨qk, mk, ck, rfl⟩ := hq.keys.slice
          obtain ⟨qd, md, cd, rfl⟩ := hq.kids.slice
          obtain ⟨qv, mv, cv, rfl⟩ := hq.vals.slice
          obtain ⟨qf, mf, cf, rfl⟩ := hq.free.slice
          have hx2 := (hx1.trans (hb.mono hx1.size)).alloc (Nat.le_trans hx1.size hb.size) (.cells #[.int .i64 0, .slice qi mi ci, .slice qk mk ck, .slice qd md cd, .string ⟨#[]⟩, .slice qv mv cv, .slice qf mf cf, .int .i64 0, .int .u64 0, .int .i64 0, .int .i64 0, .int .i64 0, .int .i64 0, .int .i64 0] 32)
          have cP2 := cell_rowL (HP0.out _ hx2)
          have HQ2 := hid (heap_newL x2 (.cells #[.int .i64 0, .slice qi mi ci, .slice qk mk ck, .slice qd md cd, .string ⟨#[]⟩, .slice qv mv cv, .slice qf mf cf, .int .i64 0, .int .u64 0, .int .i64 0, .int .i64 0, .int .i64 0, .int .i64 0, .int .i64 0] 32))
          have HG2 : Hid (Hangs (x2.alloc (.cells #[.int .i64 0, .slice qi mi ci, .slice qk mk ck, .slice qd md cd, .string ⟨#[]⟩, .slice qv mv cv, .slice qf mf cf, .int .i64 0, .int .u64 0, .int .i64 0, .int .i64 0, .int .i64 0, .int .i64 0, .int .i64 0] 32)) (noPage) (.slice qi mi ci) (.slice qk mk ck) (.slice qd md cd) (.slice qv mv cv) (.slice qf mf cf)) := hq.below ((Below.refl _ _).alloc (Nat.le_refl _) _)
          clear hq hb hx1 HRB
          go_wp2_with fail
          clear cP2
          generalize x2.alloc (.cells #[.int .i64 0, .slice qi mi ci, .slice qk mk ck, .slice qd md cd, .string ⟨#[]⟩, .slice qv mv cv, .slice qf mf cf, .int .i64 0, .int .u64 0, .int .i64 0, .int .i64 0, .int .i64 0, .int .i64 0, .int .i64 0] 32) = X3 at *
          generalize x2.heap.size = Q at *
          refine (HIS.out _ hx2).mono ?_
          rintro e x4 ⟨rfl, hb⟩
          have hx4 := hx2.trans (hb.mono hx2.size)
          have HQ4 := hid ((hb.block Q (Array.getElem?_eq_some_iff.1 HQ2.out).1).trans HQ2.out)
          have HG4 := hid (HG2.out.below hb)
          have cP4 := cell_rowL (HP0.out _ hx4)
          have cQ4 := cell_rowL HQ4.out
          clear hb hx2 HIS HQ2 HG2
          go_wp2_with fail
          clear cP4 cQ4
          refine (is_same _).mono ?_
          rintro e x5 ⟨rfl, rfl⟩
          have hx5 := HBB.out _ hx4
          go_wp2
          go_ret
          exact ⟨rfl, hx5⟩
end Go.Proofs.Ytkfhkhjoindcbaa
