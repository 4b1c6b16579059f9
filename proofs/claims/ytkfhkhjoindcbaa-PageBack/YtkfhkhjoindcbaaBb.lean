/- PageBack's walk: of a first page that is one, as far as its bytes are changed. -/
import Derived.Test.YtkfhkhjoindcbaaBd
namespace Go.Proofs.Ytkfhkhjoindcbaa
open Go.RowKit Go.Sort

theorem Try.neqNilNil (w : World) : (binOp .neq 38 .nilIface .nilIface).run Try.prog w = .ok (.bool false) w := by kernel_rfl

set_option maxHeartbeats 4000000 in
set_option maxRecDepth 100000 in
theorem back_some_n (a b : PageD) (vi vk vd vv vf ui uk ud uv uf : Value) (at' by' : Int) (w : World) (ha : Hangs w a vi vk vd vv vf) (hb : Hangs w b ui uk ud uv uf) (ta : TxnOk a) (tb : TxnOk b) (hi : isPB a = true) (hR : isPB b = false) (S : Bool) (hS : samePB a b = S) (h0 : 0 ≤ at') (h1 : at' < 65536) (h2 : 0 ≤ by') (h3 : by' < 256) :
    Calls Try.prog 3 #[.agg (pageCells a vi vk vd vv vf).toArray, .agg (pageCells b ui uk ud uv uf).toArray, .int .u16 at', .int .u8 by'] w fun e w' => e = .returned (.bool true) ∧ Below w.heap.size w w' := by
  obtain ⟨R, hRe⟩ : ∃ R, R = false := ⟨_, rfl⟩
  rw [← hRe] at hR
  have hT0 := two_start w a b (pageCells a vi vk vd vv vf).toArray (pageCells b ui uk ud uv uf).toArray vi vk vd vv vf ui uk ud uv uf ha hb
  have HBY := hid (fun X (h : Hangs X a vi vk vd vv vf) => bytes_any a vi vk vd vv vf X h ta)
  have HBB := hid (fun X (h : Hangs X b ui uk ud uv uf) => bytes_any b ui uk ud uv uf X h tb)
  have HIS := hid (fun X (h : Hangs X a vi vk vd vv vf) => is_any a vi vk vd vv vf X h)
  have HIB := hid (fun X (h : Hangs X b ui uk ud uv uf) => is_any b ui uk ud uv uf X h)
  have HSA := hid (fun X (h : Hangs X a vi vk vd vv vf) (h' : Hangs X b ui uk ud uv uf) => same_any a b vi vk vd vv vf ui uk ud uv uf X h h')
  have HSX := hid (fun X xi xk xd xv xf (h' : Hangs X a xi xk xd xv xf) (h : Hangs X a vi vk vd vv vf) => same_any a a xi xk xd xv xf vi vk vd vv vf X h' h)
  have HRB := hid (fun X => read_back a ta X)
  have hE : R = true → ((bs (bytesD b)).toList == (bs (bytesD a)).toList) = S := fun hr => by
    have e1 : (bs (bytesD b)).toList = bytesD b := by rw [ByteArray.toList_eq, bs_list]
    have e2 : (bs (bytesD a)).toList = bytesD a := by rw [ByteArray.toList_eq, bs_list]
    rw [e1, e2, ← hS, Bool.eq_iff_iff, sameP_iff, beq_iff_eq]
    exact bytes_inj hi (hR.trans hr) ta tb
  have hlen := bytes_some a hi
  have hzs := bs_size (bytesD a)
  have hle := bytes_le a ta
  have HSM := hid (bytes_lt a ta)
  have HCH := hid (fun k x hk hx => changed_corrupt a hi k x hk hx)
  have HLE := hid (less_corrupt a hi ta)
  have HMO := hid (more_corrupt a hi ta 0)
  have HFL := hid (fun k hk q h0 h1 => readE_flip a hi ta k hk q h0 h1)
  have HOK := hid (okR_bytes a hi ta).1
  rw [hi] at HIS HRB
  rw [hR] at HIB
  rw [hS] at HSA
  simp only [same_self] at HSX
  clear ha hb ta tb hi hS
  generalize bytesD a = L at *
  generalize bytesD b = LB at *
  obtain ⟨ak, ai, ay, ad, at1, av, af, an, ⟨ax, ⟨ag, ac, aq⟩, ar, al⟩⟩ := a
  obtain ⟨bk, bi, by1, bd, bt, bv, bf, bn, ⟨bx, ⟨bg, bc, bq⟩, br, bl⟩⟩ := b
  unfold pageCells at *
  simp only [↓reduceIte] at hT0 HBY HIS HBB HIB HSA HSX HRB
  have HT0 := hid hT0
  clear hT0 hR
  go_enter Try.func3, Try.ntmps3
  go_wp2_with fail
  refine (known_any _).mono ?_
  rintro e w1 ⟨rfl, hb1⟩
  have HT1 := hid (HT0.out.next hb1)
  have c1 := cell_rowL HT1.out.pa
  clear hb1 HT0
  go_wp2_with fail
  clear c1
  refine (HBY.out _ HT1.out.ha).mono ?_
  rintro e w2 ⟨rfl, hb2⟩
  have HT2 := hid (HT1.out.next hb2)
  have c2 := cell_rowL HT2.out.pa
  clear hb2 HT1 HBY
  go_wp2_with fail
  clear c2
  refine (HIS.out _ HT2.out.ha).mono ?_
  rintro e w3 ⟨rfl, hb3⟩
  have HT3 := hid (HT2.out.next hb3)
  clear hb3 HT2 HIS
  go_wp2_with fail
  refine (HRB.out _).mono ?_
  rintro e w4 ⟨xi, xk, xd, xv, xf, rfl, hx, hb4⟩
  obtain ⟨si0, si1, si2, rfl⟩ := hx.items.slice
  obtain ⟨sk0, sk1, sk2, rfl⟩ := hx.keys.slice
  obtain ⟨sd0, sd1, sd2, rfl⟩ := hx.kids.slice
  obtain ⟨sv0, sv1, sv2, rfl⟩ := hx.vals.slice
  obtain ⟨sf0, sf1, sf2, rfl⟩ := hx.free.slice
  have HT5 := hid ((HT3.out.next hb4).next ((Below.refl _ _).alloc (Nat.le_refl _) (.cells #[.int .i64 ak, .slice si0 si1 si2, .slice sk0 sk1 sk2, .slice sd0 sd1 sd2, .string at1, .slice sv0 sv1 sv2, .slice sf0 sf1 sf2, .int .i64 an, .int .u64 ax, .int .i64 ag, .int .i64 ac, .int .i64 aq, .int .i64 ar, .int .i64 al] 32)))
  have HX5 : Hid (Hangs (w4.alloc (.cells #[.int .i64 ak, .slice si0 si1 si2, .slice sk0 sk1 sk2, .slice sd0 sd1 sd2, .string at1, .slice sv0 sv1 sv2, .slice sf0 sf1 sf2, .int .i64 an, .int .u64 ax, .int .i64 ag, .int .i64 ac, .int .i64 aq, .int .i64 ar, .int .i64 al] 32)) ⟨ak, ai, ay, ad, at1, av, af, an, ⟨ax, ⟨ag, ac, aq⟩, ar, al⟩⟩ (.slice si0 si1 si2) (.slice sk0 sk1 sk2) (.slice sd0 sd1 sd2) (.slice sv0 sv1 sv2) (.slice sf0 sf1 sf2)) := hx.below ((Below.refl _ _).alloc (Nat.le_refl _) _)
  have HN5 := hid (heap_newL w4 (.cells #[.int .i64 ak, .slice si0 si1 si2, .slice sk0 sk1 sk2, .slice sd0 sd1 sd2, .string at1, .slice sv0 sv1 sv2, .slice sf0 sf1 sf2, .int .i64 an, .int .u64 ax, .int .i64 ag, .int .i64 ac, .int .i64 aq, .int .i64 ar, .int .i64 al] 32))
  clear hb4 HT3 hx HRB
  go_wp2_with fail
  generalize (w4.alloc (.cells #[.int .i64 ak, .slice si0 si1 si2, .slice sk0 sk1 sk2, .slice sd0 sd1 sd2, .string at1, .slice sv0 sv1 sv2, .slice sf0 sf1 sf2, .int .i64 an, .int .u64 ax, .int .i64 ag, .int .i64 ac, .int .i64 aq, .int .i64 ar, .int .i64 al] 32)) = X at *
  generalize w4.heap.size = Q at *
  have cX := fun d os => cell_rowL (((below_regrown X d os).block Q (Array.getElem?_eq_some_iff.1 HN5.out).1).trans HN5.out)
  have cA := fun d os => cell_rowL (((below_regrown X d os).block w.heap.size (Array.getElem?_eq_some_iff.1 HT5.out.pa).1).trans HT5.out.pa)
  have cB := fun d os => cell_rowL (((below_regrown X d os).block (w.heap.size + 1) (Array.getElem?_eq_some_iff.1 HT5.out.pb).1).trans HT5.out.pb)
  have G1 : Hid (∀ d os, Calls Try.prog 12 #[.agg #[.int .i64 ak, .slice si0 si1 si2, .slice sk0 sk1 sk2, .slice sd0 sd1 sd2, .string at1, .slice sv0 sv1 sv2, .slice sf0 sf1 sf2, .int .i64 an, .int .u64 ax, .int .i64 ag, .int .i64 ac, .int .i64 aq, .int .i64 ar, .int .i64 al], .agg #[.int .i64 ak, vi, vk, vd, .string at1, vv, vf, .int .i64 an, .int .u64 ax, .int .i64 ag, .int .i64 ac, .int .i64 aq, .int .i64 ar, .int .i64 al]] (grow (redrawn X d) os) fun e w'' => e = .returned (.bool true) ∧ ∃ p : Regrown, w'' = grow (redrawn X p.d) p.os) := fun d os => Calls.regrown_of (HSX.out _ _ _ _ _ _ (HX5.out.below (below_regrown X d os)) (HT5.out.ha.below (below_regrown X d os)))
  have G2 : Hid (∀ d os, Calls Try.prog 10 #[.agg #[.int .i64 bk, ui, uk, ud, .string bt, uv, uf, .int .i64 bn, .int .u64 bx, .int .i64 bg, .int .i64 bc, .int .i64 bq, .int .i64 br, .int .i64 bl]] (grow (redrawn X d) os) fun e w'' => e = .returned (.bool R) ∧ ∃ p : Regrown, w'' = grow (redrawn X p.d) p.os) := fun d os => Calls.regrown_of (HIB.out _ (HT5.out.hb.below (below_regrown X d os)))
  have G3 : Hid (∀ d os, Calls Try.prog 9 #[.agg #[.int .i64 bk, ui, uk, ud, .string bt, uv, uf, .int .i64 bn, .int .u64 bx, .int .i64 bg, .int .i64 bc, .int .i64 bq, .int .i64 br, .int .i64 bl]] (grow (redrawn X d) os) fun e w'' => e = .returned (.string (bs LB)) ∧ ∃ p : Regrown, w'' = grow (redrawn X p.d) p.os) := fun d os => Calls.regrown_of (HBB.out _ (HT5.out.hb.below (below_regrown X d os)))
  have G4 : Hid (∀ d os, Calls Try.prog 12 #[.agg #[.int .i64 ak, vi, vk, vd, .string at1, vv, vf, .int .i64 an, .int .u64 ax, .int .i64 ag, .int .i64 ac, .int .i64 aq, .int .i64 ar, .int .i64 al], .agg #[.int .i64 bk, ui, uk, ud, .string bt, uv, uf, .int .i64 bn, .int .u64 bx, .int .i64 bg, .int .i64 bc, .int .i64 bq, .int .i64 br, .int .i64 bl]] (grow (redrawn X d) os) fun e w'' => e = .returned (.bool S) ∧ ∃ p : Regrown, w'' = grow (redrawn X p.d) p.os) := fun d os => Calls.regrown_of (HSA.out _ (HT5.out.ha.below (below_regrown X d os)) (HT5.out.hb.below (below_regrown X d os)))
  have hnn := Try.neqNilNil
  have hl9 : decide (((L.length : Nat) : Int) < 9) = false := by simp; omega
  clear HSX HIB HBB HSA HX5 HN5
  obtain ⟨K, hK⟩ : ∃ K : Nat, at' % (L.length : Int) = (K : Int) := ⟨(at' % (L.length : Int)).toNat, by have := Int.emod_nonneg at' (b := (L.length : Int)) (by omega); omega⟩
  have hKl : K < L.length := by have := Int.emod_lt_of_pos at' (b := (L.length : Int)) (by omega); omega
  have hLm : L.length ≤ maxLen := by rw [← hzs]; exact hle
  have hLm2 := HSM.out
  unfold maxLen at hLm2
  have hto : ((L.length : Int) - 1).toNat = L.length - 1 := by omega
  have HL1 : Hid (∀ W, Calls Try.prog 11 #[.string ((bs L).extract 0 (L.length - 1))] W fun e w' => ∃ (zk : Int) (zi0 : Option Addr) (zi1 zi2 : Nat) (zk0 : Option Addr) (zk1 zk2 : Nat) (zd0 : Option Addr) (zd1 zd2 : Nat) (zt : ByteArray) (zv0 : Option Addr) (zv1 zv2 : Nat) (zf0 : Option Addr) (zf1 zf2 : Nat) (zn zx zg zc zq zr zl : Int), e = .returned (.tuple #[.agg #[.int .i64 zk, .slice zi0 zi1 zi2, .slice zk0 zk1 zk2, .slice zd0 zd1 zd2, .string zt, .slice zv0 zv1 zv2, .slice zf0 zf1 zf2, .int .i64 zn, .int .u64 zx, .int .i64 zg, .int .i64 zc, .int .i64 zq, .int .i64 zr, .int .i64 zl], .iface 44 (.int .i64 12)]) ∧ Below W.heap.size W w') := fun W => by
    rw [take_bs]
    exact read_cells _ _ (readE_less HLE.out) W (by simp; omega)
  have HL2 : Hid (∀ W, Calls Try.prog 11 #[.string (bs L ++ ⟨#[0]⟩)] W fun e w' => ∃ (zk : Int) (zi0 : Option Addr) (zi1 zi2 : Nat) (zk0 : Option Addr) (zk1 zk2 : Nat) (zd0 : Option Addr) (zd1 zd2 : Nat) (zt : ByteArray) (zv0 : Option Addr) (zv1 zv2 : Nat) (zf0 : Option Addr) (zf1 zf2 : Nat) (zn zx zg zc zq zr zl : Int), e = .returned (.tuple #[.agg #[.int .i64 zk, .slice zi0 zi1 zi2, .slice zk0 zk1 zk2, .slice zd0 zd1 zd2, .string zt, .slice zv0 zv1 zv2, .slice zf0 zf1 zf2, .int .i64 zn, .int .u64 zx, .int .i64 zg, .int .i64 zc, .int .i64 zq, .int .i64 zr, .int .i64 zl], .iface 44 (.int .i64 12)]) ∧ Below W.heap.size W w') := fun W => by
    rw [show bs L ++ ⟨#[0]⟩ = bs (L ++ [0]) from bs_append L [0]]
    exact read_cells _ _ (readE_more HMO.out) W (by have := HSM.out; simp; omega)
  clear HLE HMO HSM HCH HOK
  subst hRe
  clear hE
  · refine wp_region_quiet_below (by kernel_rfl) (by kernel_rfl) ?_
    repeat (go_big_quiet_step (first | exact G1.out _ _ | exact G2.out _ _))
    refine wpQuiet_nil ?_
    intro _ hw'
    obtain ⟨⟨dq, osq⟩, hw''⟩ := hw'
    subst hw''
    have HB6 := hid (HT5.out.next (below_regrown X dq osq)).below
    clear cX cA cB G1 G2 G3 G4 HT5
    generalize grow (redrawn X dq) osq = Y at *
    obtain ⟨cap, Z, hcv, hrow, hbz, hc1, hc2, hzz⟩ := conv_new Y L hLm
    have hck := hrow.cells K hKl
    have hfk := hrow.free K hKl
    have hst := (hrow.stored K hKl (flipB L[K] by')).back cap
    rw [List.length_set, flipB_nat L[K] by' h2 h3] at hst
    have HB7 := hid ((HB6.out.trans (hbz.mono HB6.out.size)).setCell (p := ⟨Y.heap.size, K, none⟩) HB6.out.size (.int .u8 (bits .xor .u8 (L[K].toNat : Int) by')))
    clear hrow hbz
    go_wp2_with fail
    generalize (Z.setCell ⟨Y.heap.size, K, none⟩ (.int .u8 (bits .xor .u8 (L[K].toNat : Int) by'))) = Y2 at *
    have HF := hid (HFL.out K hKl by' h2 h3)
    generalize hEq : readE (L.set K (flipB L[K] by')) = E at *
    refine (read_cells (L.set K (flipB L[K] by')) E hEq _ (by simpa using hLm)).mono ?_
    rintro e w8 ⟨yk, yi0, yi1, yi2, yk0, yk1, yk2, yd0, yd1, yd2, yt, yv0, yv1, yv2, yf0, yf1, yf2, yn, yx, yg, yc, yq, yr, yl, rfl, hb8⟩
    have HB8 := hid ((HB7.out.trans (hb8.mono HB7.out.size)).alloc (Nat.le_trans HB7.out.size hb8.size) (.cells #[.int .i64 yk, .slice yi0 yi1 yi2, .slice yk0 yk1 yk2, .slice yd0 yd1 yd2, .string yt, .slice yv0 yv1 yv2, .slice yf0 yf1 yf2, .int .i64 yn, .int .u64 yx, .int .i64 yg, .int .i64 yc, .int .i64 yq, .int .i64 yr, .int .i64 yl] 32))
    clear hb8 HB7 hst hck hfk hcv hc1 hc2 hzz hEq HFL
    go_wp2_with fail
    refine (HL1.out _).mono ?_
    rintro e w9 ⟨zk, zi0, zi1, zi2, zk0, zk1, zk2, zd0, zd1, zd2, zt, zv0, zv1, zv2, zf0, zf1, zf2, zn, zx, zg, zc, zq, zr, zl, rfl, hb9⟩
    have HB9 := hid ((HB8.out.trans (hb9.mono HB8.out.size)).alloc (Nat.le_trans HB8.out.size hb9.size) (.cells #[.int .i64 zk, .slice zi0 zi1 zi2, .slice zk0 zk1 zk2, .slice zd0 zd1 zd2, .string zt, .slice zv0 zv1 zv2, .slice zf0 zf1 zf2, .int .i64 zn, .int .u64 zx, .int .i64 zg, .int .i64 zc, .int .i64 zq, .int .i64 zr, .int .i64 zl] 32))
    clear hb9 HB8 HL1
    go_wp2_with fail
    refine (HL2.out _).mono ?_
    rintro e w10 ⟨xk, xi0, xi1, xi2, xk0, xk1, xk2, xd0, xd1, xd2, xt, xv0, xv1, xv2, xf0, xf1, xf2, xn, xx, xg, xc, xq, xr, xl, rfl, hb10⟩
    have HB10 := hid ((HB9.out.trans (hb10.mono HB9.out.size)).alloc (Nat.le_trans HB9.out.size hb10.size) (.cells #[.int .i64 xk, .slice xi0 xi1 xi2, .slice xk0 xk1 xk2, .slice xd0 xd1 xd2, .string xt, .slice xv0 xv1 xv2, .slice xf0 xf1 xf2, .int .i64 xn, .int .u64 xx, .int .i64 xg, .int .i64 xc, .int .i64 xq, .int .i64 xr, .int .i64 xl] 32))
    clear hb10 HB9 HL2
    have hnl := Try.eqNilNil
    have hel := Try.eqNil
    by_cases hb0 : by' = 0
    · have hE0 : E = .nilIface := by rw [HF.out, if_pos hb0]
      subst hE0 hb0
      clear HF
      go_wp2_with fail
      refine (is_same _).mono ?_
      rintro e w11 ⟨rfl, rfl⟩
      go_wp2_with fail
      refine (is_same _).mono ?_
      rintro e w11 ⟨rfl, rfl⟩
      go_wp2
      go_ret
      exact ⟨rfl, HB10.out⟩
    · have hE0 : E = .iface 44 (.int .i64 12) := by rw [HF.out, if_neg hb0]
      have hbB : (by' == 0) = false := by simpa using hb0
      subst hE0
      clear HF
      go_wp2_with fail
      refine (is_same _).mono ?_
      rintro e w11 ⟨rfl, rfl⟩
      go_wp2_with fail
      refine (is_same _).mono ?_
      rintro e w11 ⟨rfl, rfl⟩
      go_wp2
      go_ret
      exact ⟨rfl, HB10.out⟩
end Go.Proofs.Ytkfhkhjoindcbaa
