/- PageTells: of every two pages whether they are any, the same, their bytes; of every bytes the page: as the reference has it. -/
import Derived.Test.YtmdapookkggjkaaGreatXQp
import Derived.Test.YtmdapookkggjkaaGreatXKa
namespace Go.Proofs.YtmdapookkggjkaaGreat
open Go.RowKit Go.Sort

/-- Two pages in blocks B and B + 1; what hangs on them. -/
structure Two (w : World) (X : World) (a b : PageD) (ca cb : Array Value) (vi vk vd vv vf ui uk ud uv uf : Value) : Prop where
  pa : X.heap[w.heap.size]? = some (.cells ca 32 (0, 0))
  pb : X.heap[w.heap.size + 1]? = some (.cells cb 32 (0, 0))
  ha : Hangs X a vi vk vd vv vf
  hb : Hangs X b ui uk ud uv uf
  below : Below w.heap.size w X
  size : w.heap.size + 2 ≤ X.heap.size
theorem Two.next {w X Y : World} {a b : PageD} {ca cb : Array Value} {vi vk vd vv vf ui uk ud uv uf : Value} (h : Two w X a b ca cb vi vk vd vv vf ui uk ud uv uf) (hb : Below X.heap.size X Y) : Two w Y a b ca cb vi vk vd vv vf ui uk ud uv uf := by
  have hs := h.size
  exact ⟨(hb.block _ (by omega)).trans h.pa, (hb.block _ (by omega)).trans h.pb, h.ha.below hb, h.hb.below hb, h.below.trans (hb.mono h.below.size), Nat.le_trans hs hb.size⟩
theorem two_start (w : World) (a b : PageD) (ca cb : Array Value) (vi vk vd vv vf ui uk ud uv uf : Value) (ha : Hangs w a vi vk vd vv vf) (hb : Hangs w b ui uk ud uv uf) :
    Two w ((w.alloc (.cells ca 32)).alloc (.cells cb 32)) a b ca cb vi vk vd vv vf ui uk ud uv uf := by
  have e1 : (w.alloc (.cells ca 32)).heap.size = w.heap.size + 1 := by simp
  have hbl : Below w.heap.size w ((w.alloc (.cells ca 32)).alloc (.cells cb 32)) := ((Below.refl _ _).alloc (Nat.le_refl _) _).alloc (by simp) _
  have p2 := heap_newL (w.alloc (.cells ca 32)) (.cells cb 32)
  rw [e1] at p2
  exact ⟨(Below.heap_alloc _ _ _ (by simp)).trans (heap_newL w _), p2, ha.below hbl, hb.below hbl, hbl, by simp⟩

theorem same_eq (a b : PageD) : sameB a b = samePB a b := by
  rw [Bool.eq_iff_iff]
  simp only [sameB, sameHeadB, samePB, sameItemsB, Bool.and_eq_true]
  constructor
  · rintro ⟨⟨⟨⟨⟨⟨⟨⟨⟨h1, h2⟩, h3⟩, h4⟩, h5⟩, h6⟩, h7⟩, h8⟩, h9⟩, h10⟩
    exact ⟨⟨⟨⟨⟨⟨⟨⟨h1, h2, h10⟩, h3⟩, h4⟩, h5⟩, h6⟩, h7⟩, h8⟩, h9⟩
  · rintro ⟨⟨⟨⟨⟨⟨⟨⟨h1, h2, h10⟩, h3⟩, h4⟩, h5⟩, h6⟩, h7⟩, h8⟩, h9⟩
    exact ⟨⟨⟨⟨⟨⟨⟨⟨⟨h1, h2⟩, h3⟩, h4⟩, h5⟩, h6⟩, h7⟩, h8⟩, h9⟩, h10⟩

set_option maxHeartbeats 8000000 in
set_option maxRecDepth 100000 in
theorem tells_big (a b : PageD) (vi vk vd vv vf ui uk ud uv uf : Value) (L : List UInt8) (w : World) (ha : Hangs w a vi vk vd vv vf) (hb : Hangs w b ui uk ud uv uf) (ta : TxnOk a) (hs : L.length ≤ maxLen) (hbd : ¬ (L.length ≤ 2000 ∧ a.items.length ≤ 20 ∧ a.kids.length ≤ 20 ∧ a.vals.length ≤ 40 ∧ a.free.length ≤ 40 ∧ a.text.size ≤ 500)) :
    Calls Tryz.prog 3 #[.agg (pageCells a vi vk vd vv vf).toArray, .agg (pageCells b ui uk ud uv uf).toArray, .string (bs L)] w fun e w' => e = .returned (.bool true) ∧ Below w.heap.size w w' := by
  have hT0 := two_start w a b (pageCells a vi vk vd vv vf).toArray (pageCells b ui uk ud uv uf).toArray vi vk vd vv vf ui uk ud uv uf ha hb
  have HIS := hid (fun X (h : Hangs X a vi vk vd vv vf) => is_any a vi vk vd vv vf X h)
  have HIR := hid (fun X (h : Hangs X a vi vk vd vv vf) (hf : a.free.length ≤ 40) => refIs_any a vi vk vd vv vf X h (by omega) ta)
  have HSA := hid (fun X (h : Hangs X a vi vk vd vv vf) (h' : Hangs X b ui uk ud uv uf) => same_any a b vi vk vd vv vf ui uk ud uv uf X h h')
  have HSR := hid (fun X (h : Hangs X a vi vk vd vv vf) (h' : Hangs X b ui uk ud uv uf) => refSame_any a b vi vk vd vv vf ui uk ud uv uf X h h')
  have HBY := hid (fun X (h : Hangs X a vi vk vd vv vf) => bytes_any a vi vk vd vv vf X h ta)
  have HBR := hid (fun X (h : Hangs X a vi vk vd vv vf) (hf : a.free.length ≤ 40) => rbytes_any a vi vk vd vv vf X h (by omega) ta)
  have HRD := hid (fun X => read_any (bs L) X (by rw [bs_size]; exact hs))
  have HRR := hid (fun X => rread_any L X hs)
  have HSX := hid (fun X xi xk xd xv xf yi yk yd yv yf (h : Hangs X (readD L) xi xk xd xv xf) (h' : Hangs X (readD L) yi yk yd yv yf) => refSame_any (readD L) (readD L) xi xk xd xv xf yi yk yd yv yf X h h')
  have HSP := hid (fun X => short_any (bs L) X (by rw [bs_size]; exact hs))
  have HSQ := hid (fun X => refShort_any (bs L) X (by rw [bs_size]; exact hs))
  have hEN : (readE L = .nilIface ∧ readN L = 0) ∨ (readE L = .iface 44 (.int .i64 12) ∧ readN L = 12) := by
    unfold readE readN
    cases okR L
    · exact .inr ⟨rfl, rfl⟩
    · exact .inl ⟨rfl, rfl⟩
  rw [bs_list] at HRD
  generalize readE L = E at *
  generalize readN L = N at *
  replace hEN := hid hEN
  simp only [same_eq] at HSR HSX
  simp only [same_self] at HSX
  have hsz := bs_size L
  clear ta
  generalize isPB a = IB at *
  generalize samePB a b = SB at *
  generalize bytesD a = BD at *
  generalize shortB (bs L) = SH at *
  generalize readD L = RP at *
  obtain ⟨aoI, capI, rfl, him, -⟩ := ha.items
  obtain ⟨aoK, capK, rfl, hkm, -⟩ := ha.keys
  obtain ⟨aoD, capD, rfl, hdm, -⟩ := ha.kids
  obtain ⟨aoV, capV, rfl, hvm, -⟩ := ha.vals
  obtain ⟨aoF, capF, rfl, hfm, -⟩ := ha.free
  have htm := ha.text
  unfold maxLen at him hkm hdm hvm hfm htm hs
  clear ha hb
  obtain ⟨ak, ai, ay, ad, at1, av, af, an, ⟨ax, ⟨ag, ac, aq⟩, ar, al⟩⟩ := a
  obtain ⟨bk, bi, by1, bd, bt, bv, bf, bn, ⟨bx, ⟨bg, bc, bq⟩, br, bl⟩⟩ := b
  obtain ⟨rk, ri, ry, rd, rt, rv, rf, rn, ⟨rx, ⟨rg, rc, rq⟩, rr, rl⟩⟩ := RP
  unfold pageCells at *
  simp only at hT0 HIS HIR HSA HSR HBY HBR HRD HRR HSX him hkm hdm hvm hfm htm hbd
  replace hbd := hid hbd
  clear HIS HIR HSA HSR HBY HBR HRD HRR HSX HSP HSQ hEN
  have HT0 := hid hT0
  clear hT0
  go_enter Tryz.func3, Tryz.ntmps3
  go_wp2_with fail
  refine (known_any _).mono ?_
  rintro e w1 ⟨rfl, hb1⟩
  have HT1 := hid (HT0.out.next hb1)
  have c1 := cell_rowL HT1.out.pa
  clear hb1 HT0
  by_cases g1 : 2000 < L.length
  · go_wp2
    go_ret
    exact ⟨rfl, HT1.out.below⟩
  by_cases g2 : 20 < ai.length
  · go_wp2
    go_ret
    exact ⟨rfl, HT1.out.below⟩
  by_cases g3 : 20 < ad.length
  · go_wp2
    go_ret
    exact ⟨rfl, HT1.out.below⟩
  by_cases g4 : 40 < av.length
  · go_wp2
    go_ret
    exact ⟨rfl, HT1.out.below⟩
  by_cases g5 : 40 < af.length
  · go_wp2
    go_ret
    exact ⟨rfl, HT1.out.below⟩
  by_cases g6 : 500 < at1.size
  · go_wp2
    go_ret
    exact ⟨rfl, HT1.out.below⟩
  exact absurd (show _ from ⟨by omega, by omega, by omega, by omega, by omega, by omega⟩) hbd.out

set_option maxHeartbeats 8000000 in
set_option maxRecDepth 100000 in
theorem tells_ok (a b : PageD) (vi vk vd vv vf ui uk ud uv uf : Value) (L : List UInt8) (w : World) (ha : Hangs w a vi vk vd vv vf) (hb : Hangs w b ui uk ud uv uf) (ta : TxnOk a) (hs : L.length ≤ maxLen) (hbd : L.length ≤ 2000 ∧ a.items.length ≤ 20 ∧ a.kids.length ≤ 20 ∧ a.vals.length ≤ 40 ∧ a.free.length ≤ 40 ∧ a.text.size ≤ 500) (hOK : okR L = true) :
    Calls Tryz.prog 3 #[.agg (pageCells a vi vk vd vv vf).toArray, .agg (pageCells b ui uk ud uv uf).toArray, .string (bs L)] w fun e w' => e = .returned (.bool true) ∧ Below w.heap.size w w' := by
  have hT0 := two_start w a b (pageCells a vi vk vd vv vf).toArray (pageCells b ui uk ud uv uf).toArray vi vk vd vv vf ui uk ud uv uf ha hb
  have HIS := hid (fun X (h : Hangs X a vi vk vd vv vf) => is_any a vi vk vd vv vf X h)
  have HIR := hid (fun X (h : Hangs X a vi vk vd vv vf) (hf : a.free.length ≤ 40) => refIs_any a vi vk vd vv vf X h (by omega) ta)
  have HSA := hid (fun X (h : Hangs X a vi vk vd vv vf) (h' : Hangs X b ui uk ud uv uf) => same_any a b vi vk vd vv vf ui uk ud uv uf X h h')
  have HSR := hid (fun X (h : Hangs X a vi vk vd vv vf) (h' : Hangs X b ui uk ud uv uf) => refSame_any a b vi vk vd vv vf ui uk ud uv uf X h h')
  have HBY := hid (fun X (h : Hangs X a vi vk vd vv vf) => bytes_any a vi vk vd vv vf X h ta)
  have HBR := hid (fun X (h : Hangs X a vi vk vd vv vf) (hf : a.free.length ≤ 40) => rbytes_any a vi vk vd vv vf X h (by omega) ta)
  have HRD := hid (fun X => read_any (bs L) X (by rw [bs_size]; exact hs))
  have HRR := hid (fun X => rread_any L X hs)
  have HSX := hid (fun X xi xk xd xv xf yi yk yd yv yf (h : Hangs X (readD L) xi xk xd xv xf) (h' : Hangs X (readD L) yi yk yd yv yf) => refSame_any (readD L) (readD L) xi xk xd xv xf yi yk yd yv yf X h h')
  have HSP := hid (fun X => short_any (bs L) X (by rw [bs_size]; exact hs))
  have HSQ := hid (fun X => refShort_any (bs L) X (by rw [bs_size]; exact hs))
  have hE : readE L = .nilIface := by rw [readE, hOK]; rfl
  have hN : readN L = 0 := by rw [readN, hOK]; rfl
  rw [bs_list, hE] at HRD
  rw [hN] at HRR
  simp only [same_eq] at HSR HSX
  simp only [same_self] at HSX
  have hsz := bs_size L
  clear ta hE hN hOK
  generalize isPB a = IB at *
  generalize samePB a b = SB at *
  generalize bytesD a = BD at *
  generalize shortB (bs L) = SH at *
  generalize readD L = RP at *
  obtain ⟨aoI, capI, rfl, him, -⟩ := ha.items
  obtain ⟨aoK, capK, rfl, hkm, -⟩ := ha.keys
  obtain ⟨aoD, capD, rfl, hdm, -⟩ := ha.kids
  obtain ⟨aoV, capV, rfl, hvm, -⟩ := ha.vals
  obtain ⟨aoF, capF, rfl, hfm, -⟩ := ha.free
  have htm := ha.text
  unfold maxLen at him hkm hdm hvm hfm htm hs
  clear ha hb
  obtain ⟨ak, ai, ay, ad, at1, av, af, an, ⟨ax, ⟨ag, ac, aq⟩, ar, al⟩⟩ := a
  obtain ⟨bk, bi, by1, bd, bt, bv, bf, bn, ⟨bx, ⟨bg, bc, bq⟩, br, bl⟩⟩ := b
  obtain ⟨rk, ri, ry, rd, rt, rv, rf, rn, ⟨rx, ⟨rg, rc, rq⟩, rr, rl⟩⟩ := RP
  unfold pageCells at *
  simp only at hT0 HIS HIR HSA HSR HBY HBR HRD HRR HSX him hkm hdm hvm hfm htm hbd
  obtain ⟨g1, g2, g3, g4, g5', g6⟩ := hbd
  have HT0 := hid hT0
  clear hT0
  go_enter Tryz.func3, Tryz.ntmps3
  go_wp2_with fail
  refine (known_any _).mono ?_
  rintro e w1 ⟨rfl, hb1⟩
  have HT1 := hid (HT0.out.next hb1)
  have c1 := cell_rowL HT1.out.pa
  clear hb1 HT0
  go_wp2_with fail
  clear c1
  refine (HRD.out _).mono ?_
  rintro e w2 ⟨xi, xk, xd, xv, xf, rfl, hx, hb2⟩
  obtain ⟨xi0, xi1, xi2, rfl⟩ := hx.items.slice
  obtain ⟨xk0, xk1, xk2, rfl⟩ := hx.keys.slice
  obtain ⟨xd0, xd1, xd2, rfl⟩ := hx.kids.slice
  obtain ⟨xv0, xv1, xv2, rfl⟩ := hx.vals.slice
  obtain ⟨xf0, xf1, xf2, rfl⟩ := hx.free.slice
  have bA := (Below.refl w2.heap.size w2).alloc (Nat.le_refl _) (.cells #[.int .i64 rk, .slice xi0 xi1 xi2, .slice xk0 xk1 xk2, .slice xd0 xd1 xd2, .string rt, .slice xv0 xv1 xv2, .slice xf0 xf1 xf2, .int .i64 rn, .int .u64 rx, .int .i64 rg, .int .i64 rc, .int .i64 rq, .int .i64 rr, .int .i64 rl] 32)
  have HT2 := hid ((HT1.out.next hb2).next bA)
  have HX2 := hid (hx.below bA)
  have HN2 := hid (heap_newL w2 (.cells #[.int .i64 rk, .slice xi0 xi1 xi2, .slice xk0 xk1 xk2, .slice xd0 xd1 xd2, .string rt, .slice xv0 xv1 xv2, .slice xf0 xf1 xf2, .int .i64 rn, .int .u64 rx, .int .i64 rg, .int .i64 rc, .int .i64 rq, .int .i64 rr, .int .i64 rl] 32))
  clear hx hb2 HT1 HRD bA
  go_wp2_with fail
  generalize (w2.alloc (.cells #[.int .i64 rk, .slice xi0 xi1 xi2, .slice xk0 xk1 xk2, .slice xd0 xd1 xd2, .string rt, .slice xv0 xv1 xv2, .slice xf0 xf1 xf2, .int .i64 rn, .int .u64 rx, .int .i64 rg, .int .i64 rc, .int .i64 rq, .int .i64 rr, .int .i64 rl] 32)) = W2 at *
  generalize w2.heap.size = PX at *
  refine (HRR.out _).mono ?_
  rintro e w3 ⟨yi, yk, yd, yv, yf, rfl, hy, hb3⟩
  obtain ⟨yi0, yi1, yi2, rfl⟩ := hy.items.slice
  obtain ⟨yk0, yk1, yk2, rfl⟩ := hy.keys.slice
  obtain ⟨yd0, yd1, yd2, rfl⟩ := hy.kids.slice
  obtain ⟨yv0, yv1, yv2, rfl⟩ := hy.vals.slice
  obtain ⟨yf0, yf1, yf2, rfl⟩ := hy.free.slice
  have bA := (Below.refl w3.heap.size w3).alloc (Nat.le_refl _) (.cells #[.int .i64 rk, .slice yi0 yi1 yi2, .slice yk0 yk1 yk2, .slice yd0 yd1 yd2, .string rt, .slice yv0 yv1 yv2, .slice yf0 yf1 yf2, .int .i64 rn, .int .u64 rx, .int .i64 rg, .int .i64 rc, .int .i64 rq, .int .i64 rr, .int .i64 rl] 32)
  have b23 := hb3.trans (bA.mono hb3.size)
  have HT3 := hid (HT2.out.next b23)
  have HX3 := hid (HX2.out.below b23)
  have HNX := hid ((b23.block PX (Array.getElem?_eq_some_iff.1 HN2.out).1).trans HN2.out)
  have HY3 := hid (hy.below bA)
  have HNY := hid (heap_newL w3 (.cells #[.int .i64 rk, .slice yi0 yi1 yi2, .slice yk0 yk1 yk2, .slice yd0 yd1 yd2, .string rt, .slice yv0 yv1 yv2, .slice yf0 yf1 yf2, .int .i64 rn, .int .u64 rx, .int .i64 rg, .int .i64 rc, .int .i64 rq, .int .i64 rr, .int .i64 rl] 32))
  clear hy hb3 HT2 HX2 HN2 HRR bA b23
  go_wp2_with fail
  generalize (w3.alloc (.cells #[.int .i64 rk, .slice yi0 yi1 yi2, .slice yk0 yk1 yk2, .slice yd0 yd1 yd2, .string rt, .slice yv0 yv1 yv2, .slice yf0 yf1 yf2, .int .i64 rn, .int .u64 rx, .int .i64 rg, .int .i64 rc, .int .i64 rq, .int .i64 rr, .int .i64 rl] 32)) = X at *
  generalize w3.heap.size = PY at *
  have cX := fun d os => cell_rowL (((below_regrown X d os).block PX (Array.getElem?_eq_some_iff.1 HNX.out).1).trans HNX.out)
  have cY := fun d os => cell_rowL (((below_regrown X d os).block PY (Array.getElem?_eq_some_iff.1 HNY.out).1).trans HNY.out)
  have cA := fun d os => cell_rowL (((below_regrown X d os).block w.heap.size (Array.getElem?_eq_some_iff.1 HT3.out.pa).1).trans HT3.out.pa)
  have cB := fun d os => cell_rowL (((below_regrown X d os).block (w.heap.size + 1) (Array.getElem?_eq_some_iff.1 HT3.out.pb).1).trans HT3.out.pb)
  have G1 : Hid (∀ d os, Calls Tryz.prog 8 #[.agg #[.int .i64 ak, .slice aoI ai.length capI, .slice aoK ay.length capK, .slice aoD ad.length capD, .string at1, .slice aoV av.length capV, .slice aoF af.length capF, .int .i64 an, .int .u64 ax, .int .i64 ag, .int .i64 ac, .int .i64 aq, .int .i64 ar, .int .i64 al]] (grow (redrawn X d) os) fun e w'' => e = .returned (.bool IB) ∧ ∃ p : Regrown, w'' = grow (redrawn X p.d) p.os) := hid (fun d os => Calls.regrown_of (HIS.out _ (HT3.out.ha.below (below_regrown X d os))))
  have G2 : Hid (∀ d os, Calls Tryz.prog 9 #[.agg #[.int .i64 ak, .slice aoI ai.length capI, .slice aoK ay.length capK, .slice aoD ad.length capD, .string at1, .slice aoV av.length capV, .slice aoF af.length capF, .int .i64 an, .int .u64 ax, .int .i64 ag, .int .i64 ac, .int .i64 aq, .int .i64 ar, .int .i64 al]] (grow (redrawn X d) os) fun e w'' => e = .returned (.bool IB) ∧ ∃ p : Regrown, w'' = grow (redrawn X p.d) p.os) := hid (fun d os => Calls.regrown_of (HIR.out _ (HT3.out.ha.below (below_regrown X d os)) g5'))
  have G3 : Hid (∀ d os, Calls Tryz.prog 10 #[.agg #[.int .i64 ak, .slice aoI ai.length capI, .slice aoK ay.length capK, .slice aoD ad.length capD, .string at1, .slice aoV av.length capV, .slice aoF af.length capF, .int .i64 an, .int .u64 ax, .int .i64 ag, .int .i64 ac, .int .i64 aq, .int .i64 ar, .int .i64 al], .agg #[.int .i64 bk, ui, uk, ud, .string bt, uv, uf, .int .i64 bn, .int .u64 bx, .int .i64 bg, .int .i64 bc, .int .i64 bq, .int .i64 br, .int .i64 bl]] (grow (redrawn X d) os) fun e w'' => e = .returned (.bool SB) ∧ ∃ p : Regrown, w'' = grow (redrawn X p.d) p.os) := hid (fun d os => Calls.regrown_of (HSA.out _ (HT3.out.ha.below (below_regrown X d os)) (HT3.out.hb.below (below_regrown X d os))))
  have G4 : Hid (∀ d os, Calls Tryz.prog 11 #[.agg #[.int .i64 ak, .slice aoI ai.length capI, .slice aoK ay.length capK, .slice aoD ad.length capD, .string at1, .slice aoV av.length capV, .slice aoF af.length capF, .int .i64 an, .int .u64 ax, .int .i64 ag, .int .i64 ac, .int .i64 aq, .int .i64 ar, .int .i64 al], .agg #[.int .i64 bk, ui, uk, ud, .string bt, uv, uf, .int .i64 bn, .int .u64 bx, .int .i64 bg, .int .i64 bc, .int .i64 bq, .int .i64 br, .int .i64 bl]] (grow (redrawn X d) os) fun e w'' => e = .returned (.bool SB) ∧ ∃ p : Regrown, w'' = grow (redrawn X p.d) p.os) := hid (fun d os => Calls.regrown_of (HSR.out _ (HT3.out.ha.below (below_regrown X d os)) (HT3.out.hb.below (below_regrown X d os))))
  have G5 : Hid (∀ d os, Calls Tryz.prog 12 #[.agg #[.int .i64 ak, .slice aoI ai.length capI, .slice aoK ay.length capK, .slice aoD ad.length capD, .string at1, .slice aoV av.length capV, .slice aoF af.length capF, .int .i64 an, .int .u64 ax, .int .i64 ag, .int .i64 ac, .int .i64 aq, .int .i64 ar, .int .i64 al]] (grow (redrawn X d) os) fun e w'' => e = .returned (.string (bs BD)) ∧ ∃ p : Regrown, w'' = grow (redrawn X p.d) p.os) := hid (fun d os => Calls.regrown_of (HBY.out _ (HT3.out.ha.below (below_regrown X d os))))
  have G6 : Hid (∀ d os, Calls Tryz.prog 13 #[.agg #[.int .i64 ak, .slice aoI ai.length capI, .slice aoK ay.length capK, .slice aoD ad.length capD, .string at1, .slice aoV av.length capV, .slice aoF af.length capF, .int .i64 an, .int .u64 ax, .int .i64 ag, .int .i64 ac, .int .i64 aq, .int .i64 ar, .int .i64 al]] (grow (redrawn X d) os) fun e w'' => e = .returned (.string (bs BD)) ∧ ∃ p : Regrown, w'' = grow (redrawn X p.d) p.os) := hid (fun d os => Calls.regrown_of (HBR.out _ (HT3.out.ha.below (below_regrown X d os)) g5'))
  have G7 : Hid (∀ d os, Calls Tryz.prog 11 #[.agg #[.int .i64 rk, .slice xi0 xi1 xi2, .slice xk0 xk1 xk2, .slice xd0 xd1 xd2, .string rt, .slice xv0 xv1 xv2, .slice xf0 xf1 xf2, .int .i64 rn, .int .u64 rx, .int .i64 rg, .int .i64 rc, .int .i64 rq, .int .i64 rr, .int .i64 rl], .agg #[.int .i64 rk, .slice yi0 yi1 yi2, .slice yk0 yk1 yk2, .slice yd0 yd1 yd2, .string rt, .slice yv0 yv1 yv2, .slice yf0 yf1 yf2, .int .i64 rn, .int .u64 rx, .int .i64 rg, .int .i64 rc, .int .i64 rq, .int .i64 rr, .int .i64 rl]] (grow (redrawn X d) os) fun e w'' => e = .returned (.bool true) ∧ ∃ p : Regrown, w'' = grow (redrawn X p.d) p.os) := hid (fun d os => Calls.regrown_of (HSX.out _ _ _ _ _ _ _ _ _ _ _ (HX3.out.below (below_regrown X d os)) (HY3.out.below (below_regrown X d os))))
  have same_below : ∀ {W : World} {n : Nat} {args : Array Value} {v : Value}, Calls Tryz.prog n args W (fun e w' => e = .returned v ∧ w' = W) → Calls Tryz.prog n args W (fun e w' => e = .returned v ∧ Below W.heap.size W w') := fun h => h.mono (by rintro e w' ⟨rfl, rfl⟩; exact ⟨rfl, Below.refl _ _⟩)
  have G8 : Hid (∀ d os, Calls Tryz.prog 14 #[.iface 44 (.int .i64 12), .iface 44 (.int .i64 12)] (grow (redrawn X d) os) fun e w'' => e = .returned (.bool true) ∧ ∃ p : Regrown, w'' = grow (redrawn X p.d) p.os) := hid (fun d os => Calls.regrown_of (same_below (is_same _)))
  have G9 : Hid (∀ d os, Calls Tryz.prog 15 #[.string (bs L)] (grow (redrawn X d) os) fun e w'' => e = .returned (.bool SH) ∧ ∃ p : Regrown, w'' = grow (redrawn X p.d) p.os) := hid (fun d os => Calls.regrown_of (same_below (HSP.out _)))
  have G10 : Hid (∀ d os, Calls Tryz.prog 16 #[.string (bs L)] (grow (redrawn X d) os) fun e w'' => e = .returned (.bool SH) ∧ ∃ p : Regrown, w'' = grow (redrawn X p.d) p.os) := hid (fun d os => Calls.regrown_of (same_below (HSQ.out _)))
  have hnl := Tryz.eqNilNil
  have hel := Tryz.eqNil
  have hbi : (IB == IB) = true := by simp
  have hbs : (SB == SB) = true := by simp
  have hbh : (SH == SH) = true := by simp
  have HB3 := hid HT3.out.below
  clear same_below HIS HIR HSA HSR HBY HBR HSX HSP HSQ HT3 HX3 HY3 HNX HNY g1 g2 g3 g4 g5' g6 hsz
  refine wp_region_quiet_below (by kernel_rfl) (by kernel_rfl) ?_
  iterate 16 (go_big_quiet_step (first | exact G1.out _ _ | exact G2.out _ _ | exact G3.out _ _ | exact G4.out _ _))
  iterate 7 (go_big_quiet_step (first | exact G5.out _ _ | exact G6.out _ _))
  repeat (go_big_quiet_step (first | exact G8.out _ _ | exact G9.out _ _ | exact G10.out _ _ | exact G7.out _ _))
  refine wpQuiet_nil ?_
  intro _ hw'
  obtain ⟨⟨dq, osq⟩, hw''⟩ := hw'
  subst hw''
  have HB6 := hid (HB3.out.trans ((below_regrown X dq osq).mono HB3.out.size))
  clear cX cY cA cB G1 G2 G3 G4 G5 G6 G7 G8 G9 G10
  generalize grow (redrawn X dq) osq = Y at *
  go_wp2
  go_ret
  exact ⟨rfl, HB6.out⟩

set_option maxHeartbeats 8000000 in
set_option maxRecDepth 100000 in
theorem tells_no (a b : PageD) (vi vk vd vv vf ui uk ud uv uf : Value) (L : List UInt8) (w : World) (ha : Hangs w a vi vk vd vv vf) (hb : Hangs w b ui uk ud uv uf) (ta : TxnOk a) (hs : L.length ≤ maxLen) (hbd : L.length ≤ 2000 ∧ a.items.length ≤ 20 ∧ a.kids.length ≤ 20 ∧ a.vals.length ≤ 40 ∧ a.free.length ≤ 40 ∧ a.text.size ≤ 500) (hOK : okR L = false) :
    Calls Tryz.prog 3 #[.agg (pageCells a vi vk vd vv vf).toArray, .agg (pageCells b ui uk ud uv uf).toArray, .string (bs L)] w fun e w' => e = .returned (.bool true) ∧ Below w.heap.size w w' := by
  have hT0 := two_start w a b (pageCells a vi vk vd vv vf).toArray (pageCells b ui uk ud uv uf).toArray vi vk vd vv vf ui uk ud uv uf ha hb
  have HIS := hid (fun X (h : Hangs X a vi vk vd vv vf) => is_any a vi vk vd vv vf X h)
  have HIR := hid (fun X (h : Hangs X a vi vk vd vv vf) (hf : a.free.length ≤ 40) => refIs_any a vi vk vd vv vf X h (by omega) ta)
  have HSA := hid (fun X (h : Hangs X a vi vk vd vv vf) (h' : Hangs X b ui uk ud uv uf) => same_any a b vi vk vd vv vf ui uk ud uv uf X h h')
  have HSR := hid (fun X (h : Hangs X a vi vk vd vv vf) (h' : Hangs X b ui uk ud uv uf) => refSame_any a b vi vk vd vv vf ui uk ud uv uf X h h')
  have HBY := hid (fun X (h : Hangs X a vi vk vd vv vf) => bytes_any a vi vk vd vv vf X h ta)
  have HBR := hid (fun X (h : Hangs X a vi vk vd vv vf) (hf : a.free.length ≤ 40) => rbytes_any a vi vk vd vv vf X h (by omega) ta)
  have HRD := hid (fun X => read_any (bs L) X (by rw [bs_size]; exact hs))
  have HRR := hid (fun X => rread_any L X hs)
  have HSX := hid (fun X xi xk xd xv xf yi yk yd yv yf (h : Hangs X (readD L) xi xk xd xv xf) (h' : Hangs X (readD L) yi yk yd yv yf) => refSame_any (readD L) (readD L) xi xk xd xv xf yi yk yd yv yf X h h')
  have HSP := hid (fun X => short_any (bs L) X (by rw [bs_size]; exact hs))
  have HSQ := hid (fun X => refShort_any (bs L) X (by rw [bs_size]; exact hs))
  have hE : readE L = .iface 44 (.int .i64 12) := by rw [readE, hOK]; rfl
  have hN : readN L = 12 := by rw [readN, hOK]; rfl
  rw [bs_list, hE] at HRD
  rw [hN] at HRR
  simp only [same_eq] at HSR HSX
  simp only [same_self] at HSX
  have hsz := bs_size L
  clear ta hE hN hOK
  generalize isPB a = IB at *
  generalize samePB a b = SB at *
  generalize bytesD a = BD at *
  generalize shortB (bs L) = SH at *
  generalize readD L = RP at *
  obtain ⟨aoI, capI, rfl, him, -⟩ := ha.items
  obtain ⟨aoK, capK, rfl, hkm, -⟩ := ha.keys
  obtain ⟨aoD, capD, rfl, hdm, -⟩ := ha.kids
  obtain ⟨aoV, capV, rfl, hvm, -⟩ := ha.vals
  obtain ⟨aoF, capF, rfl, hfm, -⟩ := ha.free
  have htm := ha.text
  unfold maxLen at him hkm hdm hvm hfm htm hs
  clear ha hb
  obtain ⟨ak, ai, ay, ad, at1, av, af, an, ⟨ax, ⟨ag, ac, aq⟩, ar, al⟩⟩ := a
  obtain ⟨bk, bi, by1, bd, bt, bv, bf, bn, ⟨bx, ⟨bg, bc, bq⟩, br, bl⟩⟩ := b
  obtain ⟨rk, ri, ry, rd, rt, rv, rf, rn, ⟨rx, ⟨rg, rc, rq⟩, rr, rl⟩⟩ := RP
  unfold pageCells at *
  simp only at hT0 HIS HIR HSA HSR HBY HBR HRD HRR HSX him hkm hdm hvm hfm htm hbd
  obtain ⟨g1, g2, g3, g4, g5', g6⟩ := hbd
  have HT0 := hid hT0
  clear hT0
  go_enter Tryz.func3, Tryz.ntmps3
  go_wp2_with fail
  refine (known_any _).mono ?_
  rintro e w1 ⟨rfl, hb1⟩
  have HT1 := hid (HT0.out.next hb1)
  have c1 := cell_rowL HT1.out.pa
  clear hb1 HT0
  go_wp2_with fail
  clear c1
  refine (HRD.out _).mono ?_
  rintro e w2 ⟨xi, xk, xd, xv, xf, rfl, hx, hb2⟩
  obtain ⟨xi0, xi1, xi2, rfl⟩ := hx.items.slice
  obtain ⟨xk0, xk1, xk2, rfl⟩ := hx.keys.slice
  obtain ⟨xd0, xd1, xd2, rfl⟩ := hx.kids.slice
  obtain ⟨xv0, xv1, xv2, rfl⟩ := hx.vals.slice
  obtain ⟨xf0, xf1, xf2, rfl⟩ := hx.free.slice
  have bA := (Below.refl w2.heap.size w2).alloc (Nat.le_refl _) (.cells #[.int .i64 rk, .slice xi0 xi1 xi2, .slice xk0 xk1 xk2, .slice xd0 xd1 xd2, .string rt, .slice xv0 xv1 xv2, .slice xf0 xf1 xf2, .int .i64 rn, .int .u64 rx, .int .i64 rg, .int .i64 rc, .int .i64 rq, .int .i64 rr, .int .i64 rl] 32)
  have HT2 := hid ((HT1.out.next hb2).next bA)
  have HX2 := hid (hx.below bA)
  have HN2 := hid (heap_newL w2 (.cells #[.int .i64 rk, .slice xi0 xi1 xi2, .slice xk0 xk1 xk2, .slice xd0 xd1 xd2, .string rt, .slice xv0 xv1 xv2, .slice xf0 xf1 xf2, .int .i64 rn, .int .u64 rx, .int .i64 rg, .int .i64 rc, .int .i64 rq, .int .i64 rr, .int .i64 rl] 32))
  clear hx hb2 HT1 HRD bA
  go_wp2_with fail
  generalize (w2.alloc (.cells #[.int .i64 rk, .slice xi0 xi1 xi2, .slice xk0 xk1 xk2, .slice xd0 xd1 xd2, .string rt, .slice xv0 xv1 xv2, .slice xf0 xf1 xf2, .int .i64 rn, .int .u64 rx, .int .i64 rg, .int .i64 rc, .int .i64 rq, .int .i64 rr, .int .i64 rl] 32)) = W2 at *
  generalize w2.heap.size = PX at *
  refine (HRR.out _).mono ?_
  rintro e w3 ⟨yi, yk, yd, yv, yf, rfl, hy, hb3⟩
  obtain ⟨yi0, yi1, yi2, rfl⟩ := hy.items.slice
  obtain ⟨yk0, yk1, yk2, rfl⟩ := hy.keys.slice
  obtain ⟨yd0, yd1, yd2, rfl⟩ := hy.kids.slice
  obtain ⟨yv0, yv1, yv2, rfl⟩ := hy.vals.slice
  obtain ⟨yf0, yf1, yf2, rfl⟩ := hy.free.slice
  have bA := (Below.refl w3.heap.size w3).alloc (Nat.le_refl _) (.cells #[.int .i64 rk, .slice yi0 yi1 yi2, .slice yk0 yk1 yk2, .slice yd0 yd1 yd2, .string rt, .slice yv0 yv1 yv2, .slice yf0 yf1 yf2, .int .i64 rn, .int .u64 rx, .int .i64 rg, .int .i64 rc, .int .i64 rq, .int .i64 rr, .int .i64 rl] 32)
  have b23 := hb3.trans (bA.mono hb3.size)
  have HT3 := hid (HT2.out.next b23)
  have HX3 := hid (HX2.out.below b23)
  have HNX := hid ((b23.block PX (Array.getElem?_eq_some_iff.1 HN2.out).1).trans HN2.out)
  have HY3 := hid (hy.below bA)
  have HNY := hid (heap_newL w3 (.cells #[.int .i64 rk, .slice yi0 yi1 yi2, .slice yk0 yk1 yk2, .slice yd0 yd1 yd2, .string rt, .slice yv0 yv1 yv2, .slice yf0 yf1 yf2, .int .i64 rn, .int .u64 rx, .int .i64 rg, .int .i64 rc, .int .i64 rq, .int .i64 rr, .int .i64 rl] 32))
  clear hy hb3 HT2 HX2 HN2 HRR bA b23
  go_wp2_with fail
  generalize (w3.alloc (.cells #[.int .i64 rk, .slice yi0 yi1 yi2, .slice yk0 yk1 yk2, .slice yd0 yd1 yd2, .string rt, .slice yv0 yv1 yv2, .slice yf0 yf1 yf2, .int .i64 rn, .int .u64 rx, .int .i64 rg, .int .i64 rc, .int .i64 rq, .int .i64 rr, .int .i64 rl] 32)) = X at *
  generalize w3.heap.size = PY at *
  have cX := fun d os => cell_rowL (((below_regrown X d os).block PX (Array.getElem?_eq_some_iff.1 HNX.out).1).trans HNX.out)
  have cY := fun d os => cell_rowL (((below_regrown X d os).block PY (Array.getElem?_eq_some_iff.1 HNY.out).1).trans HNY.out)
  have cA := fun d os => cell_rowL (((below_regrown X d os).block w.heap.size (Array.getElem?_eq_some_iff.1 HT3.out.pa).1).trans HT3.out.pa)
  have cB := fun d os => cell_rowL (((below_regrown X d os).block (w.heap.size + 1) (Array.getElem?_eq_some_iff.1 HT3.out.pb).1).trans HT3.out.pb)
  have G1 : Hid (∀ d os, Calls Tryz.prog 8 #[.agg #[.int .i64 ak, .slice aoI ai.length capI, .slice aoK ay.length capK, .slice aoD ad.length capD, .string at1, .slice aoV av.length capV, .slice aoF af.length capF, .int .i64 an, .int .u64 ax, .int .i64 ag, .int .i64 ac, .int .i64 aq, .int .i64 ar, .int .i64 al]] (grow (redrawn X d) os) fun e w'' => e = .returned (.bool IB) ∧ ∃ p : Regrown, w'' = grow (redrawn X p.d) p.os) := hid (fun d os => Calls.regrown_of (HIS.out _ (HT3.out.ha.below (below_regrown X d os))))
  have G2 : Hid (∀ d os, Calls Tryz.prog 9 #[.agg #[.int .i64 ak, .slice aoI ai.length capI, .slice aoK ay.length capK, .slice aoD ad.length capD, .string at1, .slice aoV av.length capV, .slice aoF af.length capF, .int .i64 an, .int .u64 ax, .int .i64 ag, .int .i64 ac, .int .i64 aq, .int .i64 ar, .int .i64 al]] (grow (redrawn X d) os) fun e w'' => e = .returned (.bool IB) ∧ ∃ p : Regrown, w'' = grow (redrawn X p.d) p.os) := hid (fun d os => Calls.regrown_of (HIR.out _ (HT3.out.ha.below (below_regrown X d os)) g5'))
  have G3 : Hid (∀ d os, Calls Tryz.prog 10 #[.agg #[.int .i64 ak, .slice aoI ai.length capI, .slice aoK ay.length capK, .slice aoD ad.length capD, .string at1, .slice aoV av.length capV, .slice aoF af.length capF, .int .i64 an, .int .u64 ax, .int .i64 ag, .int .i64 ac, .int .i64 aq, .int .i64 ar, .int .i64 al], .agg #[.int .i64 bk, ui, uk, ud, .string bt, uv, uf, .int .i64 bn, .int .u64 bx, .int .i64 bg, .int .i64 bc, .int .i64 bq, .int .i64 br, .int .i64 bl]] (grow (redrawn X d) os) fun e w'' => e = .returned (.bool SB) ∧ ∃ p : Regrown, w'' = grow (redrawn X p.d) p.os) := hid (fun d os => Calls.regrown_of (HSA.out _ (HT3.out.ha.below (below_regrown X d os)) (HT3.out.hb.below (below_regrown X d os))))
  have G4 : Hid (∀ d os, Calls Tryz.prog 11 #[.agg #[.int .i64 ak, .slice aoI ai.length capI, .slice aoK ay.length capK, .slice aoD ad.length capD, .string at1, .slice aoV av.length capV, .slice aoF af.length capF, .int .i64 an, .int .u64 ax, .int .i64 ag, .int .i64 ac, .int .i64 aq, .int .i64 ar, .int .i64 al], .agg #[.int .i64 bk, ui, uk, ud, .string bt, uv, uf, .int .i64 bn, .int .u64 bx, .int .i64 bg, .int .i64 bc, .int .i64 bq, .int .i64 br, .int .i64 bl]] (grow (redrawn X d) os) fun e w'' => e = .returned (.bool SB) ∧ ∃ p : Regrown, w'' = grow (redrawn X p.d) p.os) := hid (fun d os => Calls.regrown_of (HSR.out _ (HT3.out.ha.below (below_regrown X d os)) (HT3.out.hb.below (below_regrown X d os))))
  have G5 : Hid (∀ d os, Calls Tryz.prog 12 #[.agg #[.int .i64 ak, .slice aoI ai.length capI, .slice aoK ay.length capK, .slice aoD ad.length capD, .string at1, .slice aoV av.length capV, .slice aoF af.length capF, .int .i64 an, .int .u64 ax, .int .i64 ag, .int .i64 ac, .int .i64 aq, .int .i64 ar, .int .i64 al]] (grow (redrawn X d) os) fun e w'' => e = .returned (.string (bs BD)) ∧ ∃ p : Regrown, w'' = grow (redrawn X p.d) p.os) := hid (fun d os => Calls.regrown_of (HBY.out _ (HT3.out.ha.below (below_regrown X d os))))
  have G6 : Hid (∀ d os, Calls Tryz.prog 13 #[.agg #[.int .i64 ak, .slice aoI ai.length capI, .slice aoK ay.length capK, .slice aoD ad.length capD, .string at1, .slice aoV av.length capV, .slice aoF af.length capF, .int .i64 an, .int .u64 ax, .int .i64 ag, .int .i64 ac, .int .i64 aq, .int .i64 ar, .int .i64 al]] (grow (redrawn X d) os) fun e w'' => e = .returned (.string (bs BD)) ∧ ∃ p : Regrown, w'' = grow (redrawn X p.d) p.os) := hid (fun d os => Calls.regrown_of (HBR.out _ (HT3.out.ha.below (below_regrown X d os)) g5'))
  have G7 : Hid (∀ d os, Calls Tryz.prog 11 #[.agg #[.int .i64 rk, .slice xi0 xi1 xi2, .slice xk0 xk1 xk2, .slice xd0 xd1 xd2, .string rt, .slice xv0 xv1 xv2, .slice xf0 xf1 xf2, .int .i64 rn, .int .u64 rx, .int .i64 rg, .int .i64 rc, .int .i64 rq, .int .i64 rr, .int .i64 rl], .agg #[.int .i64 rk, .slice yi0 yi1 yi2, .slice yk0 yk1 yk2, .slice yd0 yd1 yd2, .string rt, .slice yv0 yv1 yv2, .slice yf0 yf1 yf2, .int .i64 rn, .int .u64 rx, .int .i64 rg, .int .i64 rc, .int .i64 rq, .int .i64 rr, .int .i64 rl]] (grow (redrawn X d) os) fun e w'' => e = .returned (.bool true) ∧ ∃ p : Regrown, w'' = grow (redrawn X p.d) p.os) := hid (fun d os => Calls.regrown_of (HSX.out _ _ _ _ _ _ _ _ _ _ _ (HX3.out.below (below_regrown X d os)) (HY3.out.below (below_regrown X d os))))
  have same_below : ∀ {W : World} {n : Nat} {args : Array Value} {v : Value}, Calls Tryz.prog n args W (fun e w' => e = .returned v ∧ w' = W) → Calls Tryz.prog n args W (fun e w' => e = .returned v ∧ Below W.heap.size W w') := fun h => h.mono (by rintro e w' ⟨rfl, rfl⟩; exact ⟨rfl, Below.refl _ _⟩)
  have G8 : Hid (∀ d os, Calls Tryz.prog 14 #[.iface 44 (.int .i64 12), .iface 44 (.int .i64 12)] (grow (redrawn X d) os) fun e w'' => e = .returned (.bool true) ∧ ∃ p : Regrown, w'' = grow (redrawn X p.d) p.os) := hid (fun d os => Calls.regrown_of (same_below (is_same _)))
  have G9 : Hid (∀ d os, Calls Tryz.prog 15 #[.string (bs L)] (grow (redrawn X d) os) fun e w'' => e = .returned (.bool SH) ∧ ∃ p : Regrown, w'' = grow (redrawn X p.d) p.os) := hid (fun d os => Calls.regrown_of (same_below (HSP.out _)))
  have G10 : Hid (∀ d os, Calls Tryz.prog 16 #[.string (bs L)] (grow (redrawn X d) os) fun e w'' => e = .returned (.bool SH) ∧ ∃ p : Regrown, w'' = grow (redrawn X p.d) p.os) := hid (fun d os => Calls.regrown_of (same_below (HSQ.out _)))
  have hnl := Tryz.eqNilNil
  have hel := Tryz.eqNil
  have hbi : (IB == IB) = true := by simp
  have hbs : (SB == SB) = true := by simp
  have hbh : (SH == SH) = true := by simp
  have HB3 := hid HT3.out.below
  clear same_below HIS HIR HSA HSR HBY HBR HSX HSP HSQ HT3 HX3 HY3 HNX HNY g1 g2 g3 g4 g5' g6 hsz
  refine wp_region_quiet_below (by kernel_rfl) (by kernel_rfl) ?_
  iterate 16 (go_big_quiet_step (first | exact G1.out _ _ | exact G2.out _ _ | exact G3.out _ _ | exact G4.out _ _))
  iterate 7 (go_big_quiet_step (first | exact G5.out _ _ | exact G6.out _ _))
  repeat (go_big_quiet_step (first | exact G8.out _ _ | exact G9.out _ _ | exact G10.out _ _ | exact G7.out _ _))
  refine wpQuiet_nil ?_
  intro _ hw'
  obtain ⟨⟨dq, osq⟩, hw''⟩ := hw'
  subst hw''
  have HB6 := hid (HB3.out.trans ((below_regrown X dq osq).mono HB3.out.size))
  clear cX cY cA cB G1 G2 G3 G4 G5 G6 G7 G8 G9 G10
  generalize grow (redrawn X dq) osq = Y at *
  go_wp2
  go_ret
  exact ⟨rfl, HB6.out⟩

theorem tells_law (a b : PageD) (vi vk vd vv vf ui uk ud uv uf : Value) (L : List UInt8) (w : World) (ha : Hangs w a vi vk vd vv vf) (hb : Hangs w b ui uk ud uv uf) (ta : TxnOk a) (hs : L.length ≤ maxLen) :
    Calls Tryz.prog 3 #[.agg (pageCells a vi vk vd vv vf).toArray, .agg (pageCells b ui uk ud uv uf).toArray, .string (bs L)] w fun e w' => e = .returned (.bool true) ∧ Below w.heap.size w w' := by
  by_cases hbd : L.length ≤ 2000 ∧ a.items.length ≤ 20 ∧ a.kids.length ≤ 20 ∧ a.vals.length ≤ 40 ∧ a.free.length ≤ 40 ∧ a.text.size ≤ 500
  · cases hOK : okR L
    · exact tells_no a b _ _ _ _ _ _ _ _ _ _ L w ha hb ta hs hbd hOK
    · exact tells_ok a b _ _ _ _ _ _ _ _ _ _ L w ha hb ta hs hbd hOK
  · exact tells_big a b _ _ _ _ _ _ _ _ _ _ L w ha hb ta hs hbd
end Go.Proofs.YtmdapookkggjkaaGreat
