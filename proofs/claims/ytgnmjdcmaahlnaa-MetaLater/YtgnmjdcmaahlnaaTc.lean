/- Contract of package meta's Choose. -/
import Derived.Test.YtgnmjdcmaahlnaaTb
namespace Go.Proofs.Ytgnmjdcmaahlnaa
open Go.RowKit Go.Sort Go.Conc

/-- The result's place in R, the channel in c, with what was sent. -/
structure InC (w W : World) (R c : Nat) (l : List Value) : Prop where
  chan : ∃ s, W.heap[c]? = some (.chan 2 l.toArray false s 0 false)
  res : W.heap[R]? = some (.cells zeros 26 (0, 0))
  below : Below w.heap.size w W
  hR : w.heap.size = R
  hc : R + 1 = c
theorem InC.lt {w W : World} {R c : Nat} {l : List Value} (h : InC w W R c l) : c < W.heap.size := by
  obtain ⟨s, hs⟩ := h.chan
  exact lt_of_chan hs
theorem InC.go {w W W' : World} {R c : Nat} {l : List Value} (h : InC w W R c l) (hb : Below W.heap.size W W') : InC w W' R c l := by
  have hlt := h.lt
  obtain ⟨⟨s, h1⟩, h2, h3, h4, h5⟩ := h
  exact ⟨⟨s, (hb.block c hlt).trans h1⟩, (hb.block R (by omega)).trans h2, h3.trans (hb.mono h3.size), h4, h5⟩
theorem InC.new {w W : World} {R c : Nat} {l : List Value} (h : InC w W R c l) (o : Obj) : InC w (W.alloc o) R c l := h.go ((Below.refl _ _).alloc (Nat.le_refl _) _)
theorem InC.sent {w W : World} {R c s : Nat} {l : List Value} (h : InC w W R c l) (v : Value) : InC w (W.setChan c 2 (l.toArray.push v) false s 0 false) R c (l ++ [v]) := by
  have hlt := h.lt
  obtain ⟨_, h2, h3, h4, h5⟩ := h
  refine ⟨⟨s, ?_⟩, ?_, below_setChan h3 (by omega) _ _ _ _ _ _, h4, h5⟩
  · have := heap_setChan W c 2 (l.toArray.push v) false s 0 false hlt
    simpa using this
  · rw [setChan_other _ _ _ _ _ _ _ _ _ (by omega), h2]
theorem below_grown {B c : Nat} {w W W' : World} (h : Below B w W) (hg : W.grownBy W' (some c)) (hc : B ≤ c) (hB : B ≤ W.heap.size) : Below B w W' :=
  ⟨hg.os.trans h.os, hg.tape.trans h.tape, hg.output.trans h.output, Nat.le_trans h.size hg.size, fun k hk => (hg.block k (by omega) (by simp; omega)).trans (h.block k hk)⟩
theorem inC_start (w : World) : InC w ((w.alloc (.cells zeros 26)).alloc (.chan 2 #[] false 0 0 false)) w.heap.size (w.heap.size + 1) [] := by
  refine ⟨⟨0, ?_⟩, ?_, ((Below.refl _ _).alloc (Nat.le_refl _) _).alloc (by simp) _, rfl, rfl⟩
  · have := heap_newL (w.alloc (.cells zeros 26)) (.chan 2 #[] false 0 0 false)
    simpa only [World.size_alloc] using this
  · rw [Below.heap_alloc _ _ _ (by simp), heap_newL]

/-- What a text sends that lies on page k. -/
def sentL (x : List UInt8) (k : Int) : List MetaD := if okMt x && decide ((readD x).mt.txn % 2 = k) then [(readD x).mt] else []
def act8 (a b : ByteArray) (R c : Nat) (k : Int) (t7 t8 t9 t10 t11 t12 t13 t16 t17 t18 t19 t20 t21 t22 t23 t24 t25 t26 t27 t28 t29 t30 t31 t32 t33 t34 t35 t36 t37 t38 : Value) : Act :=
  ⟨#[.string a, .string b, undef, undef, .pointer (some ⟨R, 0, none⟩), .nilIface, .chan (some c), t7, t8, t9, t10, t11, t12, t13, .agg #[.string a, .string b], .int .i64 k, t16, t17, t18, t19, t20, t21, t22, t23, t24, t25, t26, t27, t28, t29, t30, t31, t32, t33, t34, t35, t36, t37, t38], []⟩
theorem ix0 (a b : ByteArray) (w : World) : (Instr.index 38 (.agg #[.string a, .string b]) (.int .i64 0)).run Try.prog w = .ok (.string a) w := by
  simp [Instr.index, go_sem]
theorem ix1 (a b : ByteArray) (w : World) : (Instr.index 38 (.agg #[.string a, .string b]) (.int .i64 1)).run Try.prog w = .ok (.string b) w := by
  simp [Instr.index, go_sem]
theorem read_txn (x : List UInt8) : 0 ≤ (readD x).mt.txn ∧ (readD x).mt.txn < 18446744073709551616 := by
  unfold readD
  split
  · exact (txnOk_pageV _).1
  · simp [noPage]

set_option maxRecDepth 100000 in
set_option maxHeartbeats 4000000 in
theorem round_c0 (K : Act → World → Prop) (Q : Exit → Act → World → Prop) (a b : ByteArray) (w W : World) (R c : Nat) (l : List Value) (HI : InC w W R c l) (hl : l.length < 2) (hx : a.size ≤ maxLen)
    (HK : ∀ W' u7 u8 u9 u10 u11 u12 u13 u16 u17 u18 u19 u20 u21 u22 u23 u24 u25 u26 u27 u28 u29 u30 u31 u32 u33 u34 u35 u36 u37 u38, InC w W' R c (l ++ (sentL a.data.toList 0).map metaA) → K (act8 a b R c 1 u7 u8 u9 u10 u11 u12 u13 u16 u17 u18 u19 u20 u21 u22 u23 u24 u25 u26 u27 u28 u29 u30 u31 u32 u33 u34 u35 u36 u37 u38) W') (t7 t8 t9 t10 t11 t12 t13 t16 t17 t18 t19 t20 t21 t22 t23 t24 t25 t26 t27 t28 t29 t30 t31 t32 t33 t34 t35 t36 t37 t38 : Value) :
    (lcOf Try.f8).wp Try.prog (Exit.then K Q) (act8 a b R c 0 t7 t8 t9 t10 t11 t12 t13 t16 t17 t18 t19 t20 t21 t22 t23 t24 t25 t26 t27 t28 t29 t30 t31 t32 t33 t34 t35 t36 t37 t38) W := by
  have HR := hid (fun W => mread_any a W hx)
  have ht := read_txn a.data.toList
  unfold sentL at HK
  generalize (readD a.data.toList).mt = n at *
  generalize okMt a.data.toList = t at *
  replace HI := hid HI
  replace HK := hid HK
  obtain ⟨n1, ⟨n2, n3, n4⟩, n5, n6⟩ := n
  obtain ⟨ht0, ht1⟩ := ht
  replace ht0 : 0 ≤ n1 := ht0
  replace ht1 : n1 < 18446744073709551616 := ht1
  clear hx
  have hix := ix0 a b
  unfold act8 lcOf
  simp only [Try.f8, loopIn, Option.bind_some, Option.none_or, Option.some_or, Option.getD_some]
  cases t
  · go_wp2_with fail
    refine (HR.out _).mono ?_
    rintro e w1 ⟨rfl, hb⟩
    have H1 := hid (HI.out.go hb)
    simp only [metaA]
    have H2 := hid (H1.out.new (.cells #[.int .u64 n1, .int .i64 n2, .int .i64 n3, .int .i64 n4, .int .i64 n5, .int .i64 n6] 26))
    clear hb HI H1 HR
    go_wp2
    exact HK.out _ _ _ _ _ _ _ _ _ _ _ _ _ _ _ _ _ _ _ _ _ _ _ _ _ _ _ _ _ _ _ (by simpa using H2.out)
  · by_cases hp : n1 % 2 = 0
    · go_wp2_with fail
      refine (HR.out _).mono ?_
      rintro e w1 ⟨rfl, hb⟩
      have H1 := hid (HI.out.go hb)
      simp only [metaA]
      have H2 := H1.out.new (.cells #[.int .u64 n1, .int .i64 n2, .int .i64 n3, .int .i64 n4, .int .i64 n5, .int .i64 n6] 26)
      obtain ⟨sn, hch⟩ := H2.chan
      have HS := hid (H2.sent (s := sn + 1) (.agg #[.int .u64 n1, .int .i64 n2, .int .i64 n3, .int .i64 n4, .int .i64 n5, .int .i64 n6]))
      have hcl : c < w1.heap.size := H1.out.lt
      replace hch := hid hch
      have hroom : l.toArray.size < 2 := by simpa using hl
      clear hb HI H1 HR H2
      go_wp2_with fail
      refine (place_any n1 _ ht0 ht1).mono ?_
      rintro e w2 ⟨rfl, rfl⟩
      simp only []
      iterate 12 (try go_step)
      refine wp_send (c := c) (v0 := .chan (some c)) (v1 := .agg #[.int .u64 n1, .int .i64 n2, .int .i64 n3, .int .i64 n4, .int .i64 n5, .int .i64 n6]) (z := .tuple #[]) rfl rfl ?_ ?_ ?_ hch.out hroom ?_
      · simp [go_sem, execOp, Act.eval]
      · simp [go_sem, execOp, Act.eval, Act.put]
      · simp [go_sem, execOp, Act.eval, Act.put, scase]
      generalize (w1.alloc (.cells #[.int .u64 n1, .int .i64 n2, .int .i64 n3, .int .i64 n4, .int .i64 n5, .int .i64 n6] 26)).setChan c 2 (l.toArray.push (.agg #[.int .u64 n1, .int .i64 n2, .int .i64 n3, .int .i64 n4, .int .i64 n5, .int .i64 n6])) false (sn + 1) 0 false = X at *
      simp only [Act.put]
      go_simp
      go_wp2
      exact HK.out _ _ _ _ _ _ _ _ _ _ _ _ _ _ _ _ _ _ _ _ _ _ _ _ _ _ _ _ _ _ _ (by simpa [hp, metaA] using HS.out)
    · go_wp2_with fail
      refine (HR.out _).mono ?_
      rintro e w1 ⟨rfl, hb⟩
      have H1 := hid (HI.out.go hb)
      simp only [metaA]
      have H2 := hid (H1.out.new (.cells #[.int .u64 n1, .int .i64 n2, .int .i64 n3, .int .i64 n4, .int .i64 n5, .int .i64 n6] 26))
      clear hb HI H1 HR
      go_wp2_with fail
      refine (place_any n1 _ ht0 ht1).mono ?_
      rintro e w2 ⟨rfl, rfl⟩
      go_wp2
      exact HK.out _ _ _ _ _ _ _ _ _ _ _ _ _ _ _ _ _ _ _ _ _ _ _ _ _ _ _ _ _ _ _ (by simpa [hp] using H2.out)

set_option maxRecDepth 100000 in
set_option maxHeartbeats 4000000 in
theorem round_c1 (K : Act → World → Prop) (Q : Exit → Act → World → Prop) (a b : ByteArray) (w W : World) (R c : Nat) (l : List Value) (HI : InC w W R c l) (hl : l.length < 2) (hx : b.size ≤ maxLen)
    (HK : ∀ W' u7 u8 u9 u10 u11 u12 u13 u16 u17 u18 u19 u20 u21 u22 u23 u24 u25 u26 u27 u28 u29 u30 u31 u32 u33 u34 u35 u36 u37 u38, InC w W' R c (l ++ (sentL b.data.toList 1).map metaA) → K (act8 a b R c 2 u7 u8 u9 u10 u11 u12 u13 u16 u17 u18 u19 u20 u21 u22 u23 u24 u25 u26 u27 u28 u29 u30 u31 u32 u33 u34 u35 u36 u37 u38) W') (t7 t8 t9 t10 t11 t12 t13 t16 t17 t18 t19 t20 t21 t22 t23 t24 t25 t26 t27 t28 t29 t30 t31 t32 t33 t34 t35 t36 t37 t38 : Value) :
    (lcOf Try.f8).wp Try.prog (Exit.then K Q) (act8 a b R c 1 t7 t8 t9 t10 t11 t12 t13 t16 t17 t18 t19 t20 t21 t22 t23 t24 t25 t26 t27 t28 t29 t30 t31 t32 t33 t34 t35 t36 t37 t38) W := by
  have HR := hid (fun W => mread_any b W hx)
  have ht := read_txn b.data.toList
  unfold sentL at HK
  generalize (readD b.data.toList).mt = n at *
  generalize okMt b.data.toList = t at *
  replace HI := hid HI
  replace HK := hid HK
  obtain ⟨n1, ⟨n2, n3, n4⟩, n5, n6⟩ := n
  obtain ⟨ht0, ht1⟩ := ht
  replace ht0 : 0 ≤ n1 := ht0
  replace ht1 : n1 < 18446744073709551616 := ht1
  clear hx
  have hix := ix1 a b
  unfold act8 lcOf
  simp only [Try.f8, loopIn, Option.bind_some, Option.none_or, Option.some_or, Option.getD_some]
  cases t
  · go_wp2_with fail
    refine (HR.out _).mono ?_
    rintro e w1 ⟨rfl, hb⟩
    have H1 := hid (HI.out.go hb)
    simp only [metaA]
    have H2 := hid (H1.out.new (.cells #[.int .u64 n1, .int .i64 n2, .int .i64 n3, .int .i64 n4, .int .i64 n5, .int .i64 n6] 26))
    clear hb HI H1 HR
    go_wp2
    exact HK.out _ _ _ _ _ _ _ _ _ _ _ _ _ _ _ _ _ _ _ _ _ _ _ _ _ _ _ _ _ _ _ (by simpa using H2.out)
  · by_cases hp : n1 % 2 = 1
    · go_wp2_with fail
      refine (HR.out _).mono ?_
      rintro e w1 ⟨rfl, hb⟩
      have H1 := hid (HI.out.go hb)
      simp only [metaA]
      have H2 := H1.out.new (.cells #[.int .u64 n1, .int .i64 n2, .int .i64 n3, .int .i64 n4, .int .i64 n5, .int .i64 n6] 26)
      obtain ⟨sn, hch⟩ := H2.chan
      have HS := hid (H2.sent (s := sn + 1) (.agg #[.int .u64 n1, .int .i64 n2, .int .i64 n3, .int .i64 n4, .int .i64 n5, .int .i64 n6]))
      have hcl : c < w1.heap.size := H1.out.lt
      replace hch := hid hch
      have hroom : l.toArray.size < 2 := by simpa using hl
      clear hb HI H1 HR H2
      go_wp2_with fail
      refine (place_any n1 _ ht0 ht1).mono ?_
      rintro e w2 ⟨rfl, rfl⟩
      simp only []
      iterate 12 (try go_step)
      refine wp_send (c := c) (v0 := .chan (some c)) (v1 := .agg #[.int .u64 n1, .int .i64 n2, .int .i64 n3, .int .i64 n4, .int .i64 n5, .int .i64 n6]) (z := .tuple #[]) rfl rfl ?_ ?_ ?_ hch.out hroom ?_
      · simp [go_sem, execOp, Act.eval]
      · simp [go_sem, execOp, Act.eval, Act.put]
      · simp [go_sem, execOp, Act.eval, Act.put, scase]
      generalize (w1.alloc (.cells #[.int .u64 n1, .int .i64 n2, .int .i64 n3, .int .i64 n4, .int .i64 n5, .int .i64 n6] 26)).setChan c 2 (l.toArray.push (.agg #[.int .u64 n1, .int .i64 n2, .int .i64 n3, .int .i64 n4, .int .i64 n5, .int .i64 n6])) false (sn + 1) 0 false = X at *
      simp only [Act.put]
      go_simp
      go_wp2
      exact HK.out _ _ _ _ _ _ _ _ _ _ _ _ _ _ _ _ _ _ _ _ _ _ _ _ _ _ _ _ _ _ _ (by simpa [hp, metaA] using HS.out)
    · go_wp2_with fail
      refine (HR.out _).mono ?_
      rintro e w1 ⟨rfl, hb⟩
      have H1 := hid (HI.out.go hb)
      simp only [metaA]
      have H2 := hid (H1.out.new (.cells #[.int .u64 n1, .int .i64 n2, .int .i64 n3, .int .i64 n4, .int .i64 n5, .int .i64 n6] 26))
      clear hb HI H1 HR
      go_wp2_with fail
      refine (place_any n1 _ ht0 ht1).mono ?_
      rintro e w2 ⟨rfl, rfl⟩
      go_wp2
      exact HK.out _ _ _ _ _ _ _ _ _ _ _ _ _ _ _ _ _ _ _ _ _ _ _ _ _ _ _ _ _ _ _ (by simpa [hp] using H2.out)

set_option maxRecDepth 100000 in
set_option maxHeartbeats 4000000 in
theorem round_c2 (K : Act → World → Prop) (Q : Exit → Act → World → Prop) (a b : ByteArray) (W : World) (R c : Nat) (t7 t8 t9 t10 t11 t12 t13 t16 t17 t18 t19 t20 t21 t22 t23 t24 t25 t26 t27 t28 t29 t30 t31 t32 t33 t34 t35 t36 t37 t38 : Value) (HQ : Q (.exit 0) (act8 a b R c 2 t7 t8 t9 t10 t11 t12 t13 (.bool false) t17 t18 t19 t20 t21 t22 t23 t24 t25 t26 t27 t28 t29 t30 t31 t32 t33 t34 t35 t36 t37 t38) W) :
    (lcOf Try.f8).wp Try.prog (Exit.then K Q) (act8 a b R c 2 t7 t8 t9 t10 t11 t12 t13 t16 t17 t18 t19 t20 t21 t22 t23 t24 t25 t26 t27 t28 t29 t30 t31 t32 t33 t34 t35 t36 t37 t38) W := by
  replace HQ := hid HQ
  unfold act8 lcOf
  simp only [Try.f8, loopIn, Option.bind_some, Option.none_or, Option.some_or, Option.getD_some]
  go_wp2
  exact HQ.out

theorem Try.bytesMeta : ∃ i, Try.prog.info? 26 = some i ∧ i.bytes = 48 := by
  have h : (Try.prog.info? 26).map (·.bytes) = some 48 := by kernel_rfl
  obtain ⟨i, hi, hb⟩ := Option.map_eq_some_iff.1 h
  exact ⟨i, hi, hb⟩
theorem mkChan (w : World) : (Instr.makeChan 50 (.int .i64 2)).run Try.prog w = .ok (.chan (some w.heap.size)) (w.alloc (.chan 2 #[] false 0 0 false)) := by
  obtain ⟨i, hi, hb⟩ := Try.bytesMeta
  simpa using run_makeChan (P := Try.prog) (w := w) Try.underlying50 hi .i64 2 (by omega) (by rw [hb]; omega)

/-- Of two texts that are metas in their places the later one. -/
def chooseL (a b : List UInt8) : List MetaD := sentL a 0 ++ sentL b 1
theorem sent_len (x : List UInt8) (k : Int) : (sentL x k).length ≤ 1 := by unfold sentL; split <;> simp
set_option maxRecDepth 100000 in
set_option maxHeartbeats 4000000 in
theorem choose_any (a b : ByteArray) (w : World) (ha : a.size ≤ maxLen) (hb : b.size ≤ maxLen) :
    Calls Try.prog 8 #[.string a, .string b] w fun e w' => e = .returned (.tuple #[metaA (pickM (chooseL a.data.toList b.data.toList)).1, errM (pickM (chooseL a.data.toList b.data.toList)).2]) ∧ Below w.heap.size w w' := by
  have hmc := mkChan
  have HI := inC_start w
  unfold zeros at HI
  replace HI := hid HI
  go_enter Try.func8, Try.ntmps8
  go_wp2
  rename_i QQ KK HKK
  replace HKK := hid HKK
  clear hmc
  change Code.wp Try.prog (Code.loop (lcOf Try.f8)) _ (act8 a b w.heap.size (w.heap.size + 1) 0 undef undef undef undef (.chan (some (w.heap.size + 1))) (.string a) (.string b) undef undef undef undef undef undef undef undef undef undef undef undef undef undef undef undef undef undef undef undef undef undef undef) _
  generalize (w.alloc (.cells #[.int .u64 0, .int .i64 0, .int .i64 0, .int .i64 0, .int .i64 0, .int .i64 0] 26)).alloc (.chan 2 #[] false 0 0 false) = W at *
  refine wp_first ?_
  refine round_c0 _ _ a b w W _ _ [] HI.out (by simp) ha ?_ _ _ _ _ _ _ _ _ _ _ _ _ _ _ _ _ _ _ _ _ _ _ _ _ _ _ _ _ _ _
  intro W1 u7 u8 u9 u10 u11 u12 u13 u16 u17 u18 u19 u20 u21 u22 u23 u24 u25 u26 u27 u28 u29 u30 u31 u32 u33 u34 u35 u36 u37 u38 H1
  refine wp_again ?_
  have hl1 := sent_len a.data.toList 0
  have hl2 := sent_len b.data.toList 1
  refine round_c1 _ _ a b w W1 _ _ _ H1 (by simp; omega) hb ?_ _ _ _ _ _ _ _ _ _ _ _ _ _ _ _ _ _ _ _ _ _ _ _ _ _ _ _ _ _ _
  intro W2 v7 v8 v9 v10 v11 v12 v13 v16 v17 v18 v19 v20 v21 v22 v23 v24 v25 v26 v27 v28 v29 v30 v31 v32 v33 v34 v35 v36 v37 v38 H2
  refine wp_again ?_
  refine round_c2 _ _ a b W2 _ _ v7 v8 v9 v10 v11 v12 v13 v16 v17 v18 v19 v20 v21 v22 v23 v24 v25 v26 v27 v28 v29 v30 v31 v32 v33 v34 v35 v36 v37 v38 ?_
  simp only [Exit.inBlock, Exit.then, ↓reduceIte]
  refine HKK.out _ _ ?_
  clear HKK HI H1
  have hl3 : (chooseL a.data.toList b.data.toList).length ≤ 2 := by unfold chooseL; rw [List.length_append]; omega
  have hres := H2.res
  have hbel := hid H2.below
  have hlt := H2.lt
  obtain ⟨sn, hch⟩ := H2.chan
  have hch2 : W2.heap[w.heap.size + 1]? = some (.chan 2 ((chooseL a.data.toList b.data.toList).map metaA).toArray false sn 0 false) := by
    rw [hch]
    unfold chooseL
    rw [List.map_append, List.nil_append]
  have HL := hid (latest_any (w.heap.size + 1) sn 0 _ hl3 W2 hch2)
  clear hch hch2 H2 hl1 hl2 hl3 ha hb
  generalize hm : (pickM (chooseL a.data.toList b.data.toList)).1 = m at *
  generalize ht : (pickM (chooseL a.data.toList b.data.toList)).2 = t at *
  replace hm := hid hm
  replace ht := hid ht
  unfold act8
  go_wp2_with fail
  refine HL.out.mono ?_
  rintro e W3 ⟨rfl, hg⟩
  have hR3 := (hg.block w.heap.size (by omega) (by simp)).trans hres
  have hbel3 := hid (below_grown hbel.out hg (by omega) (by omega))
  obtain ⟨m1, ⟨m2, m3, m4⟩, m5, m6⟩ := m
  simp only [metaA]
  unfold zeros at hR3
  have cR := cell_rowL hR3
  have fR := frozen_rowL hR3
  clear hres hR3 hg HL hbel
  go_wp2
  refine bodyPost_ret (v := .tuple #[.agg #[.int .u64 m1, .int .i64 m2, .int .i64 m3, .int .i64 m4, .int .i64 m5, .int .i64 m6], errM t]) (by simp [results, Try.results8, go_sem, cR]) rfl ⟨?_, ?_⟩
  · rw [hm.out, ht.out, metaA]
  repeat (refine Below.setCell ?_ (by simp) _)
  exact hbel3.out
end Go.Proofs.Ytgnmjdcmaahlnaa
