/- Contracts of the reference's Place, Fresh, MetaBytes. Contract of the reference's Choose, round by round. Contract of the reference's Choose. -/
import Derived.Test.YtgnmjdcmaahlnaaGreatXp
import Derived.Test.YtgnmjdcmaahlnaaGreatXQp
import Derived.RegionTactic
namespace Go.Proofs.YtgnmjdcmaahlnaaGreat
open Go.RowKit Go.Sort

set_option maxHeartbeats 400000 in
theorem rplace_any (n : Int) (w : World) (h0 : 0 ≤ n) (h1 : n < 18446744073709551616) :
    Calls Tryz.prog 10 #[.int .u64 n] w fun e w' => e = .returned (.int .i64 (n % 2)) ∧ w' = w := by
  go_enter Tryz.func10, Tryz.ntmps10
  go_wp2
  go_ret
  refine ⟨ret_int ?_, rfl⟩
  go_num
set_option maxHeartbeats 400000 in
theorem rfresh_any (i : Int) (w : World) :
    Calls Tryz.prog 12 #[.int .i64 i] w fun e w' => e = .returned (metaA (freshM i)) ∧ Below w.heap.size w w' := by
  have he : max 0 (min i 1) = min (max i 0) 1 := by omega
  go_enter Tryz.func12, Tryz.ntmps12
  go_wp2
  exact bodyPost_ret (v := metaA (freshM i)) (by simp [results, Tryz.results12, go_sem, metaA, freshM]) rfl ⟨rfl, (Below.refl _ _).alloc (Nat.le_refl _) _⟩
set_option maxHeartbeats 1000000 in
theorem rmetaBytes_any (m : MetaD) (w : World) (h : MOk m) :
    Calls Tryz.prog 8 #[metaA m] w fun e w' => e = .returned (.string (bs (metaB m))) ∧ Below w.heap.size w w' := by
  have HB : Hid (∀ W, Calls Tryz.prog 18 #[.agg #[.int .i64 6, .slice none 0 0, .slice none 0 0, .slice none 0 0, .string ⟨#[]⟩, .slice none 0 0, .slice none 0 0, .int .i64 0, .int .u64 m.txn, .int .i64 m.main.page, .int .i64 m.main.count, .int .i64 m.main.flags, .int .i64 m.free, .int .i64 m.last]] W fun e w' => e = .returned (.string (bs (metaB m))) ∧ Below W.heap.size W w') :=
    fun W => rbytes_any (ofM m) (.slice none 0 0) (.slice none 0 0) (.slice none 0 0) (.slice none 0 0) (.slice none 0 0) W ⟨items_nil _, strs_nil _, ints_nil _, text_nil_le, strs_nil _, frees_nil _⟩ (by simp [ofM, noPage]) (ofM_txn h)
  clear h
  generalize bs (metaB m) = B at *
  unfold metaA
  generalize m.txn = m1 at *
  generalize m.main.page = m2 at *
  generalize m.main.count = m3 at *
  generalize m.main.flags = m4 at *
  generalize m.free = m5 at *
  generalize m.last = m6 at *
  go_enter Tryz.func8, Tryz.ntmps8
  go_wp2_with (go_at_call 18; refine (HB.out _).mono ?_; rintro e w' ⟨rfl, hb⟩)
  go_ret
  exact ⟨rfl, ((Below.refl _ _).alloc (Nat.le_refl _) _).trans (hb.mono (by simp))⟩
end Go.Proofs.YtgnmjdcmaahlnaaGreat

namespace Go.Proofs.YtgnmjdcmaahlnaaGreat
open Go.RowKit Go.Sort

/-- The result's place in R, the best so far behind it, the two texts behind that. -/
structure InR (w W : World) (R : Nat) (a b : ByteArray) (m : MetaD) : Prop where
  res : W.heap[R]? = some (.cells zeros 26 (0, 0))
  best : W.heap[R + 1]? = some (.cells (metaC m) 26 (0, 0))
  arr : W.heap[R + 1 + 1]? = some (.cells #[.string a, .string b] 41 (0, 0))
  below : Below w.heap.size w W
  hR : w.heap.size = R
theorem InR.lt {w W : World} {R : Nat} {a b : ByteArray} {m : MetaD} (h : InR w W R a b m) : R + 1 + 1 < W.heap.size := (Array.getElem?_eq_some_iff.1 h.arr).1
theorem InR.go {w W W' : World} {R : Nat} {a b : ByteArray} {m : MetaD} (h : InR w W R a b m) (hb : Below W.heap.size W W') : InR w W' R a b m := by
  have hlt := h.lt
  obtain ⟨h1, h2, h3, h4, h5⟩ := h
  exact ⟨(hb.block _ (by omega)).trans h1, (hb.block _ (by omega)).trans h2, (hb.block _ (by omega)).trans h3, h4.trans (hb.mono h4.size), h5⟩
theorem InR.new {w W : World} {R : Nat} {a b : ByteArray} {m : MetaD} (h : InR w W R a b m) (o : Obj) : InR w (W.alloc o) R a b m := h.go ((Below.refl _ _).alloc (Nat.le_refl _) _)
theorem InR.put {w W : World} {R : Nat} {a b : ByteArray} {m : MetaD} (h : InR w W R a b m) (n : MetaD) :
    InR w ((((((W.setCell ⟨R + 1, 0, none⟩ (.int .u64 n.txn)).setCell ⟨R + 1, 1, none⟩ (.int .i64 n.main.page)).setCell ⟨R + 1, 2, none⟩ (.int .i64 n.main.count)).setCell ⟨R + 1, 3, none⟩ (.int .i64 n.main.flags)).setCell ⟨R + 1, 4, none⟩ (.int .i64 n.free)).setCell ⟨R + 1, 5, none⟩ (.int .i64 n.last)) R a b n := by
  obtain ⟨h1, h2, h3, h4, h5⟩ := h
  refine ⟨?_, set6 h2 _ _ _ _ _ _, ?_, ?_, h5⟩
  · repeat rw [Below.heap_setCell _ _ _ _ (by simp)]
    exact h1
  · repeat rw [Below.heap_setCell _ _ _ _ (by simp)]
    exact h3
  · repeat (refine Below.setCell ?_ (by simp; omega) _)
    exact h4
theorem inR_start (w : World) (a b : ByteArray) : InR w (((w.alloc (.cells zeros 26)).alloc (.cells zeros 26)).alloc (.cells #[.string a, .string b] 41)) w.heap.size a b noMeta := by
  refine ⟨?_, ?_, ?_, (((Below.refl _ _).alloc (Nat.le_refl _) _).alloc (by simp) _).alloc (by simp; omega) _, rfl⟩
  · rw [Below.heap_alloc _ _ _ (by simp; omega), Below.heap_alloc _ _ _ (by simp), heap_newL]
  · rw [Below.heap_alloc _ _ _ (by simp), show metaC noMeta = zeros from rfl]
    have := heap_newL (w.alloc (.cells zeros 26)) (.cells zeros 26)
    simpa only [World.size_alloc] using this
  · have := heap_newL ((w.alloc (.cells zeros 26)).alloc (.cells zeros 26)) (.cells #[.string a, .string b] 41)
    simpa only [World.size_alloc] using this
def actR (a b : ByteArray) (R : Nat) (fd : Bool) (k : Int) (t10 t11 t12 t13 t14 t15 t16 t17 t18 t19 t20 t21 t22 t23 t24 t25 t26 t27 t28 t29 t30 t31 t32 t33 t34 t35 t36 t37 t38 t39 t40 t41 t42 t43 t44 t45 t46 t47 t48 t49 t50 t51 t52 t53 t54 t55 t56 t57 t58 t59 : Value) : Act :=
  ⟨#[.string a, .string b, undef, undef, .pointer (some ⟨R, 0, none⟩), .int .i64 0, .pointer (some ⟨R + 1, 0, none⟩), .bool fd, .pointer (some ⟨R + 1 + 1, 0, none⟩), .int .i64 k, t10, t11, t12, t13, t14, t15, t16, t17, t18, t19, t20, t21, t22, t23, t24, t25, t26, t27, t28, t29, t30, t31, t32, t33, t34, t35, t36, t37, t38, t39, t40, t41, t42, t43, t44, t45, t46, t47, t48, t49, t50, t51, t52, t53, t54, t55, t56, t57, t58, t59], []⟩
theorem rread_of (s : ByteArray) (w : World) (hs : s.size ≤ maxLen) :
    Calls Tryz.prog 16 #[.string s] w fun e w' => ∃ vi vk vd vv vf, e = .returned (.tuple #[.agg (pageCells (readD s.data.toList) vi vk vd vv vf).toArray, .int .i64 (readN s.data.toList)]) ∧ Hangs w' (readD s.data.toList) vi vk vd vv vf ∧ Below w.heap.size w w' := by
  have h := rread_any s.data.toList w (by simpa using hs)
  rwa [bs_of] at h
/-- What a text makes of the best one so far. -/
def nextM (m : MetaD × Bool) (x : List UInt8) (k : Int) : MetaD × Bool := if okMt x && decide ((readD x).mt.txn % 2 = k) && (!m.2 || decide (m.1.txn < (readD x).mt.txn)) then ((readD x).mt, true) else m

set_option maxRecDepth 100000 in
set_option maxHeartbeats 4000000 in
theorem rr0A (K : Act → World → Prop) (Q : Exit → Act → World → Prop) (a b : ByteArray) (w W : World) (R : Nat) (m : MetaD) (fd : Bool) (HI : InR w W R a b m) (hx : a.size ≤ maxLen) (hok : okR a.data.toList = false)
    (HK : ∀ W' u10 u11 u12 u13 u14 u15 u16 u17 u18 u19 u20 u21 u22 u23 u24 u25 u26 u27 u28 u29 u30 u31 u32 u33 u34 u35 u36 u37 u38 u39 u40 u41 u42 u43 u44 u45 u46 u47 u48 u49 u50 u51 u52 u53 u54 u55 u56 u57 u58 u59, InR w W' R a b m → K (actR a b R fd 1 u10 u11 u12 u13 u14 u15 u16 u17 u18 u19 u20 u21 u22 u23 u24 u25 u26 u27 u28 u29 u30 u31 u32 u33 u34 u35 u36 u37 u38 u39 u40 u41 u42 u43 u44 u45 u46 u47 u48 u49 u50 u51 u52 u53 u54 u55 u56 u57 u58 u59) W') (t10 t11 t12 t13 t14 t15 t16 t17 t18 t19 t20 t21 t22 t23 t24 t25 t26 t27 t28 t29 t30 t31 t32 t33 t34 t35 t36 t37 t38 t39 t40 t41 t42 t43 t44 t45 t46 t47 t48 t49 t50 t51 t52 t53 t54 t55 t56 t57 t58 t59 : Value) :
    (lcOf Tryz.f6).wp Tryz.prog (Exit.then K Q) (actR a b R fd 0 t10 t11 t12 t13 t14 t15 t16 t17 t18 t19 t20 t21 t22 t23 t24 t25 t26 t27 t28 t29 t30 t31 t32 t33 t34 t35 t36 t37 t38 t39 t40 t41 t42 t43 t44 t45 t46 t47 t48 t49 t50 t51 t52 t53 t54 t55 t56 t57 t58 t59) W := by
  have HR := hid (fun W => rread_of a W hx)
  have ht := read_txn a.data.toList
  rw [readN, hok] at HR
  clear hok hx
  generalize readD a.data.toList = RP at *
  have cA := cell_rowL HI.arr
  replace HI := hid HI
  replace HK := hid HK
  obtain ⟨rk, ri, ry, rd, rt, rv, rf, rn, ⟨n1, ⟨n2, n3, n4⟩, n5, n6⟩⟩ := RP
  obtain ⟨m1, ⟨m2, m3, m4⟩, m5, m6⟩ := m
  obtain ⟨ht0, ht1⟩ := ht
  replace ht0 : 0 ≤ n1 := ht0
  replace ht1 : n1 < 18446744073709551616 := ht1
  unfold actR lcOf
  simp only [Tryz.f6, loopIn, Option.bind_some, Option.none_or, Option.some_or, Option.getD_some]
  go_wp2_with fail
  refine (HR.out _).mono ?_
  rintro e w1 ⟨xi, xk, xd, xv, xf, rfl, hx, hb⟩
  obtain ⟨xi0, xi1, xi2, rfl⟩ := hx.items.slice
  obtain ⟨xk0, xk1, xk2, rfl⟩ := hx.keys.slice
  obtain ⟨xd0, xd1, xd2, rfl⟩ := hx.kids.slice
  obtain ⟨xv0, xv1, xv2, rfl⟩ := hx.vals.slice
  obtain ⟨xf0, xf1, xf2, rfl⟩ := hx.free.slice
  have H1 := hid (HI.out.go hb)
  clear hx hb HI HR cA
  unfold pageCells
  have H2 := hid (H1.out.new (.cells #[.int .i64 rk, .slice xi0 xi1 xi2, .slice xk0 xk1 xk2, .slice xd0 xd1 xd2, .string rt, .slice xv0 xv1 xv2, .slice xf0 xf1 xf2, .int .i64 rn, .int .u64 n1, .int .i64 n2, .int .i64 n3, .int .i64 n4, .int .i64 n5, .int .i64 n6] 50))
  have hP := heap_newL w1 (.cells #[.int .i64 rk, .slice xi0 xi1 xi2, .slice xk0 xk1 xk2, .slice xd0 xd1 xd2, .string rt, .slice xv0 xv1 xv2, .slice xf0 xf1 xf2, .int .i64 rn, .int .u64 n1, .int .i64 n2, .int .i64 n3, .int .i64 n4, .int .i64 n5, .int .i64 n6] 50)
  have cP := cell_rowL hP
  clear hP H1
  go_wp2
  exact HK.out _ _ _ _ _ _ _ _ _ _ _ _ _ _ _ _ _ _ _ _ _ _ _ _ _ _ _ _ _ _ _ _ _ _ _ _ _ _ _ _ _ _ _ _ _ _ _ _ _ _ _ (H2.out)

set_option maxRecDepth 100000 in
set_option maxHeartbeats 4000000 in
theorem rr0B (K : Act → World → Prop) (Q : Exit → Act → World → Prop) (a b : ByteArray) (w W : World) (R : Nat) (m : MetaD) (fd : Bool) (HI : InR w W R a b m) (hx : a.size ≤ maxLen) (hok : okR a.data.toList = true) (hk : ¬ (readD a.data.toList).kind = 6)
    (HK : ∀ W' u10 u11 u12 u13 u14 u15 u16 u17 u18 u19 u20 u21 u22 u23 u24 u25 u26 u27 u28 u29 u30 u31 u32 u33 u34 u35 u36 u37 u38 u39 u40 u41 u42 u43 u44 u45 u46 u47 u48 u49 u50 u51 u52 u53 u54 u55 u56 u57 u58 u59, InR w W' R a b m → K (actR a b R fd 1 u10 u11 u12 u13 u14 u15 u16 u17 u18 u19 u20 u21 u22 u23 u24 u25 u26 u27 u28 u29 u30 u31 u32 u33 u34 u35 u36 u37 u38 u39 u40 u41 u42 u43 u44 u45 u46 u47 u48 u49 u50 u51 u52 u53 u54 u55 u56 u57 u58 u59) W') (t10 t11 t12 t13 t14 t15 t16 t17 t18 t19 t20 t21 t22 t23 t24 t25 t26 t27 t28 t29 t30 t31 t32 t33 t34 t35 t36 t37 t38 t39 t40 t41 t42 t43 t44 t45 t46 t47 t48 t49 t50 t51 t52 t53 t54 t55 t56 t57 t58 t59 : Value) :
    (lcOf Tryz.f6).wp Tryz.prog (Exit.then K Q) (actR a b R fd 0 t10 t11 t12 t13 t14 t15 t16 t17 t18 t19 t20 t21 t22 t23 t24 t25 t26 t27 t28 t29 t30 t31 t32 t33 t34 t35 t36 t37 t38 t39 t40 t41 t42 t43 t44 t45 t46 t47 t48 t49 t50 t51 t52 t53 t54 t55 t56 t57 t58 t59) W := by
  have HR := hid (fun W => rread_of a W hx)
  have ht := read_txn a.data.toList
  rw [readN, hok] at HR
  clear hok hx
  generalize readD a.data.toList = RP at *
  have cA := cell_rowL HI.arr
  replace HI := hid HI
  replace HK := hid HK
  obtain ⟨rk, ri, ry, rd, rt, rv, rf, rn, ⟨n1, ⟨n2, n3, n4⟩, n5, n6⟩⟩ := RP
  obtain ⟨m1, ⟨m2, m3, m4⟩, m5, m6⟩ := m
  obtain ⟨ht0, ht1⟩ := ht
  replace ht0 : 0 ≤ n1 := ht0
  replace ht1 : n1 < 18446744073709551616 := ht1
  simp only at hk
  unfold actR lcOf
  simp only [Tryz.f6, loopIn, Option.bind_some, Option.none_or, Option.some_or, Option.getD_some]
  go_wp2_with fail
  refine (HR.out _).mono ?_
  rintro e w1 ⟨xi, xk, xd, xv, xf, rfl, hx, hb⟩
  obtain ⟨xi0, xi1, xi2, rfl⟩ := hx.items.slice
  obtain ⟨xk0, xk1, xk2, rfl⟩ := hx.keys.slice
  obtain ⟨xd0, xd1, xd2, rfl⟩ := hx.kids.slice
  obtain ⟨xv0, xv1, xv2, rfl⟩ := hx.vals.slice
  obtain ⟨xf0, xf1, xf2, rfl⟩ := hx.free.slice
  have H1 := hid (HI.out.go hb)
  clear hx hb HI HR cA
  unfold pageCells
  have H2 := hid (H1.out.new (.cells #[.int .i64 rk, .slice xi0 xi1 xi2, .slice xk0 xk1 xk2, .slice xd0 xd1 xd2, .string rt, .slice xv0 xv1 xv2, .slice xf0 xf1 xf2, .int .i64 rn, .int .u64 n1, .int .i64 n2, .int .i64 n3, .int .i64 n4, .int .i64 n5, .int .i64 n6] 50))
  have hP := heap_newL w1 (.cells #[.int .i64 rk, .slice xi0 xi1 xi2, .slice xk0 xk1 xk2, .slice xd0 xd1 xd2, .string rt, .slice xv0 xv1 xv2, .slice xf0 xf1 xf2, .int .i64 rn, .int .u64 n1, .int .i64 n2, .int .i64 n3, .int .i64 n4, .int .i64 n5, .int .i64 n6] 50)
  have cP := cell_rowL hP
  clear hP H1
  go_wp2
  exact HK.out _ _ _ _ _ _ _ _ _ _ _ _ _ _ _ _ _ _ _ _ _ _ _ _ _ _ _ _ _ _ _ _ _ _ _ _ _ _ _ _ _ _ _ _ _ _ _ _ _ _ _ (H2.out)

set_option maxRecDepth 100000 in
set_option maxHeartbeats 4000000 in
theorem rr0C (K : Act → World → Prop) (Q : Exit → Act → World → Prop) (a b : ByteArray) (w W : World) (R : Nat) (m : MetaD) (fd : Bool) (HI : InR w W R a b m) (hx : a.size ≤ maxLen) (hok : okR a.data.toList = true) (hk : (readD a.data.toList).kind = 6) (hp : ¬ (readD a.data.toList).mt.txn % 2 = 0)
    (HK : ∀ W' u10 u11 u12 u13 u14 u15 u16 u17 u18 u19 u20 u21 u22 u23 u24 u25 u26 u27 u28 u29 u30 u31 u32 u33 u34 u35 u36 u37 u38 u39 u40 u41 u42 u43 u44 u45 u46 u47 u48 u49 u50 u51 u52 u53 u54 u55 u56 u57 u58 u59, InR w W' R a b m → K (actR a b R fd 1 u10 u11 u12 u13 u14 u15 u16 u17 u18 u19 u20 u21 u22 u23 u24 u25 u26 u27 u28 u29 u30 u31 u32 u33 u34 u35 u36 u37 u38 u39 u40 u41 u42 u43 u44 u45 u46 u47 u48 u49 u50 u51 u52 u53 u54 u55 u56 u57 u58 u59) W') (t10 t11 t12 t13 t14 t15 t16 t17 t18 t19 t20 t21 t22 t23 t24 t25 t26 t27 t28 t29 t30 t31 t32 t33 t34 t35 t36 t37 t38 t39 t40 t41 t42 t43 t44 t45 t46 t47 t48 t49 t50 t51 t52 t53 t54 t55 t56 t57 t58 t59 : Value) :
    (lcOf Tryz.f6).wp Tryz.prog (Exit.then K Q) (actR a b R fd 0 t10 t11 t12 t13 t14 t15 t16 t17 t18 t19 t20 t21 t22 t23 t24 t25 t26 t27 t28 t29 t30 t31 t32 t33 t34 t35 t36 t37 t38 t39 t40 t41 t42 t43 t44 t45 t46 t47 t48 t49 t50 t51 t52 t53 t54 t55 t56 t57 t58 t59) W := by
  have HR := hid (fun W => rread_of a W hx)
  have ht := read_txn a.data.toList
  rw [readN, hok] at HR
  clear hok hx
  generalize readD a.data.toList = RP at *
  have cA := cell_rowL HI.arr
  replace HI := hid HI
  replace HK := hid HK
  obtain ⟨rk, ri, ry, rd, rt, rv, rf, rn, ⟨n1, ⟨n2, n3, n4⟩, n5, n6⟩⟩ := RP
  obtain ⟨m1, ⟨m2, m3, m4⟩, m5, m6⟩ := m
  obtain ⟨ht0, ht1⟩ := ht
  replace ht0 : 0 ≤ n1 := ht0
  replace ht1 : n1 < 18446744073709551616 := ht1
  simp only at hk
  subst hk
  simp only at hp
  unfold actR lcOf
  simp only [Tryz.f6, loopIn, Option.bind_some, Option.none_or, Option.some_or, Option.getD_some]
  go_wp2_with fail
  refine (HR.out _).mono ?_
  rintro e w1 ⟨xi, xk, xd, xv, xf, rfl, hx, hb⟩
  obtain ⟨xi0, xi1, xi2, rfl⟩ := hx.items.slice
  obtain ⟨xk0, xk1, xk2, rfl⟩ := hx.keys.slice
  obtain ⟨xd0, xd1, xd2, rfl⟩ := hx.kids.slice
  obtain ⟨xv0, xv1, xv2, rfl⟩ := hx.vals.slice
  obtain ⟨xf0, xf1, xf2, rfl⟩ := hx.free.slice
  have H1 := hid (HI.out.go hb)
  clear hx hb HI HR cA
  unfold pageCells
  have H2 := hid (H1.out.new (.cells #[.int .i64 6, .slice xi0 xi1 xi2, .slice xk0 xk1 xk2, .slice xd0 xd1 xd2, .string rt, .slice xv0 xv1 xv2, .slice xf0 xf1 xf2, .int .i64 rn, .int .u64 n1, .int .i64 n2, .int .i64 n3, .int .i64 n4, .int .i64 n5, .int .i64 n6] 50))
  have hP := heap_newL w1 (.cells #[.int .i64 6, .slice xi0 xi1 xi2, .slice xk0 xk1 xk2, .slice xd0 xd1 xd2, .string rt, .slice xv0 xv1 xv2, .slice xf0 xf1 xf2, .int .i64 rn, .int .u64 n1, .int .i64 n2, .int .i64 n3, .int .i64 n4, .int .i64 n5, .int .i64 n6] 50)
  have cP := cell_rowL hP
  clear hP H1
  go_wp2_with fail
  generalize w1.alloc (.cells #[.int .i64 6, .slice xi0 xi1 xi2, .slice xk0 xk1 xk2, .slice xd0 xd1 xd2, .string rt, .slice xv0 xv1 xv2, .slice xf0 xf1 xf2, .int .i64 rn, .int .u64 n1, .int .i64 n2, .int .i64 n3, .int .i64 n4, .int .i64 n5, .int .i64 n6] 50) = X at *
  generalize w1.heap.size = P at *
  refine (rplace_any n1 _ ht0 ht1).mono ?_
  rintro e w2 ⟨rfl, rfl⟩
  go_wp2
  exact HK.out _ _ _ _ _ _ _ _ _ _ _ _ _ _ _ _ _ _ _ _ _ _ _ _ _ _ _ _ _ _ _ _ _ _ _ _ _ _ _ _ _ _ _ _ _ _ _ _ _ _ _ (H2.out)

set_option maxRecDepth 100000 in
set_option maxHeartbeats 4000000 in
theorem rr0D (K : Act → World → Prop) (Q : Exit → Act → World → Prop) (a b : ByteArray) (w W : World) (R : Nat) (m : MetaD) (HI : InR w W R a b m) (hx : a.size ≤ maxLen) (hok : okR a.data.toList = true) (hk : (readD a.data.toList).kind = 6) (hp : (readD a.data.toList).mt.txn % 2 = 0)
    (HK : ∀ W' u10 u11 u12 u13 u14 u15 u16 u17 u18 u19 u20 u21 u22 u23 u24 u25 u26 u27 u28 u29 u30 u31 u32 u33 u34 u35 u36 u37 u38 u39 u40 u41 u42 u43 u44 u45 u46 u47 u48 u49 u50 u51 u52 u53 u54 u55 u56 u57 u58 u59, InR w W' R a b (readD a.data.toList).mt → K (actR a b R true 1 u10 u11 u12 u13 u14 u15 u16 u17 u18 u19 u20 u21 u22 u23 u24 u25 u26 u27 u28 u29 u30 u31 u32 u33 u34 u35 u36 u37 u38 u39 u40 u41 u42 u43 u44 u45 u46 u47 u48 u49 u50 u51 u52 u53 u54 u55 u56 u57 u58 u59) W') (t10 t11 t12 t13 t14 t15 t16 t17 t18 t19 t20 t21 t22 t23 t24 t25 t26 t27 t28 t29 t30 t31 t32 t33 t34 t35 t36 t37 t38 t39 t40 t41 t42 t43 t44 t45 t46 t47 t48 t49 t50 t51 t52 t53 t54 t55 t56 t57 t58 t59 : Value) :
    (lcOf Tryz.f6).wp Tryz.prog (Exit.then K Q) (actR a b R false 0 t10 t11 t12 t13 t14 t15 t16 t17 t18 t19 t20 t21 t22 t23 t24 t25 t26 t27 t28 t29 t30 t31 t32 t33 t34 t35 t36 t37 t38 t39 t40 t41 t42 t43 t44 t45 t46 t47 t48 t49 t50 t51 t52 t53 t54 t55 t56 t57 t58 t59) W := by
  have HR := hid (fun W => rread_of a W hx)
  have ht := read_txn a.data.toList
  rw [readN, hok] at HR
  clear hok hx
  generalize readD a.data.toList = RP at *
  have cA := cell_rowL HI.arr
  replace HI := hid HI
  replace HK := hid HK
  obtain ⟨rk, ri, ry, rd, rt, rv, rf, rn, ⟨n1, ⟨n2, n3, n4⟩, n5, n6⟩⟩ := RP
  obtain ⟨m1, ⟨m2, m3, m4⟩, m5, m6⟩ := m
  obtain ⟨ht0, ht1⟩ := ht
  replace ht0 : 0 ≤ n1 := ht0
  replace ht1 : n1 < 18446744073709551616 := ht1
  simp only at hk
  subst hk
  simp only at hp
  unfold actR lcOf
  simp only [Tryz.f6, loopIn, Option.bind_some, Option.none_or, Option.some_or, Option.getD_some]
  go_wp2_with fail
  refine (HR.out _).mono ?_
  rintro e w1 ⟨xi, xk, xd, xv, xf, rfl, hx, hb⟩
  obtain ⟨xi0, xi1, xi2, rfl⟩ := hx.items.slice
  obtain ⟨xk0, xk1, xk2, rfl⟩ := hx.keys.slice
  obtain ⟨xd0, xd1, xd2, rfl⟩ := hx.kids.slice
  obtain ⟨xv0, xv1, xv2, rfl⟩ := hx.vals.slice
  obtain ⟨xf0, xf1, xf2, rfl⟩ := hx.free.slice
  have H1 := hid (HI.out.go hb)
  clear hx hb HI HR cA
  unfold pageCells
  have H2 := hid (H1.out.new (.cells #[.int .i64 6, .slice xi0 xi1 xi2, .slice xk0 xk1 xk2, .slice xd0 xd1 xd2, .string rt, .slice xv0 xv1 xv2, .slice xf0 xf1 xf2, .int .i64 rn, .int .u64 n1, .int .i64 n2, .int .i64 n3, .int .i64 n4, .int .i64 n5, .int .i64 n6] 50))
  have hP := heap_newL w1 (.cells #[.int .i64 6, .slice xi0 xi1 xi2, .slice xk0 xk1 xk2, .slice xd0 xd1 xd2, .string rt, .slice xv0 xv1 xv2, .slice xf0 xf1 xf2, .int .i64 rn, .int .u64 n1, .int .i64 n2, .int .i64 n3, .int .i64 n4, .int .i64 n5, .int .i64 n6] 50)
  have cP := cell_rowL hP
  have cB := cell_rowL H2.out.best
  have fB := frozen_rowL H2.out.best
  unfold metaC at cB
  clear hP H1
  go_wp2_with fail
  generalize w1.alloc (.cells #[.int .i64 6, .slice xi0 xi1 xi2, .slice xk0 xk1 xk2, .slice xd0 xd1 xd2, .string rt, .slice xv0 xv1 xv2, .slice xf0 xf1 xf2, .int .i64 rn, .int .u64 n1, .int .i64 n2, .int .i64 n3, .int .i64 n4, .int .i64 n5, .int .i64 n6] 50) = X at *
  generalize w1.heap.size = P at *
  refine (rplace_any n1 _ ht0 ht1).mono ?_
  rintro e w2 ⟨rfl, rfl⟩
  go_wp2
  exact HK.out _ _ _ _ _ _ _ _ _ _ _ _ _ _ _ _ _ _ _ _ _ _ _ _ _ _ _ _ _ _ _ _ _ _ _ _ _ _ _ _ _ _ _ _ _ _ _ _ _ _ _ (H2.out.put ⟨n1, ⟨n2, n3, n4⟩, n5, n6⟩)

set_option maxRecDepth 100000 in
set_option maxHeartbeats 4000000 in
theorem rr1A (K : Act → World → Prop) (Q : Exit → Act → World → Prop) (a b : ByteArray) (w W : World) (R : Nat) (m : MetaD) (fd : Bool) (HI : InR w W R a b m) (hx : b.size ≤ maxLen) (hok : okR b.data.toList = false)
    (HK : ∀ W' u10 u11 u12 u13 u14 u15 u16 u17 u18 u19 u20 u21 u22 u23 u24 u25 u26 u27 u28 u29 u30 u31 u32 u33 u34 u35 u36 u37 u38 u39 u40 u41 u42 u43 u44 u45 u46 u47 u48 u49 u50 u51 u52 u53 u54 u55 u56 u57 u58 u59, InR w W' R a b m → K (actR a b R fd 2 u10 u11 u12 u13 u14 u15 u16 u17 u18 u19 u20 u21 u22 u23 u24 u25 u26 u27 u28 u29 u30 u31 u32 u33 u34 u35 u36 u37 u38 u39 u40 u41 u42 u43 u44 u45 u46 u47 u48 u49 u50 u51 u52 u53 u54 u55 u56 u57 u58 u59) W') (t10 t11 t12 t13 t14 t15 t16 t17 t18 t19 t20 t21 t22 t23 t24 t25 t26 t27 t28 t29 t30 t31 t32 t33 t34 t35 t36 t37 t38 t39 t40 t41 t42 t43 t44 t45 t46 t47 t48 t49 t50 t51 t52 t53 t54 t55 t56 t57 t58 t59 : Value) :
    (lcOf Tryz.f6).wp Tryz.prog (Exit.then K Q) (actR a b R fd 1 t10 t11 t12 t13 t14 t15 t16 t17 t18 t19 t20 t21 t22 t23 t24 t25 t26 t27 t28 t29 t30 t31 t32 t33 t34 t35 t36 t37 t38 t39 t40 t41 t42 t43 t44 t45 t46 t47 t48 t49 t50 t51 t52 t53 t54 t55 t56 t57 t58 t59) W := by
  have HR := hid (fun W => rread_of b W hx)
  have ht := read_txn b.data.toList
  rw [readN, hok] at HR
  clear hok hx
  generalize readD b.data.toList = RP at *
  have cA := cell_rowL HI.arr
  replace HI := hid HI
  replace HK := hid HK
  obtain ⟨rk, ri, ry, rd, rt, rv, rf, rn, ⟨n1, ⟨n2, n3, n4⟩, n5, n6⟩⟩ := RP
  obtain ⟨m1, ⟨m2, m3, m4⟩, m5, m6⟩ := m
  obtain ⟨ht0, ht1⟩ := ht
  replace ht0 : 0 ≤ n1 := ht0
  replace ht1 : n1 < 18446744073709551616 := ht1
  unfold actR lcOf
  simp only [Tryz.f6, loopIn, Option.bind_some, Option.none_or, Option.some_or, Option.getD_some]
  go_wp2_with fail
  refine (HR.out _).mono ?_
  rintro e w1 ⟨xi, xk, xd, xv, xf, rfl, hx, hb⟩
  obtain ⟨xi0, xi1, xi2, rfl⟩ := hx.items.slice
  obtain ⟨xk0, xk1, xk2, rfl⟩ := hx.keys.slice
  obtain ⟨xd0, xd1, xd2, rfl⟩ := hx.kids.slice
  obtain ⟨xv0, xv1, xv2, rfl⟩ := hx.vals.slice
  obtain ⟨xf0, xf1, xf2, rfl⟩ := hx.free.slice
  have H1 := hid (HI.out.go hb)
  clear hx hb HI HR cA
  unfold pageCells
  have H2 := hid (H1.out.new (.cells #[.int .i64 rk, .slice xi0 xi1 xi2, .slice xk0 xk1 xk2, .slice xd0 xd1 xd2, .string rt, .slice xv0 xv1 xv2, .slice xf0 xf1 xf2, .int .i64 rn, .int .u64 n1, .int .i64 n2, .int .i64 n3, .int .i64 n4, .int .i64 n5, .int .i64 n6] 50))
  have hP := heap_newL w1 (.cells #[.int .i64 rk, .slice xi0 xi1 xi2, .slice xk0 xk1 xk2, .slice xd0 xd1 xd2, .string rt, .slice xv0 xv1 xv2, .slice xf0 xf1 xf2, .int .i64 rn, .int .u64 n1, .int .i64 n2, .int .i64 n3, .int .i64 n4, .int .i64 n5, .int .i64 n6] 50)
  have cP := cell_rowL hP
  clear hP H1
  go_wp2
  exact HK.out _ _ _ _ _ _ _ _ _ _ _ _ _ _ _ _ _ _ _ _ _ _ _ _ _ _ _ _ _ _ _ _ _ _ _ _ _ _ _ _ _ _ _ _ _ _ _ _ _ _ _ (H2.out)

set_option maxRecDepth 100000 in
set_option maxHeartbeats 4000000 in
theorem rr1B (K : Act → World → Prop) (Q : Exit → Act → World → Prop) (a b : ByteArray) (w W : World) (R : Nat) (m : MetaD) (fd : Bool) (HI : InR w W R a b m) (hx : b.size ≤ maxLen) (hok : okR b.data.toList = true) (hk : ¬ (readD b.data.toList).kind = 6)
    (HK : ∀ W' u10 u11 u12 u13 u14 u15 u16 u17 u18 u19 u20 u21 u22 u23 u24 u25 u26 u27 u28 u29 u30 u31 u32 u33 u34 u35 u36 u37 u38 u39 u40 u41 u42 u43 u44 u45 u46 u47 u48 u49 u50 u51 u52 u53 u54 u55 u56 u57 u58 u59, InR w W' R a b m → K (actR a b R fd 2 u10 u11 u12 u13 u14 u15 u16 u17 u18 u19 u20 u21 u22 u23 u24 u25 u26 u27 u28 u29 u30 u31 u32 u33 u34 u35 u36 u37 u38 u39 u40 u41 u42 u43 u44 u45 u46 u47 u48 u49 u50 u51 u52 u53 u54 u55 u56 u57 u58 u59) W') (t10 t11 t12 t13 t14 t15 t16 t17 t18 t19 t20 t21 t22 t23 t24 t25 t26 t27 t28 t29 t30 t31 t32 t33 t34 t35 t36 t37 t38 t39 t40 t41 t42 t43 t44 t45 t46 t47 t48 t49 t50 t51 t52 t53 t54 t55 t56 t57 t58 t59 : Value) :
    (lcOf Tryz.f6).wp Tryz.prog (Exit.then K Q) (actR a b R fd 1 t10 t11 t12 t13 t14 t15 t16 t17 t18 t19 t20 t21 t22 t23 t24 t25 t26 t27 t28 t29 t30 t31 t32 t33 t34 t35 t36 t37 t38 t39 t40 t41 t42 t43 t44 t45 t46 t47 t48 t49 t50 t51 t52 t53 t54 t55 t56 t57 t58 t59) W := by
  have HR := hid (fun W => rread_of b W hx)
  have ht := read_txn b.data.toList
  rw [readN, hok] at HR
  clear hok hx
  generalize readD b.data.toList = RP at *
  have cA := cell_rowL HI.arr
  replace HI := hid HI
  replace HK := hid HK
  obtain ⟨rk, ri, ry, rd, rt, rv, rf, rn, ⟨n1, ⟨n2, n3, n4⟩, n5, n6⟩⟩ := RP
  obtain ⟨m1, ⟨m2, m3, m4⟩, m5, m6⟩ := m
  obtain ⟨ht0, ht1⟩ := ht
  replace ht0 : 0 ≤ n1 := ht0
  replace ht1 : n1 < 18446744073709551616 := ht1
  simp only at hk
  unfold actR lcOf
  simp only [Tryz.f6, loopIn, Option.bind_some, Option.none_or, Option.some_or, Option.getD_some]
  go_wp2_with fail
  refine (HR.out _).mono ?_
  rintro e w1 ⟨xi, xk, xd, xv, xf, rfl, hx, hb⟩
  obtain ⟨xi0, xi1, xi2, rfl⟩ := hx.items.slice
  obtain ⟨xk0, xk1, xk2, rfl⟩ := hx.keys.slice
  obtain ⟨xd0, xd1, xd2, rfl⟩ := hx.kids.slice
  obtain ⟨xv0, xv1, xv2, rfl⟩ := hx.vals.slice
  obtain ⟨xf0, xf1, xf2, rfl⟩ := hx.free.slice
  have H1 := hid (HI.out.go hb)
  clear hx hb HI HR cA
  unfold pageCells
  have H2 := hid (H1.out.new (.cells #[.int .i64 rk, .slice xi0 xi1 xi2, .slice xk0 xk1 xk2, .slice xd0 xd1 xd2, .string rt, .slice xv0 xv1 xv2, .slice xf0 xf1 xf2, .int .i64 rn, .int .u64 n1, .int .i64 n2, .int .i64 n3, .int .i64 n4, .int .i64 n5, .int .i64 n6] 50))
  have hP := heap_newL w1 (.cells #[.int .i64 rk, .slice xi0 xi1 xi2, .slice xk0 xk1 xk2, .slice xd0 xd1 xd2, .string rt, .slice xv0 xv1 xv2, .slice xf0 xf1 xf2, .int .i64 rn, .int .u64 n1, .int .i64 n2, .int .i64 n3, .int .i64 n4, .int .i64 n5, .int .i64 n6] 50)
  have cP := cell_rowL hP
  clear hP H1
  go_wp2
  exact HK.out _ _ _ _ _ _ _ _ _ _ _ _ _ _ _ _ _ _ _ _ _ _ _ _ _ _ _ _ _ _ _ _ _ _ _ _ _ _ _ _ _ _ _ _ _ _ _ _ _ _ _ (H2.out)

set_option maxRecDepth 100000 in
set_option maxHeartbeats 4000000 in
theorem rr1C (K : Act → World → Prop) (Q : Exit → Act → World → Prop) (a b : ByteArray) (w W : World) (R : Nat) (m : MetaD) (fd : Bool) (HI : InR w W R a b m) (hx : b.size ≤ maxLen) (hok : okR b.data.toList = true) (hk : (readD b.data.toList).kind = 6) (hp : ¬ (readD b.data.toList).mt.txn % 2 = 1)
    (HK : ∀ W' u10 u11 u12 u13 u14 u15 u16 u17 u18 u19 u20 u21 u22 u23 u24 u25 u26 u27 u28 u29 u30 u31 u32 u33 u34 u35 u36 u37 u38 u39 u40 u41 u42 u43 u44 u45 u46 u47 u48 u49 u50 u51 u52 u53 u54 u55 u56 u57 u58 u59, InR w W' R a b m → K (actR a b R fd 2 u10 u11 u12 u13 u14 u15 u16 u17 u18 u19 u20 u21 u22 u23 u24 u25 u26 u27 u28 u29 u30 u31 u32 u33 u34 u35 u36 u37 u38 u39 u40 u41 u42 u43 u44 u45 u46 u47 u48 u49 u50 u51 u52 u53 u54 u55 u56 u57 u58 u59) W') (t10 t11 t12 t13 t14 t15 t16 t17 t18 t19 t20 t21 t22 t23 t24 t25 t26 t27 t28 t29 t30 t31 t32 t33 t34 t35 t36 t37 t38 t39 t40 t41 t42 t43 t44 t45 t46 t47 t48 t49 t50 t51 t52 t53 t54 t55 t56 t57 t58 t59 : Value) :
    (lcOf Tryz.f6).wp Tryz.prog (Exit.then K Q) (actR a b R fd 1 t10 t11 t12 t13 t14 t15 t16 t17 t18 t19 t20 t21 t22 t23 t24 t25 t26 t27 t28 t29 t30 t31 t32 t33 t34 t35 t36 t37 t38 t39 t40 t41 t42 t43 t44 t45 t46 t47 t48 t49 t50 t51 t52 t53 t54 t55 t56 t57 t58 t59) W := by
  have HR := hid (fun W => rread_of b W hx)
  have ht := read_txn b.data.toList
  rw [readN, hok] at HR
  clear hok hx
  generalize readD b.data.toList = RP at *
  have cA := cell_rowL HI.arr
  replace HI := hid HI
  replace HK := hid HK
  obtain ⟨rk, ri, ry, rd, rt, rv, rf, rn, ⟨n1, ⟨n2, n3, n4⟩, n5, n6⟩⟩ := RP
  obtain ⟨m1, ⟨m2, m3, m4⟩, m5, m6⟩ := m
  obtain ⟨ht0, ht1⟩ := ht
  replace ht0 : 0 ≤ n1 := ht0
  replace ht1 : n1 < 18446744073709551616 := ht1
  simp only at hk
  subst hk
  simp only at hp
  unfold actR lcOf
  simp only [Tryz.f6, loopIn, Option.bind_some, Option.none_or, Option.some_or, Option.getD_some]
  go_wp2_with fail
  refine (HR.out _).mono ?_
  rintro e w1 ⟨xi, xk, xd, xv, xf, rfl, hx, hb⟩
  obtain ⟨xi0, xi1, xi2, rfl⟩ := hx.items.slice
  obtain ⟨xk0, xk1, xk2, rfl⟩ := hx.keys.slice
  obtain ⟨xd0, xd1, xd2, rfl⟩ := hx.kids.slice
  obtain ⟨xv0, xv1, xv2, rfl⟩ := hx.vals.slice
  obtain ⟨xf0, xf1, xf2, rfl⟩ := hx.free.slice
  have H1 := hid (HI.out.go hb)
  clear hx hb HI HR cA
  unfold pageCells
  have H2 := hid (H1.out.new (.cells #[.int .i64 6, .slice xi0 xi1 xi2, .slice xk0 xk1 xk2, .slice xd0 xd1 xd2, .string rt, .slice xv0 xv1 xv2, .slice xf0 xf1 xf2, .int .i64 rn, .int .u64 n1, .int .i64 n2, .int .i64 n3, .int .i64 n4, .int .i64 n5, .int .i64 n6] 50))
  have hP := heap_newL w1 (.cells #[.int .i64 6, .slice xi0 xi1 xi2, .slice xk0 xk1 xk2, .slice xd0 xd1 xd2, .string rt, .slice xv0 xv1 xv2, .slice xf0 xf1 xf2, .int .i64 rn, .int .u64 n1, .int .i64 n2, .int .i64 n3, .int .i64 n4, .int .i64 n5, .int .i64 n6] 50)
  have cP := cell_rowL hP
  clear hP H1
  go_wp2_with fail
  generalize w1.alloc (.cells #[.int .i64 6, .slice xi0 xi1 xi2, .slice xk0 xk1 xk2, .slice xd0 xd1 xd2, .string rt, .slice xv0 xv1 xv2, .slice xf0 xf1 xf2, .int .i64 rn, .int .u64 n1, .int .i64 n2, .int .i64 n3, .int .i64 n4, .int .i64 n5, .int .i64 n6] 50) = X at *
  generalize w1.heap.size = P at *
  refine (rplace_any n1 _ ht0 ht1).mono ?_
  rintro e w2 ⟨rfl, rfl⟩
  go_wp2
  exact HK.out _ _ _ _ _ _ _ _ _ _ _ _ _ _ _ _ _ _ _ _ _ _ _ _ _ _ _ _ _ _ _ _ _ _ _ _ _ _ _ _ _ _ _ _ _ _ _ _ _ _ _ (H2.out)

set_option maxRecDepth 100000 in
set_option maxHeartbeats 4000000 in
theorem rr1D (K : Act → World → Prop) (Q : Exit → Act → World → Prop) (a b : ByteArray) (w W : World) (R : Nat) (m : MetaD) (HI : InR w W R a b m) (hx : b.size ≤ maxLen) (hok : okR b.data.toList = true) (hk : (readD b.data.toList).kind = 6) (hp : (readD b.data.toList).mt.txn % 2 = 1)
    (HK : ∀ W' u10 u11 u12 u13 u14 u15 u16 u17 u18 u19 u20 u21 u22 u23 u24 u25 u26 u27 u28 u29 u30 u31 u32 u33 u34 u35 u36 u37 u38 u39 u40 u41 u42 u43 u44 u45 u46 u47 u48 u49 u50 u51 u52 u53 u54 u55 u56 u57 u58 u59, InR w W' R a b (readD b.data.toList).mt → K (actR a b R true 2 u10 u11 u12 u13 u14 u15 u16 u17 u18 u19 u20 u21 u22 u23 u24 u25 u26 u27 u28 u29 u30 u31 u32 u33 u34 u35 u36 u37 u38 u39 u40 u41 u42 u43 u44 u45 u46 u47 u48 u49 u50 u51 u52 u53 u54 u55 u56 u57 u58 u59) W') (t10 t11 t12 t13 t14 t15 t16 t17 t18 t19 t20 t21 t22 t23 t24 t25 t26 t27 t28 t29 t30 t31 t32 t33 t34 t35 t36 t37 t38 t39 t40 t41 t42 t43 t44 t45 t46 t47 t48 t49 t50 t51 t52 t53 t54 t55 t56 t57 t58 t59 : Value) :
    (lcOf Tryz.f6).wp Tryz.prog (Exit.then K Q) (actR a b R false 1 t10 t11 t12 t13 t14 t15 t16 t17 t18 t19 t20 t21 t22 t23 t24 t25 t26 t27 t28 t29 t30 t31 t32 t33 t34 t35 t36 t37 t38 t39 t40 t41 t42 t43 t44 t45 t46 t47 t48 t49 t50 t51 t52 t53 t54 t55 t56 t57 t58 t59) W := by
  have HR := hid (fun W => rread_of b W hx)
  have ht := read_txn b.data.toList
  rw [readN, hok] at HR
  clear hok hx
  generalize readD b.data.toList = RP at *
  have cA := cell_rowL HI.arr
  replace HI := hid HI
  replace HK := hid HK
  obtain ⟨rk, ri, ry, rd, rt, rv, rf, rn, ⟨n1, ⟨n2, n3, n4⟩, n5, n6⟩⟩ := RP
  obtain ⟨m1, ⟨m2, m3, m4⟩, m5, m6⟩ := m
  obtain ⟨ht0, ht1⟩ := ht
  replace ht0 : 0 ≤ n1 := ht0
  replace ht1 : n1 < 18446744073709551616 := ht1
  simp only at hk
  subst hk
  simp only at hp
  unfold actR lcOf
  simp only [Tryz.f6, loopIn, Option.bind_some, Option.none_or, Option.some_or, Option.getD_some]
  go_wp2_with fail
  refine (HR.out _).mono ?_
  rintro e w1 ⟨xi, xk, xd, xv, xf, rfl, hx, hb⟩
  obtain ⟨xi0, xi1, xi2, rfl⟩ := hx.items.slice
  obtain ⟨xk0, xk1, xk2, rfl⟩ := hx.keys.slice
  obtain ⟨xd0, xd1, xd2, rfl⟩ := hx.kids.slice
  obtain ⟨xv0, xv1, xv2, rfl⟩ := hx.vals.slice
  obtain ⟨xf0, xf1, xf2, rfl⟩ := hx.free.slice
  have H1 := hid (HI.out.go hb)
  clear hx hb HI HR cA
  unfold pageCells
  have H2 := hid (H1.out.new (.cells #[.int .i64 6, .slice xi0 xi1 xi2, .slice xk0 xk1 xk2, .slice xd0 xd1 xd2, .string rt, .slice xv0 xv1 xv2, .slice xf0 xf1 xf2, .int .i64 rn, .int .u64 n1, .int .i64 n2, .int .i64 n3, .int .i64 n4, .int .i64 n5, .int .i64 n6] 50))
  have hP := heap_newL w1 (.cells #[.int .i64 6, .slice xi0 xi1 xi2, .slice xk0 xk1 xk2, .slice xd0 xd1 xd2, .string rt, .slice xv0 xv1 xv2, .slice xf0 xf1 xf2, .int .i64 rn, .int .u64 n1, .int .i64 n2, .int .i64 n3, .int .i64 n4, .int .i64 n5, .int .i64 n6] 50)
  have cP := cell_rowL hP
  have cB := cell_rowL H2.out.best
  have fB := frozen_rowL H2.out.best
  unfold metaC at cB
  clear hP H1
  go_wp2_with fail
  generalize w1.alloc (.cells #[.int .i64 6, .slice xi0 xi1 xi2, .slice xk0 xk1 xk2, .slice xd0 xd1 xd2, .string rt, .slice xv0 xv1 xv2, .slice xf0 xf1 xf2, .int .i64 rn, .int .u64 n1, .int .i64 n2, .int .i64 n3, .int .i64 n4, .int .i64 n5, .int .i64 n6] 50) = X at *
  generalize w1.heap.size = P at *
  refine (rplace_any n1 _ ht0 ht1).mono ?_
  rintro e w2 ⟨rfl, rfl⟩
  go_wp2
  exact HK.out _ _ _ _ _ _ _ _ _ _ _ _ _ _ _ _ _ _ _ _ _ _ _ _ _ _ _ _ _ _ _ _ _ _ _ _ _ _ _ _ _ _ _ _ _ _ _ _ _ _ _ (H2.out.put ⟨n1, ⟨n2, n3, n4⟩, n5, n6⟩)

set_option maxRecDepth 100000 in
set_option maxHeartbeats 4000000 in
theorem rr1E (K : Act → World → Prop) (Q : Exit → Act → World → Prop) (a b : ByteArray) (w W : World) (R : Nat) (m : MetaD) (HI : InR w W R a b m) (hx : b.size ≤ maxLen) (hok : okR b.data.toList = true) (hk : (readD b.data.toList).kind = 6) (hp : (readD b.data.toList).mt.txn % 2 = 1) (hl : m.txn < (readD b.data.toList).mt.txn)
    (HK : ∀ W' u10 u11 u12 u13 u14 u15 u16 u17 u18 u19 u20 u21 u22 u23 u24 u25 u26 u27 u28 u29 u30 u31 u32 u33 u34 u35 u36 u37 u38 u39 u40 u41 u42 u43 u44 u45 u46 u47 u48 u49 u50 u51 u52 u53 u54 u55 u56 u57 u58 u59, InR w W' R a b (readD b.data.toList).mt → K (actR a b R true 2 u10 u11 u12 u13 u14 u15 u16 u17 u18 u19 u20 u21 u22 u23 u24 u25 u26 u27 u28 u29 u30 u31 u32 u33 u34 u35 u36 u37 u38 u39 u40 u41 u42 u43 u44 u45 u46 u47 u48 u49 u50 u51 u52 u53 u54 u55 u56 u57 u58 u59) W') (t10 t11 t12 t13 t14 t15 t16 t17 t18 t19 t20 t21 t22 t23 t24 t25 t26 t27 t28 t29 t30 t31 t32 t33 t34 t35 t36 t37 t38 t39 t40 t41 t42 t43 t44 t45 t46 t47 t48 t49 t50 t51 t52 t53 t54 t55 t56 t57 t58 t59 : Value) :
    (lcOf Tryz.f6).wp Tryz.prog (Exit.then K Q) (actR a b R true 1 t10 t11 t12 t13 t14 t15 t16 t17 t18 t19 t20 t21 t22 t23 t24 t25 t26 t27 t28 t29 t30 t31 t32 t33 t34 t35 t36 t37 t38 t39 t40 t41 t42 t43 t44 t45 t46 t47 t48 t49 t50 t51 t52 t53 t54 t55 t56 t57 t58 t59) W := by
  have HR := hid (fun W => rread_of b W hx)
  have ht := read_txn b.data.toList
  rw [readN, hok] at HR
  clear hok hx
  generalize readD b.data.toList = RP at *
  have cA := cell_rowL HI.arr
  replace HI := hid HI
  replace HK := hid HK
  obtain ⟨rk, ri, ry, rd, rt, rv, rf, rn, ⟨n1, ⟨n2, n3, n4⟩, n5, n6⟩⟩ := RP
  obtain ⟨m1, ⟨m2, m3, m4⟩, m5, m6⟩ := m
  obtain ⟨ht0, ht1⟩ := ht
  replace ht0 : 0 ≤ n1 := ht0
  replace ht1 : n1 < 18446744073709551616 := ht1
  simp only at hk
  subst hk
  simp only at hp
  simp only at hl
  unfold actR lcOf
  simp only [Tryz.f6, loopIn, Option.bind_some, Option.none_or, Option.some_or, Option.getD_some]
  go_wp2_with fail
  refine (HR.out _).mono ?_
  rintro e w1 ⟨xi, xk, xd, xv, xf, rfl, hx, hb⟩
  obtain ⟨xi0, xi1, xi2, rfl⟩ := hx.items.slice
  obtain ⟨xk0, xk1, xk2, rfl⟩ := hx.keys.slice
  obtain ⟨xd0, xd1, xd2, rfl⟩ := hx.kids.slice
  obtain ⟨xv0, xv1, xv2, rfl⟩ := hx.vals.slice
  obtain ⟨xf0, xf1, xf2, rfl⟩ := hx.free.slice
  have H1 := hid (HI.out.go hb)
  clear hx hb HI HR cA
  unfold pageCells
  have H2 := hid (H1.out.new (.cells #[.int .i64 6, .slice xi0 xi1 xi2, .slice xk0 xk1 xk2, .slice xd0 xd1 xd2, .string rt, .slice xv0 xv1 xv2, .slice xf0 xf1 xf2, .int .i64 rn, .int .u64 n1, .int .i64 n2, .int .i64 n3, .int .i64 n4, .int .i64 n5, .int .i64 n6] 50))
  have hP := heap_newL w1 (.cells #[.int .i64 6, .slice xi0 xi1 xi2, .slice xk0 xk1 xk2, .slice xd0 xd1 xd2, .string rt, .slice xv0 xv1 xv2, .slice xf0 xf1 xf2, .int .i64 rn, .int .u64 n1, .int .i64 n2, .int .i64 n3, .int .i64 n4, .int .i64 n5, .int .i64 n6] 50)
  have cP := cell_rowL hP
  have cB := cell_rowL H2.out.best
  have fB := frozen_rowL H2.out.best
  unfold metaC at cB
  clear hP H1
  go_wp2_with fail
  generalize w1.alloc (.cells #[.int .i64 6, .slice xi0 xi1 xi2, .slice xk0 xk1 xk2, .slice xd0 xd1 xd2, .string rt, .slice xv0 xv1 xv2, .slice xf0 xf1 xf2, .int .i64 rn, .int .u64 n1, .int .i64 n2, .int .i64 n3, .int .i64 n4, .int .i64 n5, .int .i64 n6] 50) = X at *
  generalize w1.heap.size = P at *
  refine (rplace_any n1 _ ht0 ht1).mono ?_
  rintro e w2 ⟨rfl, rfl⟩
  go_wp2
  exact HK.out _ _ _ _ _ _ _ _ _ _ _ _ _ _ _ _ _ _ _ _ _ _ _ _ _ _ _ _ _ _ _ _ _ _ _ _ _ _ _ _ _ _ _ _ _ _ _ _ _ _ _ (H2.out.put ⟨n1, ⟨n2, n3, n4⟩, n5, n6⟩)

set_option maxRecDepth 100000 in
set_option maxHeartbeats 4000000 in
theorem rr1F (K : Act → World → Prop) (Q : Exit → Act → World → Prop) (a b : ByteArray) (w W : World) (R : Nat) (m : MetaD) (HI : InR w W R a b m) (hx : b.size ≤ maxLen) (hok : okR b.data.toList = true) (hk : (readD b.data.toList).kind = 6) (hp : (readD b.data.toList).mt.txn % 2 = 1) (hl : ¬ m.txn < (readD b.data.toList).mt.txn)
    (HK : ∀ W' u10 u11 u12 u13 u14 u15 u16 u17 u18 u19 u20 u21 u22 u23 u24 u25 u26 u27 u28 u29 u30 u31 u32 u33 u34 u35 u36 u37 u38 u39 u40 u41 u42 u43 u44 u45 u46 u47 u48 u49 u50 u51 u52 u53 u54 u55 u56 u57 u58 u59, InR w W' R a b m → K (actR a b R true 2 u10 u11 u12 u13 u14 u15 u16 u17 u18 u19 u20 u21 u22 u23 u24 u25 u26 u27 u28 u29 u30 u31 u32 u33 u34 u35 u36 u37 u38 u39 u40 u41 u42 u43 u44 u45 u46 u47 u48 u49 u50 u51 u52 u53 u54 u55 u56 u57 u58 u59) W') (t10 t11 t12 t13 t14 t15 t16 t17 t18 t19 t20 t21 t22 t23 t24 t25 t26 t27 t28 t29 t30 t31 t32 t33 t34 t35 t36 t37 t38 t39 t40 t41 t42 t43 t44 t45 t46 t47 t48 t49 t50 t51 t52 t53 t54 t55 t56 t57 t58 t59 : Value) :
    (lcOf Tryz.f6).wp Tryz.prog (Exit.then K Q) (actR a b R true 1 t10 t11 t12 t13 t14 t15 t16 t17 t18 t19 t20 t21 t22 t23 t24 t25 t26 t27 t28 t29 t30 t31 t32 t33 t34 t35 t36 t37 t38 t39 t40 t41 t42 t43 t44 t45 t46 t47 t48 t49 t50 t51 t52 t53 t54 t55 t56 t57 t58 t59) W := by
  have HR := hid (fun W => rread_of b W hx)
  have ht := read_txn b.data.toList
  rw [readN, hok] at HR
  clear hok hx
  generalize readD b.data.toList = RP at *
  have cA := cell_rowL HI.arr
  replace HI := hid HI
  replace HK := hid HK
  obtain ⟨rk, ri, ry, rd, rt, rv, rf, rn, ⟨n1, ⟨n2, n3, n4⟩, n5, n6⟩⟩ := RP
  obtain ⟨m1, ⟨m2, m3, m4⟩, m5, m6⟩ := m
  obtain ⟨ht0, ht1⟩ := ht
  replace ht0 : 0 ≤ n1 := ht0
  replace ht1 : n1 < 18446744073709551616 := ht1
  simp only at hk
  subst hk
  simp only at hp
  simp only at hl
  unfold actR lcOf
  simp only [Tryz.f6, loopIn, Option.bind_some, Option.none_or, Option.some_or, Option.getD_some]
  go_wp2_with fail
  refine (HR.out _).mono ?_
  rintro e w1 ⟨xi, xk, xd, xv, xf, rfl, hx, hb⟩
  obtain ⟨xi0, xi1, xi2, rfl⟩ := hx.items.slice
  obtain ⟨xk0, xk1, xk2, rfl⟩ := hx.keys.slice
  obtain ⟨xd0, xd1, xd2, rfl⟩ := hx.kids.slice
  obtain ⟨xv0, xv1, xv2, rfl⟩ := hx.vals.slice
  obtain ⟨xf0, xf1, xf2, rfl⟩ := hx.free.slice
  have H1 := hid (HI.out.go hb)
  clear hx hb HI HR cA
  unfold pageCells
  have H2 := hid (H1.out.new (.cells #[.int .i64 6, .slice xi0 xi1 xi2, .slice xk0 xk1 xk2, .slice xd0 xd1 xd2, .string rt, .slice xv0 xv1 xv2, .slice xf0 xf1 xf2, .int .i64 rn, .int .u64 n1, .int .i64 n2, .int .i64 n3, .int .i64 n4, .int .i64 n5, .int .i64 n6] 50))
  have hP := heap_newL w1 (.cells #[.int .i64 6, .slice xi0 xi1 xi2, .slice xk0 xk1 xk2, .slice xd0 xd1 xd2, .string rt, .slice xv0 xv1 xv2, .slice xf0 xf1 xf2, .int .i64 rn, .int .u64 n1, .int .i64 n2, .int .i64 n3, .int .i64 n4, .int .i64 n5, .int .i64 n6] 50)
  have cP := cell_rowL hP
  have cB := cell_rowL H2.out.best
  have fB := frozen_rowL H2.out.best
  unfold metaC at cB
  clear hP H1
  go_wp2_with fail
  generalize w1.alloc (.cells #[.int .i64 6, .slice xi0 xi1 xi2, .slice xk0 xk1 xk2, .slice xd0 xd1 xd2, .string rt, .slice xv0 xv1 xv2, .slice xf0 xf1 xf2, .int .i64 rn, .int .u64 n1, .int .i64 n2, .int .i64 n3, .int .i64 n4, .int .i64 n5, .int .i64 n6] 50) = X at *
  generalize w1.heap.size = P at *
  refine (rplace_any n1 _ ht0 ht1).mono ?_
  rintro e w2 ⟨rfl, rfl⟩
  go_wp2
  exact HK.out _ _ _ _ _ _ _ _ _ _ _ _ _ _ _ _ _ _ _ _ _ _ _ _ _ _ _ _ _ _ _ _ _ _ _ _ _ _ _ _ _ _ _ _ _ _ _ _ _ _ _ (H2.out)

theorem rr0 (K : Act → World → Prop) (Q : Exit → Act → World → Prop) (a b : ByteArray) (w W : World) (R : Nat) (m : MetaD × Bool) (hm : m.2 = false) (HI : InR w W R a b m.1) (hx : a.size ≤ maxLen)
    (HK : ∀ W' u10 u11 u12 u13 u14 u15 u16 u17 u18 u19 u20 u21 u22 u23 u24 u25 u26 u27 u28 u29 u30 u31 u32 u33 u34 u35 u36 u37 u38 u39 u40 u41 u42 u43 u44 u45 u46 u47 u48 u49 u50 u51 u52 u53 u54 u55 u56 u57 u58 u59, InR w W' R a b (nextM m a.data.toList 0).1 → K (actR a b R (nextM m a.data.toList 0).2 1 u10 u11 u12 u13 u14 u15 u16 u17 u18 u19 u20 u21 u22 u23 u24 u25 u26 u27 u28 u29 u30 u31 u32 u33 u34 u35 u36 u37 u38 u39 u40 u41 u42 u43 u44 u45 u46 u47 u48 u49 u50 u51 u52 u53 u54 u55 u56 u57 u58 u59) W') (t10 t11 t12 t13 t14 t15 t16 t17 t18 t19 t20 t21 t22 t23 t24 t25 t26 t27 t28 t29 t30 t31 t32 t33 t34 t35 t36 t37 t38 t39 t40 t41 t42 t43 t44 t45 t46 t47 t48 t49 t50 t51 t52 t53 t54 t55 t56 t57 t58 t59 : Value) :
    (lcOf Tryz.f6).wp Tryz.prog (Exit.then K Q) (actR a b R m.2 0 t10 t11 t12 t13 t14 t15 t16 t17 t18 t19 t20 t21 t22 t23 t24 t25 t26 t27 t28 t29 t30 t31 t32 t33 t34 t35 t36 t37 t38 t39 t40 t41 t42 t43 t44 t45 t46 t47 t48 t49 t50 t51 t52 t53 t54 t55 t56 t57 t58 t59) W := by
  obtain ⟨m, fd⟩ := m
  replace hm : fd = false := hm
  subst hm
  cases hok : okR a.data.toList with
  | false => exact rr0A K Q a b w W R m _ HI hx hok (by simpa [nextM, okMt, hok] using HK) t10 t11 t12 t13 t14 t15 t16 t17 t18 t19 t20 t21 t22 t23 t24 t25 t26 t27 t28 t29 t30 t31 t32 t33 t34 t35 t36 t37 t38 t39 t40 t41 t42 t43 t44 t45 t46 t47 t48 t49 t50 t51 t52 t53 t54 t55 t56 t57 t58 t59
  | true =>
    by_cases hk : (readD a.data.toList).kind = 6
    · by_cases hp : (readD a.data.toList).mt.txn % 2 = 0
      · exact rr0D K Q a b w W R m HI hx hok hk hp (by simpa [nextM, okMt, hok, hk, hp] using HK) t10 t11 t12 t13 t14 t15 t16 t17 t18 t19 t20 t21 t22 t23 t24 t25 t26 t27 t28 t29 t30 t31 t32 t33 t34 t35 t36 t37 t38 t39 t40 t41 t42 t43 t44 t45 t46 t47 t48 t49 t50 t51 t52 t53 t54 t55 t56 t57 t58 t59
      · exact rr0C K Q a b w W R m _ HI hx hok hk hp (by simpa [nextM, okMt, hok, hk, hp] using HK) t10 t11 t12 t13 t14 t15 t16 t17 t18 t19 t20 t21 t22 t23 t24 t25 t26 t27 t28 t29 t30 t31 t32 t33 t34 t35 t36 t37 t38 t39 t40 t41 t42 t43 t44 t45 t46 t47 t48 t49 t50 t51 t52 t53 t54 t55 t56 t57 t58 t59
    · exact rr0B K Q a b w W R m _ HI hx hok hk (by simpa [nextM, okMt, hok, hk] using HK) t10 t11 t12 t13 t14 t15 t16 t17 t18 t19 t20 t21 t22 t23 t24 t25 t26 t27 t28 t29 t30 t31 t32 t33 t34 t35 t36 t37 t38 t39 t40 t41 t42 t43 t44 t45 t46 t47 t48 t49 t50 t51 t52 t53 t54 t55 t56 t57 t58 t59

theorem rr1 (K : Act → World → Prop) (Q : Exit → Act → World → Prop) (a b : ByteArray) (w W : World) (R : Nat) (m : MetaD × Bool) (HI : InR w W R a b m.1) (hx : b.size ≤ maxLen)
    (HK : ∀ W' u10 u11 u12 u13 u14 u15 u16 u17 u18 u19 u20 u21 u22 u23 u24 u25 u26 u27 u28 u29 u30 u31 u32 u33 u34 u35 u36 u37 u38 u39 u40 u41 u42 u43 u44 u45 u46 u47 u48 u49 u50 u51 u52 u53 u54 u55 u56 u57 u58 u59, InR w W' R a b (nextM m b.data.toList 1).1 → K (actR a b R (nextM m b.data.toList 1).2 2 u10 u11 u12 u13 u14 u15 u16 u17 u18 u19 u20 u21 u22 u23 u24 u25 u26 u27 u28 u29 u30 u31 u32 u33 u34 u35 u36 u37 u38 u39 u40 u41 u42 u43 u44 u45 u46 u47 u48 u49 u50 u51 u52 u53 u54 u55 u56 u57 u58 u59) W') (t10 t11 t12 t13 t14 t15 t16 t17 t18 t19 t20 t21 t22 t23 t24 t25 t26 t27 t28 t29 t30 t31 t32 t33 t34 t35 t36 t37 t38 t39 t40 t41 t42 t43 t44 t45 t46 t47 t48 t49 t50 t51 t52 t53 t54 t55 t56 t57 t58 t59 : Value) :
    (lcOf Tryz.f6).wp Tryz.prog (Exit.then K Q) (actR a b R m.2 1 t10 t11 t12 t13 t14 t15 t16 t17 t18 t19 t20 t21 t22 t23 t24 t25 t26 t27 t28 t29 t30 t31 t32 t33 t34 t35 t36 t37 t38 t39 t40 t41 t42 t43 t44 t45 t46 t47 t48 t49 t50 t51 t52 t53 t54 t55 t56 t57 t58 t59) W := by
  obtain ⟨m, fd⟩ := m
  cases hok : okR b.data.toList with
  | false => exact rr1A K Q a b w W R m _ HI hx hok (by simpa [nextM, okMt, hok] using HK) t10 t11 t12 t13 t14 t15 t16 t17 t18 t19 t20 t21 t22 t23 t24 t25 t26 t27 t28 t29 t30 t31 t32 t33 t34 t35 t36 t37 t38 t39 t40 t41 t42 t43 t44 t45 t46 t47 t48 t49 t50 t51 t52 t53 t54 t55 t56 t57 t58 t59
  | true =>
    by_cases hk : (readD b.data.toList).kind = 6
    · by_cases hp : (readD b.data.toList).mt.txn % 2 = 1
      · cases fd with
        | false => exact rr1D K Q a b w W R m HI hx hok hk hp (by simpa [nextM, okMt, hok, hk, hp] using HK) t10 t11 t12 t13 t14 t15 t16 t17 t18 t19 t20 t21 t22 t23 t24 t25 t26 t27 t28 t29 t30 t31 t32 t33 t34 t35 t36 t37 t38 t39 t40 t41 t42 t43 t44 t45 t46 t47 t48 t49 t50 t51 t52 t53 t54 t55 t56 t57 t58 t59
        | true =>
          by_cases hl : m.txn < (readD b.data.toList).mt.txn
          · exact rr1E K Q a b w W R m HI hx hok hk hp hl (by simpa [nextM, okMt, hok, hk, hp, hl] using HK) t10 t11 t12 t13 t14 t15 t16 t17 t18 t19 t20 t21 t22 t23 t24 t25 t26 t27 t28 t29 t30 t31 t32 t33 t34 t35 t36 t37 t38 t39 t40 t41 t42 t43 t44 t45 t46 t47 t48 t49 t50 t51 t52 t53 t54 t55 t56 t57 t58 t59
          · exact rr1F K Q a b w W R m HI hx hok hk hp hl (by simpa [nextM, okMt, hok, hk, hp, hl] using HK) t10 t11 t12 t13 t14 t15 t16 t17 t18 t19 t20 t21 t22 t23 t24 t25 t26 t27 t28 t29 t30 t31 t32 t33 t34 t35 t36 t37 t38 t39 t40 t41 t42 t43 t44 t45 t46 t47 t48 t49 t50 t51 t52 t53 t54 t55 t56 t57 t58 t59
      · exact rr1C K Q a b w W R m _ HI hx hok hk hp (by simpa [nextM, okMt, hok, hk, hp] using HK) t10 t11 t12 t13 t14 t15 t16 t17 t18 t19 t20 t21 t22 t23 t24 t25 t26 t27 t28 t29 t30 t31 t32 t33 t34 t35 t36 t37 t38 t39 t40 t41 t42 t43 t44 t45 t46 t47 t48 t49 t50 t51 t52 t53 t54 t55 t56 t57 t58 t59
    · exact rr1B K Q a b w W R m _ HI hx hok hk (by simpa [nextM, okMt, hok, hk] using HK) t10 t11 t12 t13 t14 t15 t16 t17 t18 t19 t20 t21 t22 t23 t24 t25 t26 t27 t28 t29 t30 t31 t32 t33 t34 t35 t36 t37 t38 t39 t40 t41 t42 t43 t44 t45 t46 t47 t48 t49 t50 t51 t52 t53 t54 t55 t56 t57 t58 t59
end Go.Proofs.YtgnmjdcmaahlnaaGreat

namespace Go.Proofs.YtgnmjdcmaahlnaaGreat
open Go.RowKit Go.Sort

def numM (t : Bool) : Int := if t then 0 else 12
theorem next_pick (a b : List UInt8) : nextM (nextM (noMeta, false) a 0) b 1 = pickM (chooseL a b) := by
  unfold chooseL sentL nextM
  cases okMt a <;> cases okMt b <;> by_cases h1 : (readD a).mt.txn % 2 = 0 <;> by_cases h2 : (readD b).mt.txn % 2 = 1 <;> simp [pickM, h1, h2]
  by_cases h3 : (readD a).mt.txn < (readD b).mt.txn <;> simp [h3]

set_option maxRecDepth 100000 in
set_option maxHeartbeats 4000000 in
theorem rr2 (K : Act → World → Prop) (Q : Exit → Act → World → Prop) (a b : ByteArray) (W : World) (R : Nat) (fd : Bool) (t10 t11 t12 t13 t14 t15 t16 t17 t18 t19 t20 t21 t22 t23 t24 t25 t26 t27 t28 t29 t30 t31 t32 t33 t34 t35 t36 t37 t38 t39 t40 t41 t42 t43 t44 t45 t46 t47 t48 t49 t50 t51 t52 t53 t54 t55 t56 t57 t58 t59 : Value)
    (HQ : ∀ u10 u11 u12 u13 u14 u15 u16 u17 u18 u19 u20 u21 u22 u23 u24 u25 u26 u27 u28 u29 u30 u31 u32 u33 u34 u35 u36 u37 u38 u39 u40 u41 u42 u43 u44 u45 u46 u47 u48 u49 u50 u51 u52 u53 u54 u55 u56 u57 u58 u59, Q (.exit 0) (actR a b R fd 2 u10 u11 u12 u13 u14 u15 u16 u17 u18 u19 u20 u21 u22 u23 u24 u25 u26 u27 u28 u29 u30 u31 u32 u33 u34 u35 u36 u37 u38 u39 u40 u41 u42 u43 u44 u45 u46 u47 u48 u49 u50 u51 u52 u53 u54 u55 u56 u57 u58 u59) W) :
    (lcOf Tryz.f6).wp Tryz.prog (Exit.then K Q) (actR a b R fd 2 t10 t11 t12 t13 t14 t15 t16 t17 t18 t19 t20 t21 t22 t23 t24 t25 t26 t27 t28 t29 t30 t31 t32 t33 t34 t35 t36 t37 t38 t39 t40 t41 t42 t43 t44 t45 t46 t47 t48 t49 t50 t51 t52 t53 t54 t55 t56 t57 t58 t59) W := by
  replace HQ := hid HQ
  unfold actR lcOf
  simp only [Tryz.f6, loopIn, Option.bind_some, Option.none_or, Option.some_or, Option.getD_some]
  go_wp2
  exact HQ.out _ _ _ _ _ _ _ _ _ _ _ _ _ _ _ _ _ _ _ _ _ _ _ _ _ _ _ _ _ _ _ _ _ _ _ _ _ _ _ _ _ _ _ _ _ _ _ _ _ _

set_option maxRecDepth 100000 in
set_option maxHeartbeats 4000000 in
theorem rchoose_any (a b : ByteArray) (w : World) (ha : a.size ≤ maxLen) (hb : b.size ≤ maxLen) :
    Calls Tryz.prog 6 #[.string a, .string b] w fun e w' => e = .returned (.tuple #[metaA (pickM (chooseL a.data.toList b.data.toList)).1, .int .i64 (numM (pickM (chooseL a.data.toList b.data.toList)).2)]) ∧ Below w.heap.size w w' := by
  have HI := inR_start w a b
  unfold zeros at HI
  replace HI := hid HI
  have hpk := next_pick a.data.toList b.data.toList
  have hno : (pickM (chooseL a.data.toList b.data.toList)).2 = false → (pickM (chooseL a.data.toList b.data.toList)).1 = noMeta := by
    rw [← hpk]
    unfold nextM
    repeat' split
    all_goals simp
  generalize pickM (chooseL a.data.toList b.data.toList) = M at *
  obtain ⟨⟨m1, ⟨m2, m3, m4⟩, m5, m6⟩, t⟩ := M
  simp only at hno
  simp only [metaA]
  replace hno := hid hno
  replace hpk := hid hpk
  go_enter Tryz.func6, Tryz.ntmps6
  go_wp2
  rename_i QQ KK HKK
  replace HKK := hid HKK
  change Code.wp Tryz.prog (Code.loop (lcOf Tryz.f6)) _ (actR a b w.heap.size (noMeta, false).2 0 undef undef (.agg #[.int .u64 0, .int .i64 0, .int .i64 0, .int .i64 0, .int .i64 0, .int .i64 0]) (.string a) (.string b) (.agg #[.string a, .string b]) undef undef undef undef undef undef undef undef undef undef undef undef undef undef undef undef undef undef undef undef undef undef undef undef undef undef undef undef undef undef undef undef undef undef undef undef undef undef undef undef undef undef undef undef) _
  generalize ((w.alloc (.cells #[.int .u64 0, .int .i64 0, .int .i64 0, .int .i64 0, .int .i64 0, .int .i64 0] 26)).alloc (.cells #[.int .u64 0, .int .i64 0, .int .i64 0, .int .i64 0, .int .i64 0, .int .i64 0] 26)).alloc (.cells #[.string a, .string b] 41) = W at *
  refine wp_first ?_
  refine rr0 _ _ a b w W _ (noMeta, false) rfl HI.out ha ?_ _ _ _ _ _ _ _ _ _ _ _ _ _ _ _ _ _ _ _ _ _ _ _ _ _ _ _ _ _ _ _ _ _ _ _ _ _ _ _ _ _ _ _ _ _ _ _ _ _ _
  intro W1 u10 u11 u12 u13 u14 u15 u16 u17 u18 u19 u20 u21 u22 u23 u24 u25 u26 u27 u28 u29 u30 u31 u32 u33 u34 u35 u36 u37 u38 u39 u40 u41 u42 u43 u44 u45 u46 u47 u48 u49 u50 u51 u52 u53 u54 u55 u56 u57 u58 u59 H1
  refine wp_again ?_
  refine rr1 _ _ a b w W1 _ _ H1 hb ?_ _ _ _ _ _ _ _ _ _ _ _ _ _ _ _ _ _ _ _ _ _ _ _ _ _ _ _ _ _ _ _ _ _ _ _ _ _ _ _ _ _ _ _ _ _ _ _ _ _ _
  rw [hpk.out]
  intro W2 v10 v11 v12 v13 v14 v15 v16 v17 v18 v19 v20 v21 v22 v23 v24 v25 v26 v27 v28 v29 v30 v31 v32 v33 v34 v35 v36 v37 v38 v39 v40 v41 v42 v43 v44 v45 v46 v47 v48 v49 v50 v51 v52 v53 v54 v55 v56 v57 v58 v59 H2
  refine wp_again ?_
  refine rr2 _ _ a b W2 _ _ v10 v11 v12 v13 v14 v15 v16 v17 v18 v19 v20 v21 v22 v23 v24 v25 v26 v27 v28 v29 v30 v31 v32 v33 v34 v35 v36 v37 v38 v39 v40 v41 v42 v43 v44 v45 v46 v47 v48 v49 v50 v51 v52 v53 v54 v55 v56 v57 v58 v59 ?_
  intro x10 x11 x12 x13 x14 x15 x16 x17 x18 x19 x20 x21 x22 x23 x24 x25 x26 x27 x28 x29 x30 x31 x32 x33 x34 x35 x36 x37 x38 x39 x40 x41 x42 x43 x44 x45 x46 x47 x48 x49 x50 x51 x52 x53 x54 x55 x56 x57 x58 x59
  simp only [Exit.inBlock, Exit.then, ↓reduceIte]
  refine HKK.out _ _ ?_
  clear HKK HI H1 hpk
  simp only at H2
  have cR := cell_rowL H2.res
  have fR := frozen_rowL H2.res
  have cB := cell_rowL H2.best
  unfold zeros at cR
  unfold metaC at cB
  have HB := hid H2.below
  clear H2 ha hb
  unfold actR
  cases t with
  | false =>
    have hn := hno.out rfl
    simp only [noMeta, MetaD.mk.injEq, RootD.mk.injEq] at hn
    obtain ⟨rfl, ⟨rfl, rfl, rfl⟩, rfl, rfl⟩ := hn
    go_wp2
    refine bodyPost_ret (v := .tuple #[.agg #[.int .u64 0, .int .i64 0, .int .i64 0, .int .i64 0, .int .i64 0, .int .i64 0], .int .i64 12]) (by simp [results, Tryz.results6, go_sem, cR]) rfl ⟨rfl, ?_⟩
    repeat (refine Below.setCell ?_ (by simp) _)
    exact HB.out
  | true =>
    go_wp2
    refine bodyPost_ret (v := .tuple #[.agg #[.int .u64 m1, .int .i64 m2, .int .i64 m3, .int .i64 m4, .int .i64 m5, .int .i64 m6], .int .i64 0]) (by simp [results, Tryz.results6, go_sem, cR]) rfl ⟨rfl, ?_⟩
    repeat (refine Below.setCell ?_ (by simp) _)
    exact HB.out
end Go.Proofs.YtgnmjdcmaahlnaaGreat
