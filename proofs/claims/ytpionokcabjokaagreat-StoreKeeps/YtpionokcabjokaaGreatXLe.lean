/- Contracts of package page's own and ownItem. -/
import Derived.Test.YtpionokcabjokaaGreatXc
namespace Go.Proofs.YtpionokcabjokaaGreat
open Go.RowKit Go.Sort

def noItem : ItemD := ⟨⟨#[]⟩, 0, ⟨#[]⟩, 0, 0, [], 0, ⟨0, 0, 0⟩⟩
def ownItemD (x : ItemD) : ItemD :=
  if x.kind = 1 then { noItem with key := x.key, kind := x.kind, val := x.val }
  else if x.kind = 2 then { noItem with key := x.key, kind := x.kind, run := x.run, len := x.len }
  else if x.kind = 3 then { noItem with key := x.key, kind := x.kind, vals := x.vals, dup := x.dup }
  else if x.kind = 4 then { noItem with key := x.key, kind := x.kind, root := x.root }
  else noItem
def onKind (k : Int) (n : Int) (v : Value) : Value := if k = n then v else .slice none 0 0
theorem drewN_below {B : Nat} {a w : World} (h : Below B a w) (n : Nat) : Below B a (w.drewN n) := ⟨h.os, h.tape, h.output, h.size, h.block⟩

set_option maxHeartbeats 1000000 in
theorem ownItem_any (x : ItemD) (v : Value) (w : World) (hv : ∃ ao n cap, v = .slice ao n cap) :
    Calls Tryz.prog 122 #[.agg (itemCells x v).toArray] w fun e w' => e = .returned (.agg (itemCells (ownItemD x) (onKind x.kind 3 v)).toArray) ∧ Below w.heap.size w w' := by
  obtain ⟨ao, n, cap, rfl⟩ := hv
  obtain ⟨k1, d1, l1, r1, n1, s1, p1, ⟨g1, c1, f1⟩⟩ := x
  by_cases h1 : d1 = 1
  · subst h1
    show Calls Tryz.prog _ #[.agg #[.string k1, .int .i64 1, .string l1, .int .i64 r1, .int .i64 n1, .slice ao n cap, .int .i64 p1, .int .i64 g1, .int .i64 c1, .int .i64 f1]] w _
    go_enter Tryz.func122, Tryz.ntmps122
    go_wp2_with fail
    go_quiet (fail)
    go_wp2
    refine bodyPost_ret (v := .agg #[.string k1, .int .i64 1, .string l1, .int .i64 0, .int .i64 0, .slice none 0 0, .int .i64 0, .int .i64 0, .int .i64 0, .int .i64 0]) (by simp [results, Tryz.results122, go_sem]) rfl ⟨by simp [itemCells, ownItemD, noItem, onKind], ?_⟩
    repeat (refine Below.setCell ?_ (by simp) _)
    exact drewN_below (((Below.refl _ _).alloc (Nat.le_refl _) _).alloc (by simp) _) _
  by_cases h2 : d1 = 2
  · subst h2
    show Calls Tryz.prog _ #[.agg #[.string k1, .int .i64 2, .string l1, .int .i64 r1, .int .i64 n1, .slice ao n cap, .int .i64 p1, .int .i64 g1, .int .i64 c1, .int .i64 f1]] w _
    go_enter Tryz.func122, Tryz.ntmps122
    go_wp2_with fail
    go_quiet (fail)
    go_wp2
    refine bodyPost_ret (v := .agg #[.string k1, .int .i64 2, .string ⟨#[]⟩, .int .i64 r1, .int .i64 n1, .slice none 0 0, .int .i64 0, .int .i64 0, .int .i64 0, .int .i64 0]) (by simp [results, Tryz.results122, go_sem]) rfl ⟨by simp [itemCells, ownItemD, noItem, onKind], ?_⟩
    repeat (refine Below.setCell ?_ (by simp) _)
    exact drewN_below (((Below.refl _ _).alloc (Nat.le_refl _) _).alloc (by simp) _) _
  by_cases h3 : d1 = 3
  · subst h3
    show Calls Tryz.prog _ #[.agg #[.string k1, .int .i64 3, .string l1, .int .i64 r1, .int .i64 n1, .slice ao n cap, .int .i64 p1, .int .i64 g1, .int .i64 c1, .int .i64 f1]] w _
    go_enter Tryz.func122, Tryz.ntmps122
    go_wp2_with fail
    go_quiet (fail)
    go_wp2
    refine bodyPost_ret (v := .agg #[.string k1, .int .i64 3, .string ⟨#[]⟩, .int .i64 0, .int .i64 0, .slice ao n cap, .int .i64 p1, .int .i64 0, .int .i64 0, .int .i64 0]) (by simp [results, Tryz.results122, go_sem]) rfl ⟨by simp [itemCells, ownItemD, noItem, onKind], ?_⟩
    repeat (refine Below.setCell ?_ (by simp) _)
    exact drewN_below (((Below.refl _ _).alloc (Nat.le_refl _) _).alloc (by simp) _) _
  by_cases h4 : d1 = 4
  · subst h4
    show Calls Tryz.prog _ #[.agg #[.string k1, .int .i64 4, .string l1, .int .i64 r1, .int .i64 n1, .slice ao n cap, .int .i64 p1, .int .i64 g1, .int .i64 c1, .int .i64 f1]] w _
    go_enter Tryz.func122, Tryz.ntmps122
    go_wp2_with fail
    go_quiet (fail)
    go_wp2
    refine bodyPost_ret (v := .agg #[.string k1, .int .i64 4, .string ⟨#[]⟩, .int .i64 0, .int .i64 0, .slice none 0 0, .int .i64 0, .int .i64 g1, .int .i64 c1, .int .i64 f1]) (by simp [results, Tryz.results122, go_sem]) rfl ⟨by simp [itemCells, ownItemD, noItem, onKind], ?_⟩
    repeat (refine Below.setCell ?_ (by simp) _)
    exact drewN_below (((Below.refl _ _).alloc (Nat.le_refl _) _).alloc (by simp) _) _
  have e1 : (d1 == 1) = false := by simpa using h1
  have e2 : (d1 == 2) = false := by simpa using h2
  have e3 : (d1 == 3) = false := by simpa using h3
  have e4 : (d1 == 4) = false := by simpa using h4
  show Calls Tryz.prog _ #[.agg #[.string k1, .int .i64 d1, .string l1, .int .i64 r1, .int .i64 n1, .slice ao n cap, .int .i64 p1, .int .i64 g1, .int .i64 c1, .int .i64 f1]] w _
  go_enter Tryz.func122, Tryz.ntmps122
  go_wp2_with fail
  go_quiet (fail)
  go_wp2
  refine bodyPost_ret (v := .agg #[.string ⟨#[]⟩, .int .i64 0, .string ⟨#[]⟩, .int .i64 0, .int .i64 0, .slice none 0 0, .int .i64 0, .int .i64 0, .int .i64 0, .int .i64 0]) (by simp [results, Tryz.results122, go_sem]) rfl ⟨by simp [itemCells, ownItemD, noItem, onKind, h1, h2, h3, h4], ?_⟩
  repeat (refine Below.setCell ?_ (by simp) _)
  exact drewN_below (((Below.refl _ _).alloc (Nat.le_refl _) _).alloc (by simp) _) _

def noPage : PageD := ⟨0, [], [], [], ⟨#[]⟩, [], [], 0, ⟨0, ⟨0, 0, 0⟩, 0, 0⟩⟩
def ownD (p : PageD) : PageD :=
  if p.kind = 1 then { noPage with kind := p.kind, items := p.items }
  else if p.kind = 2 then { noPage with kind := p.kind, keys := p.keys, kids := p.kids }
  else if p.kind = 3 then { noPage with kind := p.kind, text := p.text }
  else if p.kind = 4 then { noPage with kind := p.kind, vals := p.vals }
  else if p.kind = 5 then { noPage with kind := p.kind, free := p.free, next := p.next }
  else if p.kind = 6 then { noPage with kind := p.kind, mt := p.mt }
  else noPage

set_option maxHeartbeats 1000000 in
theorem own_any (p : PageD) (vi vk vd vv vf : Value) (w : World) (hi : ∃ ao n cap, vi = .slice ao n cap) (hk : ∃ ao n cap, vk = .slice ao n cap) (hd : ∃ ao n cap, vd = .slice ao n cap) (hv : ∃ ao n cap, vv = .slice ao n cap) (hf : ∃ ao n cap, vf = .slice ao n cap) :
    Calls Tryz.prog 60 #[.agg (pageCells p vi vk vd vv vf).toArray] w fun e w' => e = .returned (.agg (pageCells (ownD p) (onKind p.kind 1 vi) (onKind p.kind 2 vk) (onKind p.kind 2 vd) (onKind p.kind 4 vv) (onKind p.kind 5 vf)).toArray) ∧ Below w.heap.size w w' := by
  obtain ⟨ai, mi, ci, rfl⟩ := hi
  obtain ⟨ak, mk, ck, rfl⟩ := hk
  obtain ⟨ad, md, cd, rfl⟩ := hd
  obtain ⟨av, mv, cv, rfl⟩ := hv
  obtain ⟨af, mf, cf, rfl⟩ := hf
  obtain ⟨k1, i1, y1, d1, t1, v1, f1, n1, ⟨x1, ⟨g1, c1, q1⟩, r1, l1⟩⟩ := p
  by_cases h1 : k1 = 1
  · subst h1
    show Calls Tryz.prog _ #[.agg #[.int .i64 1, .slice ai mi ci, .slice ak mk ck, .slice ad md cd, .string t1, .slice av mv cv, .slice af mf cf, .int .i64 n1, .int .u64 x1, .int .i64 g1, .int .i64 c1, .int .i64 q1, .int .i64 r1, .int .i64 l1]] w _
    go_enter Tryz.func60, Tryz.ntmps60
    go_wp2
    refine bodyPost_ret (v := .agg #[.int .i64 1, .slice ai mi ci, .slice none 0 0, .slice none 0 0, .string ⟨#[]⟩, .slice none 0 0, .slice none 0 0, .int .i64 0, .int .u64 0, .int .i64 0, .int .i64 0, .int .i64 0, .int .i64 0, .int .i64 0]) (by simp [results, Tryz.results60, go_sem]) rfl ⟨by simp [pageCells, ownD, noPage, onKind], ?_⟩
    exact (((Below.refl _ _).alloc (Nat.le_refl _) _).alloc (by simp) _)
  by_cases h2 : k1 = 2
  · subst h2
    show Calls Tryz.prog _ #[.agg #[.int .i64 2, .slice ai mi ci, .slice ak mk ck, .slice ad md cd, .string t1, .slice av mv cv, .slice af mf cf, .int .i64 n1, .int .u64 x1, .int .i64 g1, .int .i64 c1, .int .i64 q1, .int .i64 r1, .int .i64 l1]] w _
    go_enter Tryz.func60, Tryz.ntmps60
    go_wp2
    refine bodyPost_ret (v := .agg #[.int .i64 2, .slice none 0 0, .slice ak mk ck, .slice ad md cd, .string ⟨#[]⟩, .slice none 0 0, .slice none 0 0, .int .i64 0, .int .u64 0, .int .i64 0, .int .i64 0, .int .i64 0, .int .i64 0, .int .i64 0]) (by simp [results, Tryz.results60, go_sem]) rfl ⟨by simp [pageCells, ownD, noPage, onKind], ?_⟩
    exact (((Below.refl _ _).alloc (Nat.le_refl _) _).alloc (by simp) _)
  by_cases h3 : k1 = 3
  · subst h3
    show Calls Tryz.prog _ #[.agg #[.int .i64 3, .slice ai mi ci, .slice ak mk ck, .slice ad md cd, .string t1, .slice av mv cv, .slice af mf cf, .int .i64 n1, .int .u64 x1, .int .i64 g1, .int .i64 c1, .int .i64 q1, .int .i64 r1, .int .i64 l1]] w _
    go_enter Tryz.func60, Tryz.ntmps60
    go_wp2
    refine bodyPost_ret (v := .agg #[.int .i64 3, .slice none 0 0, .slice none 0 0, .slice none 0 0, .string t1, .slice none 0 0, .slice none 0 0, .int .i64 0, .int .u64 0, .int .i64 0, .int .i64 0, .int .i64 0, .int .i64 0, .int .i64 0]) (by simp [results, Tryz.results60, go_sem]) rfl ⟨by simp [pageCells, ownD, noPage, onKind], ?_⟩
    exact (((Below.refl _ _).alloc (Nat.le_refl _) _).alloc (by simp) _)
  by_cases h4 : k1 = 4
  · subst h4
    show Calls Tryz.prog _ #[.agg #[.int .i64 4, .slice ai mi ci, .slice ak mk ck, .slice ad md cd, .string t1, .slice av mv cv, .slice af mf cf, .int .i64 n1, .int .u64 x1, .int .i64 g1, .int .i64 c1, .int .i64 q1, .int .i64 r1, .int .i64 l1]] w _
    go_enter Tryz.func60, Tryz.ntmps60
    go_wp2
    refine bodyPost_ret (v := .agg #[.int .i64 4, .slice none 0 0, .slice none 0 0, .slice none 0 0, .string ⟨#[]⟩, .slice av mv cv, .slice none 0 0, .int .i64 0, .int .u64 0, .int .i64 0, .int .i64 0, .int .i64 0, .int .i64 0, .int .i64 0]) (by simp [results, Tryz.results60, go_sem]) rfl ⟨by simp [pageCells, ownD, noPage, onKind], ?_⟩
    exact (((Below.refl _ _).alloc (Nat.le_refl _) _).alloc (by simp) _)
  by_cases h5 : k1 = 5
  · subst h5
    show Calls Tryz.prog _ #[.agg #[.int .i64 5, .slice ai mi ci, .slice ak mk ck, .slice ad md cd, .string t1, .slice av mv cv, .slice af mf cf, .int .i64 n1, .int .u64 x1, .int .i64 g1, .int .i64 c1, .int .i64 q1, .int .i64 r1, .int .i64 l1]] w _
    go_enter Tryz.func60, Tryz.ntmps60
    go_wp2
    refine bodyPost_ret (v := .agg #[.int .i64 5, .slice none 0 0, .slice none 0 0, .slice none 0 0, .string ⟨#[]⟩, .slice none 0 0, .slice af mf cf, .int .i64 n1, .int .u64 0, .int .i64 0, .int .i64 0, .int .i64 0, .int .i64 0, .int .i64 0]) (by simp [results, Tryz.results60, go_sem]) rfl ⟨by simp [pageCells, ownD, noPage, onKind], ?_⟩
    exact (((Below.refl _ _).alloc (Nat.le_refl _) _).alloc (by simp) _)
  by_cases h6 : k1 = 6
  · subst h6
    show Calls Tryz.prog _ #[.agg #[.int .i64 6, .slice ai mi ci, .slice ak mk ck, .slice ad md cd, .string t1, .slice av mv cv, .slice af mf cf, .int .i64 n1, .int .u64 x1, .int .i64 g1, .int .i64 c1, .int .i64 q1, .int .i64 r1, .int .i64 l1]] w _
    go_enter Tryz.func60, Tryz.ntmps60
    go_wp2
    refine bodyPost_ret (v := .agg #[.int .i64 6, .slice none 0 0, .slice none 0 0, .slice none 0 0, .string ⟨#[]⟩, .slice none 0 0, .slice none 0 0, .int .i64 0, .int .u64 x1, .int .i64 g1, .int .i64 c1, .int .i64 q1, .int .i64 r1, .int .i64 l1]) (by simp [results, Tryz.results60, go_sem]) rfl ⟨by simp [pageCells, ownD, noPage, onKind], ?_⟩
    exact (((Below.refl _ _).alloc (Nat.le_refl _) _).alloc (by simp) _)
  have e1 : (k1 == 1) = false := by simpa using h1
  have e2 : (k1 == 2) = false := by simpa using h2
  have e3 : (k1 == 3) = false := by simpa using h3
  have e4 : (k1 == 4) = false := by simpa using h4
  have e5 : (k1 == 5) = false := by simpa using h5
  have e6 : (k1 == 6) = false := by simpa using h6
  show Calls Tryz.prog _ #[.agg #[.int .i64 k1, .slice ai mi ci, .slice ak mk ck, .slice ad md cd, .string t1, .slice av mv cv, .slice af mf cf, .int .i64 n1, .int .u64 x1, .int .i64 g1, .int .i64 c1, .int .i64 q1, .int .i64 r1, .int .i64 l1]] w _
  go_enter Tryz.func60, Tryz.ntmps60
  go_wp2
  refine bodyPost_ret (v := .agg #[.int .i64 0, .slice none 0 0, .slice none 0 0, .slice none 0 0, .string ⟨#[]⟩, .slice none 0 0, .slice none 0 0, .int .i64 0, .int .u64 0, .int .i64 0, .int .i64 0, .int .i64 0, .int .i64 0, .int .i64 0]) (by simp [results, Tryz.results60, go_sem]) rfl ⟨by simp [pageCells, ownD, noPage, onKind, h1, h2, h3, h4, h5, h6], ?_⟩
  exact (((Below.refl _ _).alloc (Nat.le_refl _) _).alloc (by simp) _)
end Go.Proofs.YtpionokcabjokaaGreat
