/- LockPlays: the program's lock and processes beside the reference's. -/
import Derived.Test.YtdjhlgcbjdohiaaDoorUc
import Derived.Test.YtdjhlgcbjdohiaaDoorUd
import Derived.Test.YtdjhlgcbjdohiaaDoorUe
namespace Go.Proofs.YtdjhlgcbjdohiaaDoor
open Go.RowKit Go.Conc

theorem RlAt.mono {w : World} {B C rb : Nat} {W : Int} {S : List SlotD} (h : RlAt w B rb W S) (hC : C ≤ B) : RlAt w C rb W S := ⟨h.obj, Nat.le_trans hC h.base, h.len⟩
theorem Lo.keeps {w X Y : World} {lb cb k : Nat} {W : Int} {S : List SlotD} {c : Array Value} {T : TypeId} {fr : Nat × Nat} (hL : LockAt X w.heap.size lb cb W S) (o : Lo lb cb X Y) (h : X.heap[k]? = some (.cells c T fr)) (hT : T ≠ 74) : Y.heap[k]? = X.heap[k]? := by
  obtain ⟨s, r, hc⟩ := hL.ch
  have ho := hL.obj
  refine o.block k (lt_of_heap h) ?_ ?_
  · rintro rfl
    rw [ho] at h
    simp at h
    exact hT h.2.1.symm
  · rintro rfl
    rw [hc] at h
    simp at h
/-- All four; W and S: the lock's, V and T: the reference's; la and L, lq and M: those that live. -/
structure Qd (w X : World) (lb cb pb pc rb qb : Nat) (W : Int) (S : List SlotD) (V : Int) (T : List SlotD) (v u : Value) (la : Int) (L : List Int) (lq : Int) (M : List Int) : Prop where
  l : LockAt X w.heap.size lb cb W S
  p : ProcsAt X w.heap.size pb pc v la L L.length
  r : RlAt X w.heap.size rb V T
  q : RpAt X w.heap.size qb u lq M
  ne : ∀ g, u.ownBlock = some g → v.ownBlock ≠ some g
  bel : Below w.heap.size w X
section
variable {w X Y : World} {lb cb pb pc rb qb : Nat} {W W' V V' : Int} {S S' T T' : List SlotD} {v v' u u' : Value} {la la' lq lq' : Int} {L L' M M' : List Int}
theorem Qd.lo (h : Qd w X lb cb pb pc rb qb W S V T v u la L lq M) (hl : LockAt Y w.heap.size lb cb W' S') (o : Lo lb cb X Y) : Qd w Y lb cb pb pc rb qb W' S' V T v u la L lq M := by
  refine ⟨hl, h.p.byLock h.l o, h.r.kept (o.keeps h.l h.r.obj (by decide)), h.q.kept (o.keeps h.l h.q.obj (by decide)) (fun g hg => ?_), h.ne, h.bel.trans (o.below h.l)⟩
  obtain ⟨cur, hc⟩ := own_block h.q.row hg
  exact o.keeps h.l hc (by decide)
theorem Qd.rl (h : Qd w X lb cb pb pc rb qb W S V T v u la L lq M) (hr : RlAt Y w.heap.size rb V' T') (g : X.grownBy Y (some rb)) : Qd w Y lb cb pb pc rb qb W S V' T' v u la L lq M := by
  have ho := h.r.obj
  obtain ⟨s, r, hc⟩ := h.l.ch
  obtain ⟨s', r', hc'⟩ := h.p.ch
  have hk : ∀ (k : Nat) (c : Array Value) (A : TypeId) (fr : Nat × Nat), X.heap[k]? = some (Obj.cells c A fr) → A ≠ 34 → Y.heap[k]? = X.heap[k]? := by
    intro k c A fr h1 h2
    refine g.block k (lt_of_heap h1) (fun e => ?_)
    obtain rfl : k = rb := by simpa using e
    rw [ho] at h1
    simp at h1
    exact h2 h1.2.1.symm
  have hkc : ∀ (k a : Nat) (b : Array Value) (s r : Nat), X.heap[k]? = some (Obj.chan a b false s r false) → Y.heap[k]? = X.heap[k]? := by
    intro k a b s r h1
    refine g.block k (lt_of_heap h1) (fun e => ?_)
    obtain rfl : k = rb := by simpa using e
    rw [ho] at h1
    simp at h1
  refine ⟨h.l.kept (hk lb _ _ _ h.l.obj (by decide)) (hkc cb _ _ _ _ hc), h.p.kept (hk pb _ _ _ h.p.obj (by decide)) (hkc pc _ _ _ _ hc') (fun k hk' => ?_), hr, h.q.byRl h.r g, h.ne, h.bel.grown g h.bel.size (fun k hk' => ?_)⟩
  · obtain ⟨cur, hcu⟩ := own_block h.p.row hk'
    exact hk k _ _ _ hcu (by decide)
  · have := h.r.base
    simp only [Option.some.injEq] at hk'
    omega
theorem Qd.po (h : Qd w X lb cb pb pc rb qb W S V T v u la L lq M) (hp : ProcsAt Y w.heap.size pb pc v' la' L' L'.length) (o : Po pb pc X v Y v') : Qd w Y lb cb pb pc rb qb W S V T v' u la' L' lq M := by
  obtain ⟨s', r', hc'⟩ := h.p.ch
  have hk : ∀ (k : Nat) (c : Array Value) (A : TypeId) (fr : Nat × Nat), X.heap[k]? = some (Obj.cells c A fr) → A ≠ 76 → A ≠ 3 → Y.heap[k]? = X.heap[k]? := by
    intro k c A fr h1 h2 h3
    refine o.block k (lt_of_heap h1) ?_ ?_ (fun e => ?_)
    · rintro rfl
      have := h.p.obj
      rw [this] at h1
      simp at h1
      exact h2 h1.2.1.symm
    · rintro rfl
      rw [hc'] at h1
      simp at h1
    · obtain ⟨cur, hcu⟩ := own_block h.p.row e
      rw [hcu] at h1
      simp at h1
      exact h3 h1.2.1.symm
  refine ⟨h.l.byProcs h.p o, hp, h.r.kept (hk rb _ _ _ h.r.obj (by decide) (by decide)), ⟨(hk qb _ _ _ h.q.obj (by decide) (by decide)).trans h.q.obj, h.q.base, h.q.row.po h.p o h.ne⟩, fun g e1 e2 => ?_, h.bel.trans (o.below h.p)⟩
  rcases o.row g e2 with e3 | e3
  · exact h.ne g e1 e3
  · have := (h.q.rowLt g e1).2
    omega
theorem Qd.rp (h : Qd w X lb cb pb pc rb qb W S V T v u la L lq M) (hq : RpAt Y w.heap.size qb u' lq' M') (g : X.grownBy Y (some qb)) (hg : ∀ k, u'.ownBlock = some k → X.heap.size ≤ k) : Qd w Y lb cb pb pc rb qb W S V T v u' la L lq' M' := by
  have ho := h.q.obj
  obtain ⟨s, r, hc⟩ := h.l.ch
  obtain ⟨s', r', hc'⟩ := h.p.ch
  have hk : ∀ (k : Nat) (c : Array Value) (A : TypeId) (fr : Nat × Nat), X.heap[k]? = some (Obj.cells c A fr) → A ≠ 38 → Y.heap[k]? = X.heap[k]? := by
    intro k c A fr h1 h2
    refine g.block k (lt_of_heap h1) (fun e => ?_)
    obtain rfl : k = qb := by simpa using e
    rw [ho] at h1
    simp at h1
    exact h2 h1.2.1.symm
  have hkc : ∀ (k a : Nat) (b : Array Value) (s r : Nat), X.heap[k]? = some (Obj.chan a b false s r false) → Y.heap[k]? = X.heap[k]? := by
    intro k a b s r h1
    refine g.block k (lt_of_heap h1) (fun e => ?_)
    obtain rfl : k = qb := by simpa using e
    rw [ho] at h1
    simp at h1
  refine ⟨h.l.kept (hk lb _ _ _ h.l.obj (by decide)) (hkc cb _ _ _ _ hc), h.p.kept (hk pb _ _ _ h.p.obj (by decide)) (hkc pc _ _ _ _ hc') (fun k hk' => ?_), h.r.kept (hk rb _ _ _ h.r.obj (by decide)), hq, fun k e1 e2 => ?_, h.bel.grown g h.bel.size (fun k hk' => ?_)⟩
  · obtain ⟨cur, hcu⟩ := own_block h.p.row hk'
    exact hk k _ _ _ hcu (by decide)
  · have := hg k e1
    have := (h.p.rowLt k e2).2
    omega
  · have := h.q.base
    simp only [Option.some.injEq] at hk'
    omega
theorem Qd.below (h : Qd w X lb cb pb pc rb qb W S V T v u la L lq M) (hb : Below X.heap.size X Y) : Qd w Y lb cb pb pc rb qb W S V T v u la L lq M :=
  ⟨h.l.below hb, h.p.below hb, h.r.below hb, h.q.below hb, h.ne, h.bel.trans (hb.mono h.bel.size)⟩
end
end Go.Proofs.YtdjhlgcbjdohiaaDoor
