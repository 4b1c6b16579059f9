/- ProcsPlays: what ties the program's object to the reference's. -/
import Derived.Test.YteafananeopigaaYr
namespace Go.Proofs.Yteafananeopigaa
open Go.RowKit

/-- Both objects, side by side. -/
structure Bo (w0 w : World) (cb pb rb : Nat) (v u : Value) (la : Int) (l : List Int) (lb : Int) (m : List Int) : Prop where
  p : ProcsAt w cb pb cb v la l l.length
  r : RpAt w cb rb u lb m
  ne : ∀ g, u.ownBlock = some g → v.ownBlock ≠ some g
  bel : Below w0.heap.size w0 w
  base : w0.heap.size ≤ cb
theorem Bo.below {w0 w w' : World} {cb pb rb : Nat} {v u : Value} {la lb : Int} {l m : List Int} (h : Bo w0 w cb pb rb v u la l lb m) (hb : Below w.heap.size w w') : Bo w0 w' cb pb rb v u la l lb m :=
  ⟨h.p.below hb, h.r.below hb, h.ne, _root_.Go.Proofs.Yteafananeopigaa.bel h.bel hb h.bel.size, h.base⟩
theorem Bo.apart {w0 w : World} {cb pb rb : Nat} {v u : Value} {la lb : Int} {l m : List Int} (h : Bo w0 w cb pb rb v u la l lb m) : rb ≠ pb ∧ rb ≠ cb ∧ v.ownBlock ≠ some rb := by
  have ho := h.r.obj
  refine ⟨?_, ?_, fun e => ?_⟩
  · rintro rfl
    have := h.p.obj
    rw [ho] at this
    simp at this
  · rintro rfl
    obtain ⟨s, r, hc⟩ := h.p.ch
    rw [ho] at hc
    simp at hc
  · obtain ⟨cur, hc⟩ := own_block h.p.row e
    rw [ho] at hc
    simp at hc
/-- The program's method has run. -/
theorem Bo.po {w0 w w' : World} {cb pb rb : Nat} {v v' u : Value} {la la' lb : Int} {l l' m : List Int} (h : Bo w0 w cb pb rb v u la l lb m) (F : ProcsAt w' cb pb cb v' la' l' l'.length) (O : Po pb cb w v w' v') : Bo w0 w' cb pb rb v' u la' l' lb m := by
  obtain ⟨h1, h2, h3⟩ := h.apart
  refine ⟨F, ⟨(O.block rb h.r.lt h1 h2 h3).trans h.r.obj, h.r.base, h.r.row.po h.p O h.ne⟩, fun g e1 e2 => ?_, h.bel.trans ((O.below h.p).mono h.base), h.base⟩
  rcases O.row g e2 with e3 | e3
  · exact h.ne g e1 e3
  · have := (h.r.rowLt g e1).2
    omega
/-- The reference's method has run. -/
theorem Bo.ro {w0 w w' : World} {cb pb rb : Nat} {v u u' : Value} {la lb lb' : Int} {l m m' : List Int} (h : Bo w0 w cb pb rb v u la l lb m) (R : RpAt w' cb rb u' lb' m') (G : w.grownBy w' (some rb)) (hg : ∀ g, u'.ownBlock = some g → w.heap.size ≤ g) : Bo w0 w' cb pb rb v u' la l lb' m' := by
  obtain ⟨h1, h2, h3⟩ := h.apart
  refine ⟨h.p.kept (G.block pb h.p.lt (by simpa using h1.symm)) (G.block cb h.p.clt (by simpa using h2.symm)) (fun g e => G.block g (h.p.rowLt g e).2 (fun e' => h3 (by rw [e, e']))), R, fun g e1 e2 => ?_, ?_, h.base⟩
  · have := hg g e1
    have := (h.p.rowLt g e2).2
    omega
  · refine h.bel.grown G h.bel.size (fun r hr => ?_)
    have := h.r.base
    have := h.base
    simp only [Option.some.injEq] at hr
    omega
end Go.Proofs.Yteafananeopigaa
