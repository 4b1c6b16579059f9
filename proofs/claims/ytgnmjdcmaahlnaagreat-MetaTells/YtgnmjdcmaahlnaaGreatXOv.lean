/- A meta that comes in as an argument, opened and shut. -/
import Derived.Test.YtgnmjdcmaahlnaaGreatXp
import Derived.Lib.SmallJoins
import Derived.ProofKit
import Derived.OpenShut
namespace Go.Proofs.YtgnmjdcmaahlnaaGreat
open Go.ChangeShapes Go.WideShapes Go.ChangeAt Go.RowKit Go.Joins Go.Deep

section
variable {H : Type} {enc : TypeId × Value → H} {w : World} {base : Nat} {spare : Nat → Bool} {held : Bool}
def MetaWf (m : MetaD) : Prop := (Lit.int .u64 m.txn).wf = true ∧ ((Lit.int .i64 m.main.page).wf = true ∧ (Lit.int .i64 m.main.count).wf = true ∧ (Lit.int .i64 m.main.flags).wf = true) ∧ (Lit.int .i64 m.free).wf = true ∧ (Lit.int .i64 m.last).wf = true
def metaDW (m : MetaD) : DataW H := .agg [.lit (.int .u64 m.txn), .agg [.lit (.int .i64 m.main.page), .lit (.int .i64 m.main.count), .lit (.int .i64 m.main.flags)], .lit (.int .i64 m.free), .lit (.int .i64 m.last)]
theorem array6 {α : Type} {cs : Array α} (h : cs.size = 6) : ∃ c0 c1 c2 c3 c4 c5, cs = #[c0, c1, c2, c3, c4, c5] := by
  obtain ⟨l⟩ := cs
  match l, h with
  | [c0, c1, c2, c3, c4, c5], _ => exact ⟨c0, c1, c2, c3, c4, c5, rfl⟩
theorem cells6 : Tryz.prog.cellsOf 26 = 6 := by kernel_rfl
theorem cells3 : Tryz.prog.cellsOf 24 = 3 := by kernel_rfl
theorem cells1 : Tryz.prog.cellsOf 3 = 1 := by kernel_rfl
theorem cells1u : Tryz.prog.cellsOf 22 = 1 := by kernel_rfl
theorem open_root {n : Nat} {c0 c1 c2 : Value} {y : DataW H × List MemPlace} (h : DataW.trod enc Tryz.prog w base spare held n 24 [c0, c1, c2] = some y) :
    ∃ a b c : Int, [c0, c1, c2] = [.int .i64 a, .int .i64 b, .int .i64 c] ∧ y = (.agg [.lit (.int .i64 a), .lit (.int .i64 b), .lit (.int .i64 c)], []) ∧ (Lit.int .i64 a).wf = true ∧ (Lit.int .i64 b).wf = true ∧ (Lit.int .i64 c).wf = true := by
  obtain ⟨y0, y1, y2, n, hx, _, h0, h1, h2⟩ := trod_struct3 Tryz.underlying24 h
  simp only [cells1, List.drop, List.take] at h0 h1 h2
  obtain ⟨a, ea, ra, wa⟩ := DataW.trod_int Tryz.underlying3 h0
  obtain ⟨b, eb, rb, wb⟩ := DataW.trod_int Tryz.underlying3 h1
  obtain ⟨c, ec, rc, wc⟩ := DataW.trod_int Tryz.underlying3 h2
  simp only [List.cons.injEq, and_true] at ea eb ec
  refine ⟨a, b, c, by rw [ea, eb, ec], ?_, wa, wb, wc⟩
  rw [hx, ra, rb, rc]
  rfl
set_option maxRecDepth 100000 in
theorem open_meta {r : Reach} {b0 : Nat} {v : Value} {d : DataW H} {p : List MemPlace} (hv : Value.okWide Tryz.prog w r b0 26 v) (h : DataW.Trod enc Tryz.prog w base spare held 26 v d p) :
    ∃ m : MetaD, v = metaA m ∧ d = metaDW m ∧ p = [] ∧ MetaWf m := by
  obtain ⟨cs, rfl, hsz⟩ := okWide_struct Tryz.underlying26 hv
  obtain ⟨c0, c1, c2, c3, c4, c5, rfl⟩ := array6 (hsz.trans cells6)
  obtain ⟨fuel, hf⟩ := h
  obtain ⟨y0, y1, y2, y3, n, hx, _, h0, h1, h2, h3⟩ := trod_struct4 Tryz.underlying26 hf
  simp only [Value.cells, cells1, cells1u, cells3, List.drop, List.take] at h0 h1 h2 h3
  obtain ⟨a, ea, ra, wa⟩ := DataW.trod_int Tryz.underlying22 h0
  obtain ⟨x, y, z, eb, rb, wx, wy, wz⟩ := open_root h1
  obtain ⟨b, ec, rc, wb⟩ := DataW.trod_int Tryz.underlying3 h2
  obtain ⟨c, ed, rd, wc⟩ := DataW.trod_int Tryz.underlying3 h3
  simp only [List.cons.injEq, and_true] at ea eb ec ed
  obtain ⟨e1, e2, e3⟩ := eb
  simp only [Prod.mk.injEq] at hx
  refine ⟨⟨a, ⟨x, y, z⟩, b, c⟩, by rw [ea, e1, e2, e3, ec, ed]; rfl, ?_, ?_, wa, ⟨wx, wy, wz⟩, wb, wc⟩
  · rw [hx.1, ra, rb, rc, rd]; rfl
  · rw [hx.2, ra, rb, rc, rd]; rfl
set_option maxRecDepth 100000 in
theorem shut_meta {m : MetaD} (h : MetaWf m) : DataW.Trod enc Tryz.prog w base spare held 26 (metaA m) (metaDW m) [] := by
  obtain ⟨wa, ⟨wx, wy, wz⟩, wb, wc⟩ := h
  refine ⟨3, ?_⟩
  have hr := trod_struct3_mk (enc := enc) (w := w) (base := base) (spare := spare) (held := held) (n := 1) (cs := [.int .i64 m.main.page, .int .i64 m.main.count, .int .i64 m.main.flags]) Tryz.underlying24 (by rw [cells3]; rfl)
    (by simp only [cells1, List.drop, List.take]; exact trod_int_mk 0 Tryz.underlying3 wx) (by simp only [cells1, List.drop, List.take]; exact trod_int_mk 0 Tryz.underlying3 wy) (by simp only [cells1, List.drop, List.take]; exact trod_int_mk 0 Tryz.underlying3 wz)
  have := trod_struct4_mk (enc := enc) (w := w) (base := base) (spare := spare) (held := held) (n := 2) (cs := [.int .u64 m.txn, .int .i64 m.main.page, .int .i64 m.main.count, .int .i64 m.main.flags, .int .i64 m.free, .int .i64 m.last]) Tryz.underlying26 (by rw [cells6]; rfl)
    (by simp only [cells1u, List.drop, List.take]; exact trod_int_mk 1 Tryz.underlying22 wa) (by simp only [cells3, List.drop, List.take]; exact hr) (by simp only [cells1, List.drop, List.take]; exact trod_int_mk 1 Tryz.underlying3 wb) (by simp only [cells1, List.drop, List.take]; exact trod_int_mk 1 Tryz.underlying3 wc)
  exact this
theorem meta_ok {m : MetaD} (h : MetaWf m) : MOk m := by
  have := bounds_u64 h.1
  exact ⟨this.1, by omega⟩
end
end Go.Proofs.YtgnmjdcmaahlnaaGreat
