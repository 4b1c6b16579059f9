/- Contract of the reference's test whether a page is right: what its kinds ask. -/
import Derived.Test.YtpionokcabjokaaGreatZe
namespace Go.Proofs.YtpionokcabjokaaGreat
open Go.RowKit Go.Sort

def hasKids (p : PageD) : Bool := decide (0 < p.keys.length) || decide (0 < p.kids.length)
def hasFree (p : PageD) : Bool := decide (0 < p.free.length) || p.next != 0
def hasMeta (p : PageD) : Bool := !(p.mt.txn == 0 && ((p.mt.main.page == 0 && (p.mt.main.count == 0 && p.mt.main.flags == 0)) && (p.mt.free == 0 && p.mt.last == 0)))
def noItems (p : PageD) : Bool := !decide (0 < p.items.length)
def noText (p : PageD) : Bool := p.text.toList.isEmpty
def noVals (p : PageD) : Bool := !decide (0 < p.vals.length)
theorem neqMeta (x g c q r l : Int) (w : World) : (binOp .neq 33 (.agg #[.int .u64 x, .int .i64 g, .int .i64 c, .int .i64 q, .int .i64 r, .int .i64 l]) (.agg #[.int .u64 0, .int .i64 0, .int .i64 0, .int .i64 0, .int .i64 0, .int .i64 0])).run Tryz.prog w = .ok (.bool (!(x == 0 && ((g == 0 && (c == 0 && q == 0)) && (r == 0 && l == 0))))) w := by
  by_cases h1 : x = 0
  · by_cases h2 : g = 0
    · by_cases h3 : c = 0
      · by_cases h4 : q = 0
        · by_cases h5 : r = 0
          · by_cases h6 : l = 0
            · go_simp
            · go_simp
          · go_simp
        · go_simp
      · go_simp
    · go_simp
  · go_simp

theorem below_alloc_call {w X w2 : World} {o : Obj} (h : Below w.heap.size w X) (hb : Below (X.alloc o).heap.size (X.alloc o) w2) : Below w.heap.size w w2 :=
  (h.alloc h.size o).trans (hb.mono (by have := h.size; simp; omega))
def overB (p : PageD) : Bool := !noText p && decide (p.text.size ≤ 100) && noItems p && !hasKids p && noVals p && !hasFree p && !hasMeta p
def dupB (p : PageD) : Bool := valsB p.vals 4 12 && noItems p && !hasKids p && noText p && !hasFree p && !hasMeta p
def freeB (p : PageD) : Bool := freesB p.free p.next && noItems p && !hasKids p && noText p && noVals p && !hasMeta p
def metaPB (p : PageD) : Bool := rootB p.mt.main && (p.mt.free == 0 || pageB p.mt.free) && decide (2 ≤ p.mt.last) && decide (p.mt.last ≤ 400) && noItems p && !hasKids p && noText p && noVals p && !hasFree p
def restB (p : PageD) : Bool := if p.kind = 3 then overB p else if p.kind = 4 then dupB p else if p.kind = 5 then freeB p else if p.kind = 6 then metaPB p else false

end Go.Proofs.YtpionokcabjokaaGreat
