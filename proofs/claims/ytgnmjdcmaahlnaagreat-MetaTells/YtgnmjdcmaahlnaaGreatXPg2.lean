/- Contract of the reference's test whether a page is right: branches. -/
import Derived.Test.YtgnmjdcmaahlnaaGreatXPg
namespace Go.Proofs.YtgnmjdcmaahlnaaGreat
open Go.RowKit Go.Sort

def keyAt (l : List ByteArray) (i : Nat) : ByteArray := l.getD i ⟨#[]⟩
def goodB (y : List ByteArray) (d : List Int) (i : Nat) : Bool := pageB (d.getD i 0) && (if i = 0 then (keyAt y 0).toList.isEmpty else shortB (keyAt y i) && ltB (keyAt y (i - 1)) (keyAt y i))
def branchB (p : PageD) : Bool := decide (p.keys.length = p.kids.length) && (List.range p.kids.length).all (goodB p.keys p.kids) && (decide (2 ≤ p.kids.length) && decide (p.kids.length ≤ 4) && noItems p && noText p && noVals p && !hasFree p && !hasMeta p)

end Go.Proofs.YtgnmjdcmaahlnaaGreat
