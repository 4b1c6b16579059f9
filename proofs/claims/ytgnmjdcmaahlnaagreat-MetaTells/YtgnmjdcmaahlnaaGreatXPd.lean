/- Contract of the reference's test whether two pages are the same: pages that part in their items alone. -/
import Derived.Test.YtgnmjdcmaahlnaaGreatXPc
namespace Go.Proofs.YtgnmjdcmaahlnaaGreat
open Go.RowKit Go.Sort

end Go.Proofs.YtgnmjdcmaahlnaaGreat
