/- Contract of the reference's test whether two pages are the same. -/
import Derived.Test.YtgnmjdcmaahlnaaGreatXi
namespace Go.Proofs.YtgnmjdcmaahlnaaGreat
open Go.RowKit Go.Sort

end Go.Proofs.YtgnmjdcmaahlnaaGreat
