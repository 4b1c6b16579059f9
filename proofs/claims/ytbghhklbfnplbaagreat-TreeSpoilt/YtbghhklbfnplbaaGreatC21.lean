import Derived.Test.YtbghhklbfnplbaaGreatC00
import Derived.Test.YtbghhklbfnplbaaGreatC20
namespace Go.Proofs.YtbghhklbfnplbaaGreat
section
end
section
end
end Go.Proofs.YtbghhklbfnplbaaGreat
