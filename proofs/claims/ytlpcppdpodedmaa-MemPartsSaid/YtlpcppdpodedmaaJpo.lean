/- MemParts: its walk and how its argument is read. -/
import Derived.Test.YtlpcppdpodedmaaJp
import Derived.Test.YtlpcppdpodedmaaKO
namespace Go.Proofs.Ytlpcppdpodedmaa
end Go.Proofs.Ytlpcppdpodedmaa
