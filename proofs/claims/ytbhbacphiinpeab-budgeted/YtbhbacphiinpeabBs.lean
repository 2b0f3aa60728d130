/- All that the statements of loomkeep rest on. -/
import Derived.Test.YtbhbacphiinpeabZ26
import Derived.Test.YtbhbacphiinpeabZ27
namespace Go.Proofs.Ytbhbacphiinpeab
open Go.RowKit
end Go.Proofs.Ytbhbacphiinpeab
