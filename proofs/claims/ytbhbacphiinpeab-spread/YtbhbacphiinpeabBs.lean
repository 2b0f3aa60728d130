/- All that the statements of loomkeep rest on. -/
import Derived.Test.YtbhbacphiinpeabZ27
import Derived.Test.YtbhbacphiinpeabZ28
namespace Go.Proofs.Ytbhbacphiinpeab
open Go.RowKit
end Go.Proofs.Ytbhbacphiinpeab
