/- All that the statements of loomkeep rest on. -/
import Derived.Test.YtbhbacphiinpeaaZ27
import Derived.Test.YtbhbacphiinpeaaZ28
namespace Go.Proofs.Ytbhbacphiinpeaa
open Go.RowKit
end Go.Proofs.Ytbhbacphiinpeaa
