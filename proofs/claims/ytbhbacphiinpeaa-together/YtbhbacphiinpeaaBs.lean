/- All that the statements of loomkeep rest on. -/
import Derived.Test.YtbhbacphiinpeaaZ26
import Derived.Test.YtbhbacphiinpeaaZ27
namespace Go.Proofs.Ytbhbacphiinpeaa
open Go.RowKit
end Go.Proofs.Ytbhbacphiinpeaa
