/- What the document's 'reg' and 'fits' answer. -/
import Derived.Test.YtbhbacphiinpeaaRows
import Derived.Test.YtbhbacphiinpeaaSpec
import Derived.BigGuardPart
namespace Go.Proofs.Ytbhbacphiinpeaa
open Go.RowKit

end Go.Proofs.Ytbhbacphiinpeaa
