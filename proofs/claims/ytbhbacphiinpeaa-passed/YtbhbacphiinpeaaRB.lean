/- What the document's 'Check' answers. -/
import Derived.Test.YtbhbacphiinpeaaRA
import Derived.Test.YtbhbacphiinpeaaView
namespace Go.Proofs.Ytbhbacphiinpeaa
open Go.RowKit

end Go.Proofs.Ytbhbacphiinpeaa
