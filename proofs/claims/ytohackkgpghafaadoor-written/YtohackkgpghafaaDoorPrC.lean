
import Derived.Test.YtohackkgpghafaaDoorPrB
namespace Go.Proofs.YtohackkgpghafaaDoor
open Go.RowKit
namespace Pr

end Pr
end Go.Proofs.YtohackkgpghafaaDoor
