
import Derived.Test.YtehehkahmpbjhaaDoorPrB
namespace Go.Proofs.YtehehkahmpbjhaaDoor
open Go.RowKit
namespace Pr

end Pr
end Go.Proofs.YtehehkahmpbjhaaDoor
