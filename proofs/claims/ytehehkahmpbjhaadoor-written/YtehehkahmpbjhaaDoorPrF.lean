
import Derived.Test.YtehehkahmpbjhaaDoorPrE
import Derived.Deep.RegionWith
namespace Go.Proofs.YtehehkahmpbjhaaDoor
open Go.RowKit
namespace Pr

theorem hideIt {p : Prop} (h : p) : Hid p := h

end Pr
end Go.Proofs.YtehehkahmpbjhaaDoor
