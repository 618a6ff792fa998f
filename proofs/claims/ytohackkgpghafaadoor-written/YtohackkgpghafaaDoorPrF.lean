
import Derived.Test.YtohackkgpghafaaDoorPrE
import Derived.Deep.RegionWith
namespace Go.Proofs.YtohackkgpghafaaDoor
open Go.RowKit
namespace Pr

theorem hideIt {p : Prop} (h : p) : Hid p := h

end Pr
end Go.Proofs.YtohackkgpghafaaDoor
