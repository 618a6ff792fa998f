
import Derived.Test.YthkilnhdhacpaaaLwD
import Derived.Maps.AppendAt
namespace Go.Proofs.Ythkilnhdhacpaaa
open Go.RowKit
namespace Lw
open Co

end Lw
end Go.Proofs.Ythkilnhdhacpaaa
