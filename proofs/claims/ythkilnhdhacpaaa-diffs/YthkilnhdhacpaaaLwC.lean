
import Derived.Test.YthkilnhdhacpaaaLwB
namespace Go.Proofs.Ythkilnhdhacpaaa
open Go.RowKit
namespace Lw
open Co

end Lw
end Go.Proofs.Ythkilnhdhacpaaa
