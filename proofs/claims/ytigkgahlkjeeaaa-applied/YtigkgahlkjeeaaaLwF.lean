
import Derived.Test.YtigkgahlkjeeaaaLwD
import Derived.Maps.AppendAt
namespace Go.Proofs.Ytigkgahlkjeeaaa
open Go.RowKit
namespace Lw
open Co

end Lw
end Go.Proofs.Ytigkgahlkjeeaaa
