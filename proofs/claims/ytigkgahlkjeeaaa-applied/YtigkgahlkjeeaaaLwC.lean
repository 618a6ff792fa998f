
import Derived.Test.YtigkgahlkjeeaaaLwB
namespace Go.Proofs.Ytigkgahlkjeeaaa
open Go.RowKit
namespace Lw
open Co

end Lw
end Go.Proofs.Ytigkgahlkjeeaaa
