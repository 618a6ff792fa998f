
import Derived.Test.YtphkgbbfkibfbaaLwB
namespace Go.Proofs.Ytphkgbbfkibfbaa
open Go.RowKit
namespace Lw
open Co

end Lw
end Go.Proofs.Ytphkgbbfkibfbaa
