
import Derived.Test.YtphkgbbfkibfbaaLwD
import Derived.Maps.AppendAt
namespace Go.Proofs.Ytphkgbbfkibfbaa
open Go.RowKit
namespace Lw
open Co

end Lw
end Go.Proofs.Ytphkgbbfkibfbaa
