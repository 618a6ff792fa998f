
import Derived.Test.YtjpibljhmfhlgaaLwD
import Derived.Maps.AppendAt
namespace Go.Proofs.Ytjpibljhmfhlgaa
open Go.RowKit
namespace Lw
open Co

end Lw
end Go.Proofs.Ytjpibljhmfhlgaa
