
import Derived.Test.YtjpibljhmfhlgaaLwB
namespace Go.Proofs.Ytjpibljhmfhlgaa
open Go.RowKit
namespace Lw
open Co

end Lw
end Go.Proofs.Ytjpibljhmfhlgaa
