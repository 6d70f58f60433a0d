/- Lists of pairs: the first call of each statement: what the document fixes is told. -/
import Derived.Test.YtibbdbdiklpccaaDoorLsW
namespace Go.Proofs.YtibbdbdiklpccaaDoor.Ls
open Go.RowKit

end Go.Proofs.YtibbdbdiklpccaaDoor.Ls
