/- Lists of pairs: the first call of each statement: what the document fixes is told. -/
import Derived.Test.YtidpkflgibpldaaDoorLsW
namespace Go.Proofs.YtidpkflgibpldaaDoor.Ls
open Go.RowKit

end Go.Proofs.YtidpkflgibpldaaDoor.Ls
