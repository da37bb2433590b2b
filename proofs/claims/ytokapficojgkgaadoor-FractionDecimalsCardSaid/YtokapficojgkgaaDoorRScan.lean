
/- What the reference's reader of digits returns. -/
import Derived.Test.YtokapficojgkgaaDoorQuot
namespace Go.Proofs.YtokapficojgkgaaDoor
open Go.ChangeShapes Go.WideShapes Go.ChangeAt Go.RowKit Pl

end Go.Proofs.YtokapficojgkgaaDoor
