/- What reading bytes behind their length returns. -/
import Derived.Test.YtphakceboohbhaaReads
namespace Go.Proofs.Ytphakceboohbhaa
open Go.RowKit
set_option maxRecDepth 100000

end Go.Proofs.Ytphakceboohbhaa
