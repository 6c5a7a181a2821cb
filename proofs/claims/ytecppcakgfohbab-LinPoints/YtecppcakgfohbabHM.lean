/- The reference's Right. -/
import Derived.Test.YtecppcakgfohbabHL
namespace Go.Proofs.Ytecppcakgfohbab
open Go.RowKit Go.Sort
set_option linter.unusedSimpArgs false
set_option linter.unusedVariables false

end Go.Proofs.Ytecppcakgfohbab
