/-
  Contract of the document's Same at changes (layer 8's statements). Condition: at most 2^30 changes.
-/
import Derived.Test.YtfajfjocpgbmeaaDiffD
namespace Go.Proofs.Ytfajfjocpgbmeaa
open Go.RowKit
set_option linter.unusedVariables false

end Go.Proofs.Ytfajfjocpgbmeaa
