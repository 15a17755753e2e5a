/-
  Add.
-/
import Derived.Test.YtnmlaobiljmgaaaTimeP
namespace Go.Proofs.Ytnmlaobiljmgaaa
open Go.RowKit

end Go.Proofs.Ytnmlaobiljmgaaa
