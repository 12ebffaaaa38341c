/-
  The document's Add. Condition: the table is one.
-/
import Derived.Test.YthndfhkkaichiaaUf
namespace Go.Proofs.Ythndfhkkaichiaa
open Go.RowKit

end Go.Proofs.Ythndfhkkaichiaa
