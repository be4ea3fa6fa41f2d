/-
  The contracts of Floor, Ceiling, Round, Truncate and FromInt of package fix and of the document's own.
-/
import Derived.Test.YtlgjlnbdfpncmaaFixWalks
namespace Go.Proofs.Ytlgjlnbdfpncmaa
open Go.RowKit
open Fx
end Go.Proofs.Ytlgjlnbdfpncmaa
