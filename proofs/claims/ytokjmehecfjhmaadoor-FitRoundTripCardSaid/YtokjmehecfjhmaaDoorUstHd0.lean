/-
  Layer 7: the empty header.
-/
import Derived.Test.YtokjmehecfjhmaaDoorUstMath
namespace Go.Proofs.YtokjmehecfjhmaaDoor.Ust
open Oct Cst Chk

/-- the header of nothing -/
abbrev hd0 : List Go.Value := hdV 0 { data := #[] } { data := #[] } { data := #[] } 0 0
end Go.Proofs.YtokjmehecfjhmaaDoor.Ust
