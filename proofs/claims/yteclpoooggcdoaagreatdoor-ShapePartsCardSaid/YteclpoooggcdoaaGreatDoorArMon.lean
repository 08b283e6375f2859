/- Mon. -/
import Derived.Test.YteclpoooggcdoaaGreatDoorArOne
import Derived.Deep.RegionHeldLaw
namespace Go.Proofs.YteclpoooggcdoaaGreatDoor.Ar
open Go Go.RowKit Go.Shelf
attribute [local go_sem] Oper.semAt_some

end Go.Proofs.YteclpoooggcdoaaGreatDoor.Ar
