/- Going through a pair (by wip/gen/mkarthru.py). -/
import Derived.Test.YteclpoooggcdoaaGreatDoorArOwn
import Derived.Test.YteclpoooggcdoaaGreatDoorArVal
import Derived.Shelf.AbstractIn
import Derived.Maps.OwnIn
import Derived.Deep.AppendLies
namespace Go.Proofs.YteclpoooggcdoaaGreatDoor.Ar
open Go Go.RowKit Go.Shelf
attribute [local go_sem] Oper.semAt_some

end Go.Proofs.YteclpoooggcdoaaGreatDoor.Ar
