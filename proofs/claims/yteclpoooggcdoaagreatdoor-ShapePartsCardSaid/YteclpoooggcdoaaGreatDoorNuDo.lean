/- The functions that stand in number's maps: what they share (by wip/gen/mknudo.py). -/
import Derived.Test.YteclpoooggcdoaaGreatDoorNuChk2
import Derived.Test.YteclpoooggcdoaaGreatDoorNuB
namespace Go.Proofs.YteclpoooggcdoaaGreatDoor.Nu
open Go Go.RowKit Go.Shelf
attribute [local go_sem] Oper.semAt_some

end Go.Proofs.YteclpoooggcdoaaGreatDoor.Nu
