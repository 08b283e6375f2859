/- number's checks and reckonings, where there is more to them. -/
import Derived.Test.YteclpoooggcdoaaGreatDoorNuB
namespace Go.Proofs.YteclpoooggcdoaaGreatDoor.Nu
open Go Go.RowKit
attribute [local go_sem] Oper.semAt_some

end Go.Proofs.YteclpoooggcdoaaGreatDoor.Nu
