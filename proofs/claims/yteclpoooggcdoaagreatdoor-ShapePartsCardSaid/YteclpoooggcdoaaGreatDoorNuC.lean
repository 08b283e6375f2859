/- Merged by gen/ar_merge.py: NuDo1, NuDo2, NuDo3, NuDo4. -/
import Derived.Test.YteclpoooggcdoaaGreatDoorNuDo
import Derived.Test.YteclpoooggcdoaaGreatDoorNuB
/- The functions that stand in number's maps: by one check (by wip/gen/mknudo.py). -/
namespace Go.Proofs.YteclpoooggcdoaaGreatDoor.Nu
open Go Go.RowKit Go.Shelf
attribute [local go_sem] Oper.semAt_some

theorem isB_cases {n : Int} (h : isB n = true) : n = 0 ∨ n = 1 := by simpa [isB] using h
end Go.Proofs.YteclpoooggcdoaaGreatDoor.Nu
/- The functions that stand in number's maps: by no check (by wip/gen/mknudo.py). -/
namespace Go.Proofs.YteclpoooggcdoaaGreatDoor.Nu
open Go Go.RowKit Go.Shelf
attribute [local go_sem] Oper.semAt_some

end Go.Proofs.YteclpoooggcdoaaGreatDoor.Nu
/- The functions that stand in number's maps: those that call another one first. -/
namespace Go.Proofs.YteclpoooggcdoaaGreatDoor.Nu
open Go Go.RowKit Go.Shelf
attribute [local go_sem] Oper.semAt_some

def okV2 (v v2 : Value) : Value := if okV v then v2 else v
def okR2 (v v2 : Value) (n : Int) : Int := if okV v then okR v2 n else 0
end Go.Proofs.YteclpoooggcdoaaGreatDoor.Nu
/- The functions that stand in number's maps: what times y is 1; comparisons. -/
namespace Go.Proofs.YteclpoooggcdoaaGreatDoor.Nu
open Go Go.RowKit Go.Shelf
attribute [local go_sem] Oper.semAt_some

end Go.Proofs.YteclpoooggcdoaaGreatDoor.Nu
