import Derived.Test.YthohnmplbjhjaaaGreatDoorMdLayV
import Derived.Test.YthohnmplbjhjaaaGreatDoorJ27
import Derived.Test.YthohnmplbjhjaaaGreatDoorJ23
import Derived.Test.YthohnmplbjhjaaaGreatDoorMdFault
import Derived.WalkSmall
import Derived.Test.YthohnmplbjhjaaaGreatDoorJ25
namespace Go.Proofs.YthohnmplbjhjaaaGreatDoor
open Go.RowKit
theorem y13 : Tryz.prog.underlying 23 = some (.slice 61) := by kernel_rfl
end Go.Proofs.YthohnmplbjhjaaaGreatDoor
