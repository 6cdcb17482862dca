import Derived.Test.YthohnmplbjhjaaaGreatDoorMdLayV
import Derived.Test.YthohnmplbjhjaaaGreatDoorJ26
import Derived.Test.YthohnmplbjhjaaaGreatDoorJ20
import Derived.Test.YthohnmplbjhjaaaGreatDoorJ23
import Derived.WalkSmall
import Derived.Test.YthohnmplbjhjaaaGreatDoorJ24
namespace Go.Proofs.YthohnmplbjhjaaaGreatDoor
open Go.RowKit
theorem y1n:Tryz.prog.underlying 23=some (.slice 61):=by kernel_rfl
end Go.Proofs.YthohnmplbjhjaaaGreatDoor
