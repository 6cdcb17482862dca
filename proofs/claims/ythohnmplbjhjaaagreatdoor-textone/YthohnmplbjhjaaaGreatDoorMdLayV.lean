import Derived.Test.YthohnmplbjhjaaaGreatDoorJ20
import Derived.Test.YthohnmplbjhjaaaGreatDoorJ07
namespace Go.Proofs.YthohnmplbjhjaaaGreatDoor
open Go.RowKit
theorem y1o:Tryz.prog.underlying 22=some (.slice 56):=by kernel_rfl
end Go.Proofs.YthohnmplbjhjaaaGreatDoor
