/-
  foreign, of every kind.
-/
import Derived.Test.YtdfbmfikhccajaaGreatDoorJ14
import Derived.Test.YtdfbmfikhccajaaGreatDoorJ16
import Derived.Test.YtdfbmfikhccajaaGreatDoorJ17
import Derived.Test.YtdfbmfikhccajaaGreatDoorJ18
namespace Go.Proofs.YtdfbmfikhccajaaGreatDoor.Doc
open Go.RowKit

theorem foreign_ok : ForeignOk := by
  intro c vt vx vb vr w h hk
  rcases kind_is hk.1 hk.2 with k | k | k | k | k | k | k | k | k
  · exact foreign_1 c vt vx vb vr w h k
  · exact foreign_2 c vt vx vb vr w h k
  · exact foreign_3 c vt vx vb vr w h k
  · exact foreign_4 c vt vx vb vr w h k
  · exact foreign_5 c vt vx vb vr w h k
  · exact foreign_6 c vt vx vb vr w h k
  · exact foreign_7 c vt vx vb vr w h k
  · exact foreign_8 c vt vx vb vr w h k
  · exact foreign_9 c vt vx vb vr w h k
end Go.Proofs.YtdfbmfikhccajaaGreatDoor.Doc
