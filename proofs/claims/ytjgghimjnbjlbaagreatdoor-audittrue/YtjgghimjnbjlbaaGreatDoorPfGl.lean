import Derived.Test.YtjgghimjnbjlbaaGreatDoorJ11
import Derived.Test.YtjgghimjnbjlbaaGreatDoorShelf
namespace Go.Proofs.YtjgghimjnbjlbaaGreatDoor
open Go.RowKit
theorem gPow : ∃ g, Tryz.prog.globalNamed "internal/strconv.uint64pow10" = some g ∧ g < 12 := ⟨6, by kernel_rfl, by decide⟩
theorem y5v : ∃ g, Tryz.prog.globalNamed "strings.asciiSpace" = some g ∧ g < 12 := ⟨1, by kernel_rfl, by decide⟩
structure Gl (w:World):Prop where
  most:∃ m,w.cell? ⟨3,0,none⟩=some (.int .i64 m)
  space : Lib.TabIs Tryz.prog w "strings.asciiSpace" .u8 Lib.asciiSpaceTab
  pow : Lib.TabIs Tryz.prog w "internal/strconv.uint64pow10" .u64 Lib.pow10Tab
  err:w.cell? ⟨0,0,none⟩=some (.iface 192 (.agg #[.pointer (some ⟨12,57,none⟩)]))
  size:12<=w.heap.size
theorem Gl.below {w w':World} {B:Nat} (h:Gl w) (hb:Below B w w') (hB:12<=B):Gl w':=by
  obtain ⟨m,hm⟩:=h.most;obtain ⟨g,hg,hg5⟩:=gPow;obtain ⟨g',hg',hg5'⟩:=y5v;exact ⟨⟨m,(hb.cell (p:=⟨3,0,none⟩) (by show (3:Nat)<B;omega)).trans hm⟩,var?_below hb hg' (by omega) h.space,var?_below hb hg (by omega) h.pow,(hb.cell (p:=⟨0,0,none⟩) (by show (0:Nat)<B;omega)).trans h.err,Nat.le_trans h.size hb.size⟩
theorem Gl.next {w w':World} (h:Gl w) (hb:Below w.heap.size w w'):Gl w':=h.below hb h.size
end Go.Proofs.YtjgghimjnbjlbaaGreatDoor
