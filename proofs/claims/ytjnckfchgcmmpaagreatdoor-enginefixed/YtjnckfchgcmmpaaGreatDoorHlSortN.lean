import Derived.Test.YtjnckfchgcmmpaaGreatDoorHlSorts
import Derived.Test.YtjnckfchgcmmpaaGreatDoorMdRegT
import Derived.Test.YtjnckfchgcmmpaaGreatDoorJ05
import Derived.Shelf.Small.Bits
namespace Go.Proofs.YtjnckfchgcmmpaaGreatDoor
open Go.Shelf Go.RowKit
set_option maxRecDepth 10000
set_option maxHeartbeats 8000000
theorem len0 (w:World):Calls Tryz.prog 144 #[.int .u64 0] w fun e w'=>e=.returned (.int .i64 0)/\w'=w:=Any.bits_Len (ρ:=Tryz.lays189_ren) { Tryz.lays189 with } 0 w (by omega) (by omega)
theorem ins0 (p:Option Addr) (cap:Nat) (w:World):Calls Tryz.prog 193 #[.slice p 0 cap,.int .i64 0,.int .i64 0] w fun e w'=>e=.returned (.tuple #[])/\w'=w:=by
  go_enter Tryz.func193,Tryz.ntmps193;go_wp2_with fail
  go_loopw [6] (fun iv wr=>iv=.int .i64 1/\wr=w) (fun _ _=>0)
  case atStart=>exact ⟨rfl,rfl⟩
  case round=>
  obtain ⟨rfl,rfl⟩:=hrel;go_wp2_with fail
  first | go_end0 | ((try simp only [Exit.inBlock,Exit.then]);refine bodyPost_ret (results_none rfl _ _ _) rfl ?_)
  exact ⟨rfl,rfl⟩
theorem insG0 (p:Option Addr) (cap:Nat) (f:Value) (w:World):Calls Tryz.prog 170 #[.slice p 0 cap,.int .i64 0,.int .i64 0,f] w fun e w'=>e=.returned (.tuple #[])/\w'=w:=by
  go_enter Tryz.func170,Tryz.ntmps170;go_wp2_with fail
  go_loopw [8] (fun iv wr=>iv=.int .i64 1/\wr=w) (fun _ _=>0)
  case atStart=>exact ⟨rfl,rfl⟩
  case round=>
  obtain ⟨rfl,rfl⟩:=hrel;go_wp2_with fail
  first | go_end0 | ((try simp only [Exit.inBlock,Exit.then]);refine bodyPost_ret (results_none rfl _ _ _) rfl ?_)
  exact ⟨rfl,rfl⟩
theorem pdq0 (p:Option Addr) (cap:Nat) (w:World):Calls Tryz.prog 179 #[.slice p 0 cap,.int .i64 0,.int .i64 0,.int .i64 0] w fun e w'=>e=.returned (.tuple #[])/\w'=w:=by
  go_enter Tryz.func179,Tryz.ntmps179;go_wp2_with fail
  go_loopw [1,2] (fun iv jv wr=>iv=.int .i64 0/\jv=.int .i64 0/\wr=w) (fun _ _ _=>0)
  case atStart=>exact ⟨rfl,rfl,rfl⟩
  case round=>
  obtain ⟨rfl,rfl,rfl⟩:=hrel;go_wp2_with (first | (go_at_call 193;go_loud (refine calls_at (ins0 _ _ _) (by rfl) (by rfl) ?_;intro e w2 hh;obtain ⟨h1,h2⟩:=hh;subst h1;subst h2)))
  first | go_end0 | ((try simp only [Exit.inBlock,Exit.then]);refine bodyPost_ret (results_none rfl _ _ _) rfl ?_)
  exact ⟨rfl,rfl⟩
theorem pdqG0 (p:Option Addr) (cap:Nat) (f:Value) (w:World):Calls Tryz.prog 143 #[.slice p 0 cap,.int .i64 0,.int .i64 0,.int .i64 0,f] w fun e w'=>e=.returned (.tuple #[])/\w'=w:=by
  go_enter Tryz.func143,Tryz.ntmps143;go_wp2_with fail
  go_loopw [1,2] (fun iv jv wr=>iv=.int .i64 0/\jv=.int .i64 0/\wr=w) (fun _ _ _=>0)
  case atStart=>exact ⟨rfl,rfl,rfl⟩
  case round=>
  obtain ⟨rfl,rfl,rfl⟩:=hrel;go_wp2_with (first | (go_at_call 170;go_loud (refine calls_at (insG0 _ _ _ _) (by rfl) (by rfl) ?_;intro e w2 hh;obtain ⟨h1,h2⟩:=hh;subst h1;subst h2)))
  first | go_end0 | ((try simp only [Exit.inBlock,Exit.then]);refine bodyPost_ret (results_none rfl _ _ _) rfl ?_)
  exact ⟨rfl,rfl⟩
theorem sort0 (p:Option Addr) (cap:Nat) (w:World):Calls Tryz.prog 145 #[.slice p 0 cap] w fun e w'=>e=.returned (.tuple #[])/\w'=w:=by
  go_enter Tryz.func145,Tryz.ntmps145;go_wp2_with (first | (go_at_call 144;go_loud (refine calls_at (len0 _) (by rfl) (by rfl) ?_;intro e w2 hh;obtain ⟨h1,h2⟩:=hh;subst h1;subst h2)) | (go_at_call 179;go_loud (refine calls_at (pdq0 _ _ _) (by rfl) (by rfl) ?_;intro e w2 hh;obtain ⟨h1,h2⟩:=hh;subst h1;subst h2)))
  first | go_end0 | ((try simp only [Exit.inBlock,Exit.then]);refine bodyPost_ret (results_none rfl _ _ _) rfl ?_)
  exact ⟨rfl,rfl⟩
theorem sortG0 (p:Option Addr) (cap:Nat) (f:Value) (w:World):Calls Tryz.prog 122 #[.slice p 0 cap,f] w fun e w'=>e=.returned (.tuple #[])/\w'=w:=by
  go_enter Tryz.func122,Tryz.ntmps122;go_wp2_with (first | (go_at_call 144;go_loud (refine calls_at (len0 _) (by rfl) (by rfl) ?_;intro e w2 hh;obtain ⟨h1,h2⟩:=hh;subst h1;subst h2)) | (go_at_call 143;go_loud (refine calls_at (pdqG0 _ _ _ _) (by rfl) (by rfl) ?_;intro e w2 hh;obtain ⟨h1,h2⟩:=hh;subst h1;subst h2)))
  first | go_end0 | ((try simp only [Exit.inBlock,Exit.then]);refine bodyPost_ret (results_none rfl _ _ _) rfl ?_)
  exact ⟨rfl,rfl⟩
end Go.Proofs.YtjnckfchgcmmpaaGreatDoor
