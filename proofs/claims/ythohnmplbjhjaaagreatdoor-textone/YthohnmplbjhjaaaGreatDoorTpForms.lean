import Derived.Test.YthohnmplbjhjaaaGreatDoorJ09
import Derived.Deep.RegionHeld3
namespace Go.Proofs.YthohnmplbjhjaaaGreatDoor
open Go Go.RowKit
set_option maxHeartbeats 4000000
set_option maxRecDepth 10000
def sayC (name:ByteArray) (lo hi kind op:Int) (vt:Value) (k v x y:Int) (vx vb vr:Value):Array Value:=
 #[.string name,.int .i64 lo,.int .i64 hi,.int .i64 kind,.int .i64 op,vt,.int .i64 k,.int .i64 v,.int .i64 x,.int .i64 y,vx,vb,vr]
def LitL (w:World) (X:Nat) (l:List Int):Prop:=w.heap[X]?=some (.cells (l.map (Value.int .i64)).toArray 3 (0,0))
theorem yk (w:World) (l:List Int):LitL (w.alloc (.cells (l.map (Value.int .i64)).toArray 3)) w.heap.size l:=heap_alloc_new w _
theorem yE (w:World) (o:Obj) (l:List Int):LitL ((w.alloc o).alloc (.cells (l.map (Value.int .i64)).toArray 3)) (w.heap.size+1) l:=by
 have h:=yk (w.alloc o) l
 have e:(w.alloc o).heap.size=w.heap.size+1:=by simp
 rw [e] at h
 exact h
theorem LitL.alloc {w:World} {X:Nat} {l:List Int} (h:LitL w X l) (o:Obj):LitL (w.alloc o) X l:=(Below.heap_alloc w o X (Array.getElem?_eq_some_iff.1 h).1).trans h
theorem LitL.kq {B:Nat} {w w':World} {X:Nat} {l:List Int} (h:LitL w X l) (k:Kq B w w'):LitL w' X l:=k.other X _ 3 _ h (by decide) (by decide)
theorem LitL.kqd {B:Nat} {w w':World} {X:Nat} {l:List Int} (h:LitL w X l) (k:Kq B w.drew w'):LitL w' X l:=k.other X _ 3 _ h (by decide) (by decide)
theorem LitL.ints {B:Nat} {w:World} {X:Nat} {l:List Int} (h:LitL w X l) (hl:l.length<=1000000):∀ w',Kq B w w'->IntsAt w' (.slice (some ⟨X,0,none⟩) l.length l.length) l:=fun w' k=>by
 have h':=h.kq k
 refine ⟨_,_,rfl,by unfold maxLen;omega,fun _=>⟨X,0,rfl,(Array.getElem?_eq_some_iff.1 h').1,fun j hj=>?_⟩⟩
 rw [Lib.cell_of_heap h']
 simp [hj]
def Bx (w0 w:World) (N:Nat) (cs:Array Value) (w':World):Prop:=w'.heap[N]?=some (.cells cs 74 (0,0))/\Kq w0.heap.size w w'/\w0.heap.size<=w.heap.size
theorem Bx.cell {w0 w:World} {N:Nat} {cs:Array Value} {w':World} (h:Bx w0 w N cs w') (i:Nat) (u:Value) (hu:cs[i]?=some u):w'.cell? ⟨N,i,none⟩=some u:=by rw [Lib.cell_of_heap h.1];exact hu
theorem Bx.alloc {w0 w:World} {N:Nat} {cs:Array Value} {w':World} (h:Bx w0 w N cs w') (o:Obj):Bx w0 w N cs (w'.alloc o):=
 ⟨(Below.heap_alloc w' o N (Array.getElem?_eq_some_iff.1 h.1).1).trans h.1,h.2.1.trans (Kq.of_below ((Below.refl _ _).alloc (Nat.le_refl _) _) (Nat.le_trans h.2.2 h.2.1.low.size)),h.2.2⟩
theorem Bx.kq {w0 w:World} {N:Nat} {cs:Array Value} {w' w2:World} (h:Bx w0 w N cs w') (k:Kq w0.heap.size w' w2):Bx w0 w N cs w2:=⟨k.other N _ 74 _ h.1 (by decide) (by decide),h.2.1.trans k,h.2.2⟩
theorem Bx.made {w0 w:World} (cs:Array Value) (hw:w0.heap.size<=w.heap.size) {W:World} (hW:w.alloc (.cells cs 74)=W):Bx w0 w w.heap.size cs W.drew:=by
 subst hW
 exact ⟨by show (w.alloc _).heap[w.heap.size]?=_;exact heap_alloc_new w _,(Yb (Kq.refl _ _) hw _).drew,hw⟩
theorem zl {vars:List Md.Vr} {xs:List Int} (hn:∀ v∈vars,v.name.data.toList.length<=16) (hx:∀ x∈xs,0<=x/\x<(vars.length:Int)):(Md.namesT vars xs).length<=22 * xs.length:=
 Md.flatMap_len _ 22 xs (fun x h=>by
  obtain ⟨j,hj,_,he⟩:=Yw (hx x h).1 (hx x h).2
  rw [he,List.length_cons]
  have:=hn vars[j] (List.getElem_mem hj)
  omega)
theorem y3h {w0:World} (vars:List Md.Vr) (b:Nat) (va:Value) (L0:List UInt8) (name:ByteArray) (lo hi kind op:Int) (vt:Value) (k v x y:Int) (vx vb vr:Value) (w:World) (hV:VarsAt w0 va vars) (hn:∀ v∈vars,v.name.data.toList.length<=16) (hw:Way w0 w) (nml:name.data.toList.length<=16) (nums1:∀ z∈([lo,hi]:List Int),-1000000000<=z/\z<=1000000000) (h:yf w0.heap.size b va L0 w) (hl:L0.length<=700000000) :
  Calls Tryz.prog 76 #[.pointer (some ⟨b,0,none⟩),.agg (sayC name lo hi kind op vt k v x y vx vb vr)] w fun e w'=>e=.returned (.tuple #[])/\yf w0.heap.size b va ((L0++(32 :: (name:ByteArray).data.toList))++(Md.numsT [lo,hi])) w'/\Kq w0.heap.size w w':=by
 have HW:Hid (Way w0 w):=hw
 have HV:Hid (VarsAt w0 va vars):=hV
 have HNm:Hid (∀ v∈vars,v.name.data.toList.length<=16):=hn
 have HL:Hid (L0.length<=700000000):=hl
 have Hnml:Hid (name.data.toList.length<=16):=nml
 have Hnums1:Hid (∀ z∈([lo,hi]:List Int),-1000000000<=z/\z<=1000000000):=nums1
 have HT0:Hid ((32 :: (name:ByteArray).data.toList).length<=20):=by show _<=_;rw [List.length_cons];have:=Hnml.out;omega
 have HT1:Hid ((Md.numsT [lo,hi]).length<=100000):=by
  have:=Md.flatMap_len (fun n=>32 :: Lib.itoa n) 22 [lo,hi] (fun z hz=>by have:=Md.itoa_len (Hnums1.out z hz);simpa using this)
  exact Nat.le_trans this (by show 22 * 2<=100000;decide)
 obtain ⟨W,hW⟩:∃ W,w.alloc (.cells (sayC name lo hi kind op vt k v x y vx vb vr) 74)=W:=⟨_,rfl⟩
 have HB:Hid (Bx w0 w w.heap.size (sayC name lo hi kind op vt k v x y vx vb vr) W.drew):=Bx.made _ HW.out.low.size hW
 have hp0:yf w0.heap.size b va L0 W.drew:=by rw [<-hW];exact zU (yj h _)
 have HS0:Hid ((L0).length+(name:ByteArray).size+1<=1000000000):=by
  show _<=_
  have hl:=HL.out
  have hs:=Nat.le_trans (Nat.le_of_eq (zg (name))) (Nat.le_of_succ_le (by have:=HT0.out;rw [List.length_cons] at this;exact this))
  omega
 have HS1:Hid ((L0++(32 :: (name:ByteArray).data.toList)).length+22 * ([lo,hi]:List Int).length<=900000000):=by
  show (L0++(32 :: (name:ByteArray).data.toList)).length+22 * 2<=900000000
  have h0:=HT0.out
  have hl:=HL.out
  rw [List.length_append]
  omega
 have HSx:Hid (∀ w',Bx w0 w w.heap.size (sayC name lo hi kind op vt k v x y vx vb vr) w'->w'.cell? ⟨w.heap.size,0,none⟩=some (.string name)/\w'.cell? ⟨w.heap.size,1,none⟩=some (.int .i64 lo)/\w'.cell? ⟨w.heap.size,2,none⟩=some (.int .i64 hi)/\Bx w0 w w.heap.size (sayC name lo hi kind op vt k v x y vx vb vr) w'):=fun w' h=>⟨h.cell 0 _ rfl,h.cell 1 _ rfl,h.cell 2 _ rfl,h⟩
 clear hw hV hn hl nml nums1 h
 unfold sayC
 go_enter Tryz.func76,Tryz.ntmps76
 go_wp2_with fail
 have hW':=hW
 unfold sayC at hW'
 try rw [hW']
 clear hW hW'
 go_region_held3 (fun w'=>w'.cell? ⟨w.heap.size,0,none⟩=some (.string name)/\w'.cell? ⟨w.heap.size,1,none⟩=some (.int .i64 lo)/\w'.cell? ⟨w.heap.size,2,none⟩=some (.int .i64 hi)/\Bx w0 w w.heap.size (sayC name lo hi kind op vt k v x y vx vb vr) w')
  (first | exact HSx.out _ HB.out | exact HSx.out _ (Bx.alloc (And.right (And.right (And.right (by assumption)))) _) | exact HSx.out _ (Bx.kq (And.right (And.right (And.right (by assumption)))) (by assumption)) | assumption)
  (first | (go_at_call 77;refine cZ (xo w0.heap.size b va (L0) name _ ?_ HS0.out ?_) ?_;(first | exact hp0 | exact yj hp0 _ | exact yj (yj hp0 _) _);(have hq:=HW.out.next (And.left (And.right (And.right (And.right (And.right (by assumption))))));exact hq.low.size);rintro e w1 ⟨rfl,hp1,hk1⟩) | (go_at_call 78;refine cZ (xg (w0:=w0) b va (L0++(32 :: (name:ByteArray).data.toList)) (.slice (some ⟨_,0,none⟩) 2 2) [lo,hi] _ ?_ ?_ Hnums1.out ?_ HS1.out) ?_;exact HW.out.next (And.left (And.right (And.right (And.right (And.right (by assumption))))));(refine LitL.ints (l:=[lo,hi]) ?_ (by simp);(first | exact yk _ [lo,hi] | exact (yk _ [lo,hi]).alloc _ | exact yE _ _ [lo,hi] | exact ((yk _ [lo,hi]).alloc _).alloc _ | exact (yE _ _ [lo,hi]).alloc _ | exact (yk _ [lo,hi]).kqd hk1 | exact (yk _ [lo,hi]).kq hk1 | exact ((yk _ [lo,hi]).alloc _).kqd hk1 | exact ((yk _ [lo,hi]).alloc _).kq hk1 | exact (yE _ _ [lo,hi]).kqd hk1 | exact (yE _ _ [lo,hi]).kq hk1));(first | exact hp1 | exact yj hp1 _ | exact yj (yj hp1 _) _);rintro e w2 ⟨rfl,hp2,hk2⟩))
 all_goals
  have HK:Hid (Kq w0.heap.size w w2):=And.left (And.right (And.right (And.right (And.right (by assumption)))))
  go_wp2_with fail
  go_end0
  exact ⟨rfl,hp2,HK.out⟩
theorem y2S {w0:World} (vars:List Md.Vr) (b:Nat) (va:Value) (L0:List UInt8) (name:ByteArray) (lo hi kind:Int) (vt:Value) (k v x y:Int) (vx vb vr:Value) (w:World) (hV:VarsAt w0 va vars) (hn:∀ v∈vars,v.name.data.toList.length<=16) (hw:Way w0 w) (nums1:∀ z∈([k]:List Int),-1000000000<=z/\z<=1000000000) {ts:List (Int × Int)} (gts:TermsAt w0 vt ts) (tsx:∀ t∈ts,0<=t.2/\t.2<(vars.length:Int)) (tsc:∀ t∈ts,-1000000<=t.1/\t.1<=1000000) (tsl:ts.length<=64) (h:yf w0.heap.size b va L0 w) (hl:L0.length<=700000000) :
  Calls Tryz.prog 83 #[.pointer (some ⟨b,0,none⟩),.agg (sayC name lo hi kind 1 vt k v x y vx vb vr)] w fun e w'=>e=.returned (.tuple #[])/\yf w0.heap.size b va (((L0++(32 :: (⟨#[60,61]⟩:ByteArray).data.toList))++(Md.numsT [k]))++(Md.sumT vars ts)) w'/\Kq w0.heap.size w w':=by
 have HW:Hid (Way w0 w):=hw
 have HV:Hid (VarsAt w0 va vars):=hV
 have HNm:Hid (∀ v∈vars,v.name.data.toList.length<=16):=hn
 have HL:Hid (L0.length<=700000000):=hl
 have Hnums1:Hid (∀ z∈([k]:List Int),-1000000000<=z/\z<=1000000000):=nums1
 have Hgts:Hid (TermsAt w0 vt ts):=gts
 have Htsx:Hid (∀ t∈ts,0<=t.2/\t.2<(vars.length:Int)):=tsx
 have Htsc:Hid (∀ t∈ts,-1000000<=t.1/\t.1<=1000000):=tsc
 have Htsl:Hid (ts.length<=64):=tsl
 have HT0:Hid ((32 :: (⟨#[60,61]⟩:ByteArray).data.toList).length<=20):=by show _<=_;decide
 have HT1:Hid ((Md.numsT [k]).length<=100000):=by
  have:=Md.flatMap_len (fun n=>32 :: Lib.itoa n) 22 [k] (fun z hz=>by have:=Md.itoa_len (Hnums1.out z hz);simpa using this)
  exact Nat.le_trans this (by show 22 * 1<=100000;decide)
 obtain ⟨W,hW⟩:∃ W,w.alloc (.cells (sayC name lo hi kind 1 vt k v x y vx vb vr) 74)=W:=⟨_,rfl⟩
 have HB:Hid (Bx w0 w w.heap.size (sayC name lo hi kind 1 vt k v x y vx vb vr) W.drew):=Bx.made _ HW.out.low.size hW
 have hp0:yf w0.heap.size b va L0 W.drew:=by rw [<-hW];exact zU (yj h _)
 obtain ⟨ta,tc,hvt,_⟩:=Hgts.out.form
 subst hvt
 have HS0:Hid ((L0).length+(⟨#[60,61]⟩:ByteArray).size+1<=1000000000):=by
  show _<=_
  have hl:=HL.out
  have hs:=Nat.le_trans (Nat.le_of_eq (zg (⟨#[60,61]⟩))) (Nat.le_of_succ_le (by have:=HT0.out;rw [List.length_cons] at this;exact this))
  omega
 have HS1:Hid ((L0++(32 :: (⟨#[60,61]⟩:ByteArray).data.toList)).length+22 * ([k]:List Int).length<=900000000):=by
  show (L0++(32 :: (⟨#[60,61]⟩:ByteArray).data.toList)).length+22 * 1<=900000000
  have h0:=HT0.out
  have hl:=HL.out
  rw [List.length_append]
  omega
 have HS2:Hid (((L0++(32 :: (⟨#[60,61]⟩:ByteArray).data.toList))++(Md.numsT [k])).length+44 * ts.length<=800000000):=by
  show _<=_
  have h0:=HT0.out
  have h1:=HT1.out
  have hl:=HL.out
  have h9:=Htsl.out
  rw [List.length_append,List.length_append]
  omega
 have HSx:Hid (∀ w',Bx w0 w w.heap.size (sayC name lo hi kind 1 (.slice ta ts.length tc) k v x y vx vb vr) w'->w'.cell? ⟨w.heap.size,4,none⟩=some (.int .i64 1)/\w'.cell? ⟨0,1,none⟩=some (.string ⟨#[60,61]⟩)/\w'.cell? ⟨w.heap.size,6,none⟩=some (.int .i64 k)/\w'.cell? ⟨w.heap.size,5,none⟩=some (.slice ta ts.length tc)/\Bx w0 w w.heap.size (sayC name lo hi kind 1 (.slice ta ts.length tc) k v x y vx vb vr) w'):=fun w' h=>⟨h.cell 4 _ rfl,(HW.out.next h.2.1).opw1,h.cell 6 _ rfl,h.cell 5 _ rfl,h⟩
 clear hw hV hn hl nums1 gts tsx tsc tsl h
 unfold sayC
 go_enter Tryz.func83,Tryz.ntmps83
 go_wp2_with fail
 have hW':=hW
 unfold sayC at hW'
 try rw [hW']
 clear hW hW'
 go_region_held3 (fun w'=>w'.cell? ⟨w.heap.size,4,none⟩=some (.int .i64 1)/\w'.cell? ⟨0,1,none⟩=some (.string ⟨#[60,61]⟩)/\w'.cell? ⟨w.heap.size,6,none⟩=some (.int .i64 k)/\w'.cell? ⟨w.heap.size,5,none⟩=some (.slice ta ts.length tc)/\Bx w0 w w.heap.size (sayC name lo hi kind 1 (.slice ta ts.length tc) k v x y vx vb vr) w')
  (first | exact HSx.out _ HB.out | exact HSx.out _ (Bx.alloc (And.right (And.right (And.right (And.right (by assumption))))) _) | exact HSx.out _ (Bx.kq (And.right (And.right (And.right (And.right (by assumption))))) (by assumption)) | assumption)
  (first | (go_at_call 77;refine cZ (xo w0.heap.size b va (L0) ⟨#[60,61]⟩ _ ?_ HS0.out ?_) ?_;(first | exact hp0 | exact yj hp0 _ | exact yj (yj hp0 _) _);(have hq:=HW.out.next (And.left (And.right (And.right (And.right (And.right (And.right (by assumption)))))));exact hq.low.size);rintro e w1 ⟨rfl,hp1,hk1⟩) | (go_at_call 78;refine cZ (xg (w0:=w0) b va (L0++(32 :: (⟨#[60,61]⟩:ByteArray).data.toList)) (.slice (some ⟨_,0,none⟩) 1 1) [k] _ ?_ ?_ Hnums1.out ?_ HS1.out) ?_;exact HW.out.next (And.left (And.right (And.right (And.right (And.right (And.right (by assumption)))))));(refine LitL.ints (l:=[k]) ?_ (by simp);(first | exact yk _ [k] | exact (yk _ [k]).alloc _ | exact yE _ _ [k] | exact ((yk _ [k]).alloc _).alloc _ | exact (yE _ _ [k]).alloc _ | exact (yk _ [k]).kqd hk1 | exact (yk _ [k]).kq hk1 | exact ((yk _ [k]).alloc _).kqd hk1 | exact ((yk _ [k]).alloc _).kq hk1 | exact (yE _ _ [k]).kqd hk1 | exact (yE _ _ [k]).kq hk1));(first | exact hp1 | exact yj hp1 _ | exact yj (yj hp1 _) _);rintro e w2 ⟨rfl,hp2,hk2⟩) | (go_at_call 84;refine cZ (YS vars b va ((L0++(32 :: (⟨#[60,61]⟩:ByteArray).data.toList))++(Md.numsT [k])) (.slice ta ts.length tc) ts _ HV.out HNm.out ?_ Hgts.out Htsx.out Htsc.out ?_ HS2.out) ?_;exact HW.out.next (And.left (And.right (And.right (And.right (And.right (And.right (by assumption)))))));(first | exact hp2 | exact yj hp2 _ | exact yj (yj hp2 _) _);rintro e w3 ⟨rfl,hp3,hk3⟩))
 all_goals
  have HK:Hid (Kq w0.heap.size w w3):=And.left (And.right (And.right (And.right (And.right (And.right (by assumption))))))
  go_wp2_with fail
  go_end0
  exact ⟨rfl,hp3,HK.out⟩
theorem y2U {w0:World} (vars:List Md.Vr) (b:Nat) (va:Value) (L0:List UInt8) (name:ByteArray) (lo hi kind:Int) (vt:Value) (k v x y:Int) (vx vb vr:Value) (w:World) (hV:VarsAt w0 va vars) (hn:∀ v∈vars,v.name.data.toList.length<=16) (hw:Way w0 w) (nums1:∀ z∈([k,v]:List Int),-1000000000<=z/\z<=1000000000) {xs:List Int} (gxs:IntsAt w0 vx xs) (xsn:∀ x∈xs,0<=x/\x<(vars.length:Int)) (xsl:xs.length<=64) (h:yf w0.heap.size b va L0 w) (hl:L0.length<=700000000) :
  Calls Tryz.prog 98 #[.pointer (some ⟨b,0,none⟩),.agg (sayC name lo hi kind 1 vt k v x y vx vb vr)] w fun e w'=>e=.returned (.tuple #[])/\yf w0.heap.size b va (((L0++(32 :: (⟨#[60,61]⟩:ByteArray).data.toList))++(Md.numsT [k,v]))++(Md.namesT vars xs)) w'/\Kq w0.heap.size w w':=by
 have HW:Hid (Way w0 w):=hw
 have HV:Hid (VarsAt w0 va vars):=hV
 have HNm:Hid (∀ v∈vars,v.name.data.toList.length<=16):=hn
 have HL:Hid (L0.length<=700000000):=hl
 have Hnums1:Hid (∀ z∈([k,v]:List Int),-1000000000<=z/\z<=1000000000):=nums1
 have Hgxs:Hid (IntsAt w0 vx xs):=gxs
 have Hxsn:Hid (∀ x∈xs,0<=x/\x<(vars.length:Int)):=xsn
 have Hxsl:Hid (xs.length<=64):=xsl
 have HT0:Hid ((32 :: (⟨#[60,61]⟩:ByteArray).data.toList).length<=20):=by show _<=_;decide
 have HT1:Hid ((Md.numsT [k,v]).length<=100000):=by
  have:=Md.flatMap_len (fun n=>32 :: Lib.itoa n) 22 [k,v] (fun z hz=>by have:=Md.itoa_len (Hnums1.out z hz);simpa using this)
  exact Nat.le_trans this (by show 22 * 2<=100000;decide)
 have HT2:Hid ((Md.namesT vars xs).length<=100000):=by
  have:=zl HNm.out Hxsn.out
  have h2:=Hxsl.out
  exact Nat.le_trans this (by omega)
 obtain ⟨W,hW⟩:∃ W,w.alloc (.cells (sayC name lo hi kind 1 vt k v x y vx vb vr) 74)=W:=⟨_,rfl⟩
 have HB:Hid (Bx w0 w w.heap.size (sayC name lo hi kind 1 vt k v x y vx vb vr) W.drew):=Bx.made _ HW.out.low.size hW
 have hp0:yf w0.heap.size b va L0 W.drew:=by rw [<-hW];exact zU (yj h _)
 obtain ⟨xa,xc,hvx,_⟩:=Hgxs.out.form
 subst hvx
 have HS0:Hid ((L0).length+(⟨#[60,61]⟩:ByteArray).size+1<=1000000000):=by
  show _<=_
  have hl:=HL.out
  have hs:=Nat.le_trans (Nat.le_of_eq (zg (⟨#[60,61]⟩))) (Nat.le_of_succ_le (by have:=HT0.out;rw [List.length_cons] at this;exact this))
  omega
 have HS1:Hid ((L0++(32 :: (⟨#[60,61]⟩:ByteArray).data.toList)).length+22 * ([k,v]:List Int).length<=900000000):=by
  show (L0++(32 :: (⟨#[60,61]⟩:ByteArray).data.toList)).length+22 * 2<=900000000
  have h0:=HT0.out
  have hl:=HL.out
  rw [List.length_append]
  omega
 have HS2:Hid (((L0++(32 :: (⟨#[60,61]⟩:ByteArray).data.toList))++(Md.numsT [k,v])).length+22 * xs.length<=900000000):=by
  show _<=_
  have h0:=HT0.out
  have h1:=HT1.out
  have hl:=HL.out
  have h9:=Hxsl.out
  rw [List.length_append,List.length_append]
  omega
 have HSx:Hid (∀ w',Bx w0 w w.heap.size (sayC name lo hi kind 1 vt k v x y (.slice xa xs.length xc) vb vr) w'->w'.cell? ⟨w.heap.size,4,none⟩=some (.int .i64 1)/\w'.cell? ⟨0,1,none⟩=some (.string ⟨#[60,61]⟩)/\w'.cell? ⟨w.heap.size,6,none⟩=some (.int .i64 k)/\w'.cell? ⟨w.heap.size,7,none⟩=some (.int .i64 v)/\w'.cell? ⟨w.heap.size,10,none⟩=some (.slice xa xs.length xc)/\Bx w0 w w.heap.size (sayC name lo hi kind 1 vt k v x y (.slice xa xs.length xc) vb vr) w'):=fun w' h=>⟨h.cell 4 _ rfl,(HW.out.next h.2.1).opw1,h.cell 6 _ rfl,h.cell 7 _ rfl,h.cell 10 _ rfl,h⟩
 clear hw hV hn hl nums1 gxs xsn xsl h
 unfold sayC
 go_enter Tryz.func98,Tryz.ntmps98
 go_wp2_with fail
 have hW':=hW
 unfold sayC at hW'
 try rw [hW']
 clear hW hW'
 go_region_held3 (fun w'=>w'.cell? ⟨w.heap.size,4,none⟩=some (.int .i64 1)/\w'.cell? ⟨0,1,none⟩=some (.string ⟨#[60,61]⟩)/\w'.cell? ⟨w.heap.size,6,none⟩=some (.int .i64 k)/\w'.cell? ⟨w.heap.size,7,none⟩=some (.int .i64 v)/\w'.cell? ⟨w.heap.size,10,none⟩=some (.slice xa xs.length xc)/\Bx w0 w w.heap.size (sayC name lo hi kind 1 vt k v x y (.slice xa xs.length xc) vb vr) w')
  (first | exact HSx.out _ HB.out | exact HSx.out _ (Bx.alloc (And.right (And.right (And.right (And.right (And.right (by assumption)))))) _) | exact HSx.out _ (Bx.kq (And.right (And.right (And.right (And.right (And.right (by assumption)))))) (by assumption)) | assumption)
  (first | (go_at_call 77;refine cZ (xo w0.heap.size b va (L0) ⟨#[60,61]⟩ _ ?_ HS0.out ?_) ?_;(first | exact hp0 | exact yj hp0 _ | exact yj (yj hp0 _) _);(have hq:=HW.out.next (And.left (And.right (And.right (And.right (And.right (And.right (And.right (by assumption))))))));exact hq.low.size);rintro e w1 ⟨rfl,hp1,hk1⟩) | (go_at_call 78;refine cZ (xg (w0:=w0) b va (L0++(32 :: (⟨#[60,61]⟩:ByteArray).data.toList)) (.slice (some ⟨_,0,none⟩) 2 2) [k,v] _ ?_ ?_ Hnums1.out ?_ HS1.out) ?_;exact HW.out.next (And.left (And.right (And.right (And.right (And.right (And.right (And.right (by assumption))))))));(refine LitL.ints (l:=[k,v]) ?_ (by simp);(first | exact yk _ [k,v] | exact (yk _ [k,v]).alloc _ | exact yE _ _ [k,v] | exact ((yk _ [k,v]).alloc _).alloc _ | exact (yE _ _ [k,v]).alloc _ | exact (yk _ [k,v]).kqd hk1 | exact (yk _ [k,v]).kq hk1 | exact ((yk _ [k,v]).alloc _).kqd hk1 | exact ((yk _ [k,v]).alloc _).kq hk1 | exact (yE _ _ [k,v]).kqd hk1 | exact (yE _ _ [k,v]).kq hk1));(first | exact hp1 | exact yj hp1 _ | exact yj (yj hp1 _) _);rintro e w2 ⟨rfl,hp2,hk2⟩) | (go_at_call 74;refine cZ (xq vars b va ((L0++(32 :: (⟨#[60,61]⟩:ByteArray).data.toList))++(Md.numsT [k,v])) (.slice xa xs.length xc) xs _ HV.out HNm.out ?_ ?_ Hxsn.out ?_ HS2.out) ?_;exact HW.out.next (And.left (And.right (And.right (And.right (And.right (And.right (And.right (by assumption))))))));(intro w9 hq;have hq0:=HW.out.next (And.left (And.right (And.right (And.right (And.right (And.right (And.right (by assumption))))))));exact Hgxs.out.below (hq0.next hq).low);(first | exact hp2 | exact yj hp2 _ | exact yj (yj hp2 _) _);rintro e w3 ⟨rfl,hp3,hk3⟩))
 all_goals
  have HK:Hid (Kq w0.heap.size w w3):=And.left (And.right (And.right (And.right (And.right (And.right (And.right (by assumption)))))))
  go_wp2_with fail
  go_end0
  exact ⟨rfl,hp3,HK.out⟩
theorem y2W {w0:World} (vars:List Md.Vr) (b:Nat) (va:Value) (L0:List UInt8) (name:ByteArray) (lo hi kind:Int) (vt:Value) (k v x y:Int) (vx vb vr:Value) (w:World) (hV:VarsAt w0 va vars) (hn:∀ v∈vars,v.name.data.toList.length<=16) (hw:Way w0 w) (nums1:∀ z∈([k]:List Int),-1000000000<=z/\z<=1000000000) {ts:List (Int × Int)} (gts:TermsAt w0 vt ts) (tsx:∀ t∈ts,0<=t.2/\t.2<(vars.length:Int)) (tsc:∀ t∈ts,-1000000<=t.1/\t.1<=1000000) (tsl:ts.length<=64) (h:yf w0.heap.size b va L0 w) (hl:L0.length<=700000000) :
  Calls Tryz.prog 83 #[.pointer (some ⟨b,0,none⟩),.agg (sayC name lo hi kind 2 vt k v x y vx vb vr)] w fun e w'=>e=.returned (.tuple #[])/\yf w0.heap.size b va (((L0++(32 :: (⟨#[61]⟩:ByteArray).data.toList))++(Md.numsT [k]))++(Md.sumT vars ts)) w'/\Kq w0.heap.size w w':=by
 have HW:Hid (Way w0 w):=hw
 have HV:Hid (VarsAt w0 va vars):=hV
 have HNm:Hid (∀ v∈vars,v.name.data.toList.length<=16):=hn
 have HL:Hid (L0.length<=700000000):=hl
 have Hnums1:Hid (∀ z∈([k]:List Int),-1000000000<=z/\z<=1000000000):=nums1
 have Hgts:Hid (TermsAt w0 vt ts):=gts
 have Htsx:Hid (∀ t∈ts,0<=t.2/\t.2<(vars.length:Int)):=tsx
 have Htsc:Hid (∀ t∈ts,-1000000<=t.1/\t.1<=1000000):=tsc
 have Htsl:Hid (ts.length<=64):=tsl
 have HT0:Hid ((32 :: (⟨#[61]⟩:ByteArray).data.toList).length<=20):=by show _<=_;decide
 have HT1:Hid ((Md.numsT [k]).length<=100000):=by
  have:=Md.flatMap_len (fun n=>32 :: Lib.itoa n) 22 [k] (fun z hz=>by have:=Md.itoa_len (Hnums1.out z hz);simpa using this)
  exact Nat.le_trans this (by show 22 * 1<=100000;decide)
 obtain ⟨W,hW⟩:∃ W,w.alloc (.cells (sayC name lo hi kind 2 vt k v x y vx vb vr) 74)=W:=⟨_,rfl⟩
 have HB:Hid (Bx w0 w w.heap.size (sayC name lo hi kind 2 vt k v x y vx vb vr) W.drew):=Bx.made _ HW.out.low.size hW
 have hp0:yf w0.heap.size b va L0 W.drew:=by rw [<-hW];exact zU (yj h _)
 obtain ⟨ta,tc,hvt,_⟩:=Hgts.out.form
 subst hvt
 have HS0:Hid ((L0).length+(⟨#[61]⟩:ByteArray).size+1<=1000000000):=by
  show _<=_
  have hl:=HL.out
  have hs:=Nat.le_trans (Nat.le_of_eq (zg (⟨#[61]⟩))) (Nat.le_of_succ_le (by have:=HT0.out;rw [List.length_cons] at this;exact this))
  omega
 have HS1:Hid ((L0++(32 :: (⟨#[61]⟩:ByteArray).data.toList)).length+22 * ([k]:List Int).length<=900000000):=by
  show (L0++(32 :: (⟨#[61]⟩:ByteArray).data.toList)).length+22 * 1<=900000000
  have h0:=HT0.out
  have hl:=HL.out
  rw [List.length_append]
  omega
 have HS2:Hid (((L0++(32 :: (⟨#[61]⟩:ByteArray).data.toList))++(Md.numsT [k])).length+44 * ts.length<=800000000):=by
  show _<=_
  have h0:=HT0.out
  have h1:=HT1.out
  have hl:=HL.out
  have h9:=Htsl.out
  rw [List.length_append,List.length_append]
  omega
 have HSx:Hid (∀ w',Bx w0 w w.heap.size (sayC name lo hi kind 2 (.slice ta ts.length tc) k v x y vx vb vr) w'->w'.cell? ⟨w.heap.size,4,none⟩=some (.int .i64 2)/\w'.cell? ⟨0,2,none⟩=some (.string ⟨#[61]⟩)/\w'.cell? ⟨w.heap.size,6,none⟩=some (.int .i64 k)/\w'.cell? ⟨w.heap.size,5,none⟩=some (.slice ta ts.length tc)/\Bx w0 w w.heap.size (sayC name lo hi kind 2 (.slice ta ts.length tc) k v x y vx vb vr) w'):=fun w' h=>⟨h.cell 4 _ rfl,(HW.out.next h.2.1).opw2,h.cell 6 _ rfl,h.cell 5 _ rfl,h⟩
 clear hw hV hn hl nums1 gts tsx tsc tsl h
 unfold sayC
 go_enter Tryz.func83,Tryz.ntmps83
 go_wp2_with fail
 have hW':=hW
 unfold sayC at hW'
 try rw [hW']
 clear hW hW'
 go_region_held3 (fun w'=>w'.cell? ⟨w.heap.size,4,none⟩=some (.int .i64 2)/\w'.cell? ⟨0,2,none⟩=some (.string ⟨#[61]⟩)/\w'.cell? ⟨w.heap.size,6,none⟩=some (.int .i64 k)/\w'.cell? ⟨w.heap.size,5,none⟩=some (.slice ta ts.length tc)/\Bx w0 w w.heap.size (sayC name lo hi kind 2 (.slice ta ts.length tc) k v x y vx vb vr) w')
  (first | exact HSx.out _ HB.out | exact HSx.out _ (Bx.alloc (And.right (And.right (And.right (And.right (by assumption))))) _) | exact HSx.out _ (Bx.kq (And.right (And.right (And.right (And.right (by assumption))))) (by assumption)) | assumption)
  (first | (go_at_call 77;refine cZ (xo w0.heap.size b va (L0) ⟨#[61]⟩ _ ?_ HS0.out ?_) ?_;(first | exact hp0 | exact yj hp0 _ | exact yj (yj hp0 _) _);(have hq:=HW.out.next (And.left (And.right (And.right (And.right (And.right (And.right (by assumption)))))));exact hq.low.size);rintro e w1 ⟨rfl,hp1,hk1⟩) | (go_at_call 78;refine cZ (xg (w0:=w0) b va (L0++(32 :: (⟨#[61]⟩:ByteArray).data.toList)) (.slice (some ⟨_,0,none⟩) 1 1) [k] _ ?_ ?_ Hnums1.out ?_ HS1.out) ?_;exact HW.out.next (And.left (And.right (And.right (And.right (And.right (And.right (by assumption)))))));(refine LitL.ints (l:=[k]) ?_ (by simp);(first | exact yk _ [k] | exact (yk _ [k]).alloc _ | exact yE _ _ [k] | exact ((yk _ [k]).alloc _).alloc _ | exact (yE _ _ [k]).alloc _ | exact (yk _ [k]).kqd hk1 | exact (yk _ [k]).kq hk1 | exact ((yk _ [k]).alloc _).kqd hk1 | exact ((yk _ [k]).alloc _).kq hk1 | exact (yE _ _ [k]).kqd hk1 | exact (yE _ _ [k]).kq hk1));(first | exact hp1 | exact yj hp1 _ | exact yj (yj hp1 _) _);rintro e w2 ⟨rfl,hp2,hk2⟩) | (go_at_call 84;refine cZ (YS vars b va ((L0++(32 :: (⟨#[61]⟩:ByteArray).data.toList))++(Md.numsT [k])) (.slice ta ts.length tc) ts _ HV.out HNm.out ?_ Hgts.out Htsx.out Htsc.out ?_ HS2.out) ?_;exact HW.out.next (And.left (And.right (And.right (And.right (And.right (And.right (by assumption)))))));(first | exact hp2 | exact yj hp2 _ | exact yj (yj hp2 _) _);rintro e w3 ⟨rfl,hp3,hk3⟩))
 all_goals
  have HK:Hid (Kq w0.heap.size w w3):=And.left (And.right (And.right (And.right (And.right (And.right (by assumption))))))
  go_wp2_with fail
  go_end0
  exact ⟨rfl,hp3,HK.out⟩
theorem y2Y {w0:World} (vars:List Md.Vr) (b:Nat) (va:Value) (L0:List UInt8) (name:ByteArray) (lo hi kind:Int) (vt:Value) (k v x y:Int) (vx vb vr:Value) (w:World) (hV:VarsAt w0 va vars) (hn:∀ v∈vars,v.name.data.toList.length<=16) (hw:Way w0 w) (nums1:∀ z∈([k,v]:List Int),-1000000000<=z/\z<=1000000000) {xs:List Int} (gxs:IntsAt w0 vx xs) (xsn:∀ x∈xs,0<=x/\x<(vars.length:Int)) (xsl:xs.length<=64) (h:yf w0.heap.size b va L0 w) (hl:L0.length<=700000000) :
  Calls Tryz.prog 98 #[.pointer (some ⟨b,0,none⟩),.agg (sayC name lo hi kind 2 vt k v x y vx vb vr)] w fun e w'=>e=.returned (.tuple #[])/\yf w0.heap.size b va (((L0++(32 :: (⟨#[61]⟩:ByteArray).data.toList))++(Md.numsT [k,v]))++(Md.namesT vars xs)) w'/\Kq w0.heap.size w w':=by
 have HW:Hid (Way w0 w):=hw
 have HV:Hid (VarsAt w0 va vars):=hV
 have HNm:Hid (∀ v∈vars,v.name.data.toList.length<=16):=hn
 have HL:Hid (L0.length<=700000000):=hl
 have Hnums1:Hid (∀ z∈([k,v]:List Int),-1000000000<=z/\z<=1000000000):=nums1
 have Hgxs:Hid (IntsAt w0 vx xs):=gxs
 have Hxsn:Hid (∀ x∈xs,0<=x/\x<(vars.length:Int)):=xsn
 have Hxsl:Hid (xs.length<=64):=xsl
 have HT0:Hid ((32 :: (⟨#[61]⟩:ByteArray).data.toList).length<=20):=by show _<=_;decide
 have HT1:Hid ((Md.numsT [k,v]).length<=100000):=by
  have:=Md.flatMap_len (fun n=>32 :: Lib.itoa n) 22 [k,v] (fun z hz=>by have:=Md.itoa_len (Hnums1.out z hz);simpa using this)
  exact Nat.le_trans this (by show 22 * 2<=100000;decide)
 have HT2:Hid ((Md.namesT vars xs).length<=100000):=by
  have:=zl HNm.out Hxsn.out
  have h2:=Hxsl.out
  exact Nat.le_trans this (by omega)
 obtain ⟨W,hW⟩:∃ W,w.alloc (.cells (sayC name lo hi kind 2 vt k v x y vx vb vr) 74)=W:=⟨_,rfl⟩
 have HB:Hid (Bx w0 w w.heap.size (sayC name lo hi kind 2 vt k v x y vx vb vr) W.drew):=Bx.made _ HW.out.low.size hW
 have hp0:yf w0.heap.size b va L0 W.drew:=by rw [<-hW];exact zU (yj h _)
 obtain ⟨xa,xc,hvx,_⟩:=Hgxs.out.form
 subst hvx
 have HS0:Hid ((L0).length+(⟨#[61]⟩:ByteArray).size+1<=1000000000):=by
  show _<=_
  have hl:=HL.out
  have hs:=Nat.le_trans (Nat.le_of_eq (zg (⟨#[61]⟩))) (Nat.le_of_succ_le (by have:=HT0.out;rw [List.length_cons] at this;exact this))
  omega
 have HS1:Hid ((L0++(32 :: (⟨#[61]⟩:ByteArray).data.toList)).length+22 * ([k,v]:List Int).length<=900000000):=by
  show (L0++(32 :: (⟨#[61]⟩:ByteArray).data.toList)).length+22 * 2<=900000000
  have h0:=HT0.out
  have hl:=HL.out
  rw [List.length_append]
  omega
 have HS2:Hid (((L0++(32 :: (⟨#[61]⟩:ByteArray).data.toList))++(Md.numsT [k,v])).length+22 * xs.length<=900000000):=by
  show _<=_
  have h0:=HT0.out
  have h1:=HT1.out
  have hl:=HL.out
  have h9:=Hxsl.out
  rw [List.length_append,List.length_append]
  omega
 have HSx:Hid (∀ w',Bx w0 w w.heap.size (sayC name lo hi kind 2 vt k v x y (.slice xa xs.length xc) vb vr) w'->w'.cell? ⟨w.heap.size,4,none⟩=some (.int .i64 2)/\w'.cell? ⟨0,2,none⟩=some (.string ⟨#[61]⟩)/\w'.cell? ⟨w.heap.size,6,none⟩=some (.int .i64 k)/\w'.cell? ⟨w.heap.size,7,none⟩=some (.int .i64 v)/\w'.cell? ⟨w.heap.size,10,none⟩=some (.slice xa xs.length xc)/\Bx w0 w w.heap.size (sayC name lo hi kind 2 vt k v x y (.slice xa xs.length xc) vb vr) w'):=fun w' h=>⟨h.cell 4 _ rfl,(HW.out.next h.2.1).opw2,h.cell 6 _ rfl,h.cell 7 _ rfl,h.cell 10 _ rfl,h⟩
 clear hw hV hn hl nums1 gxs xsn xsl h
 unfold sayC
 go_enter Tryz.func98,Tryz.ntmps98
 go_wp2_with fail
 have hW':=hW
 unfold sayC at hW'
 try rw [hW']
 clear hW hW'
 go_region_held3 (fun w'=>w'.cell? ⟨w.heap.size,4,none⟩=some (.int .i64 2)/\w'.cell? ⟨0,2,none⟩=some (.string ⟨#[61]⟩)/\w'.cell? ⟨w.heap.size,6,none⟩=some (.int .i64 k)/\w'.cell? ⟨w.heap.size,7,none⟩=some (.int .i64 v)/\w'.cell? ⟨w.heap.size,10,none⟩=some (.slice xa xs.length xc)/\Bx w0 w w.heap.size (sayC name lo hi kind 2 vt k v x y (.slice xa xs.length xc) vb vr) w')
  (first | exact HSx.out _ HB.out | exact HSx.out _ (Bx.alloc (And.right (And.right (And.right (And.right (And.right (by assumption)))))) _) | exact HSx.out _ (Bx.kq (And.right (And.right (And.right (And.right (And.right (by assumption)))))) (by assumption)) | assumption)
  (first | (go_at_call 77;refine cZ (xo w0.heap.size b va (L0) ⟨#[61]⟩ _ ?_ HS0.out ?_) ?_;(first | exact hp0 | exact yj hp0 _ | exact yj (yj hp0 _) _);(have hq:=HW.out.next (And.left (And.right (And.right (And.right (And.right (And.right (And.right (by assumption))))))));exact hq.low.size);rintro e w1 ⟨rfl,hp1,hk1⟩) | (go_at_call 78;refine cZ (xg (w0:=w0) b va (L0++(32 :: (⟨#[61]⟩:ByteArray).data.toList)) (.slice (some ⟨_,0,none⟩) 2 2) [k,v] _ ?_ ?_ Hnums1.out ?_ HS1.out) ?_;exact HW.out.next (And.left (And.right (And.right (And.right (And.right (And.right (And.right (by assumption))))))));(refine LitL.ints (l:=[k,v]) ?_ (by simp);(first | exact yk _ [k,v] | exact (yk _ [k,v]).alloc _ | exact yE _ _ [k,v] | exact ((yk _ [k,v]).alloc _).alloc _ | exact (yE _ _ [k,v]).alloc _ | exact (yk _ [k,v]).kqd hk1 | exact (yk _ [k,v]).kq hk1 | exact ((yk _ [k,v]).alloc _).kqd hk1 | exact ((yk _ [k,v]).alloc _).kq hk1 | exact (yE _ _ [k,v]).kqd hk1 | exact (yE _ _ [k,v]).kq hk1));(first | exact hp1 | exact yj hp1 _ | exact yj (yj hp1 _) _);rintro e w2 ⟨rfl,hp2,hk2⟩) | (go_at_call 74;refine cZ (xq vars b va ((L0++(32 :: (⟨#[61]⟩:ByteArray).data.toList))++(Md.numsT [k,v])) (.slice xa xs.length xc) xs _ HV.out HNm.out ?_ ?_ Hxsn.out ?_ HS2.out) ?_;exact HW.out.next (And.left (And.right (And.right (And.right (And.right (And.right (And.right (by assumption))))))));(intro w9 hq;have hq0:=HW.out.next (And.left (And.right (And.right (And.right (And.right (And.right (And.right (by assumption))))))));exact Hgxs.out.below (hq0.next hq).low);(first | exact hp2 | exact yj hp2 _ | exact yj (yj hp2 _) _);rintro e w3 ⟨rfl,hp3,hk3⟩))
 all_goals
  have HK:Hid (Kq w0.heap.size w w3):=And.left (And.right (And.right (And.right (And.right (And.right (And.right (by assumption)))))))
  go_wp2_with fail
  go_end0
  exact ⟨rfl,hp3,HK.out⟩
theorem y30 {w0:World} (vars:List Md.Vr) (b:Nat) (va:Value) (L0:List UInt8) (name:ByteArray) (lo hi kind:Int) (vt:Value) (k v x y:Int) (vx vb vr:Value) (w:World) (hV:VarsAt w0 va vars) (hn:∀ v∈vars,v.name.data.toList.length<=16) (hw:Way w0 w) (nums1:∀ z∈([k]:List Int),-1000000000<=z/\z<=1000000000) {ts:List (Int × Int)} (gts:TermsAt w0 vt ts) (tsx:∀ t∈ts,0<=t.2/\t.2<(vars.length:Int)) (tsc:∀ t∈ts,-1000000<=t.1/\t.1<=1000000) (tsl:ts.length<=64) (h:yf w0.heap.size b va L0 w) (hl:L0.length<=700000000) :
  Calls Tryz.prog 83 #[.pointer (some ⟨b,0,none⟩),.agg (sayC name lo hi kind 3 vt k v x y vx vb vr)] w fun e w'=>e=.returned (.tuple #[])/\yf w0.heap.size b va (((L0++(32 :: (⟨#[62,61]⟩:ByteArray).data.toList))++(Md.numsT [k]))++(Md.sumT vars ts)) w'/\Kq w0.heap.size w w':=by
 have HW:Hid (Way w0 w):=hw
 have HV:Hid (VarsAt w0 va vars):=hV
 have HNm:Hid (∀ v∈vars,v.name.data.toList.length<=16):=hn
 have HL:Hid (L0.length<=700000000):=hl
 have Hnums1:Hid (∀ z∈([k]:List Int),-1000000000<=z/\z<=1000000000):=nums1
 have Hgts:Hid (TermsAt w0 vt ts):=gts
 have Htsx:Hid (∀ t∈ts,0<=t.2/\t.2<(vars.length:Int)):=tsx
 have Htsc:Hid (∀ t∈ts,-1000000<=t.1/\t.1<=1000000):=tsc
 have Htsl:Hid (ts.length<=64):=tsl
 have HT0:Hid ((32 :: (⟨#[62,61]⟩:ByteArray).data.toList).length<=20):=by show _<=_;decide
 have HT1:Hid ((Md.numsT [k]).length<=100000):=by
  have:=Md.flatMap_len (fun n=>32 :: Lib.itoa n) 22 [k] (fun z hz=>by have:=Md.itoa_len (Hnums1.out z hz);simpa using this)
  exact Nat.le_trans this (by show 22 * 1<=100000;decide)
 obtain ⟨W,hW⟩:∃ W,w.alloc (.cells (sayC name lo hi kind 3 vt k v x y vx vb vr) 74)=W:=⟨_,rfl⟩
 have HB:Hid (Bx w0 w w.heap.size (sayC name lo hi kind 3 vt k v x y vx vb vr) W.drew):=Bx.made _ HW.out.low.size hW
 have hp0:yf w0.heap.size b va L0 W.drew:=by rw [<-hW];exact zU (yj h _)
 obtain ⟨ta,tc,hvt,_⟩:=Hgts.out.form
 subst hvt
 have HS0:Hid ((L0).length+(⟨#[62,61]⟩:ByteArray).size+1<=1000000000):=by
  show _<=_
  have hl:=HL.out
  have hs:=Nat.le_trans (Nat.le_of_eq (zg (⟨#[62,61]⟩))) (Nat.le_of_succ_le (by have:=HT0.out;rw [List.length_cons] at this;exact this))
  omega
 have HS1:Hid ((L0++(32 :: (⟨#[62,61]⟩:ByteArray).data.toList)).length+22 * ([k]:List Int).length<=900000000):=by
  show (L0++(32 :: (⟨#[62,61]⟩:ByteArray).data.toList)).length+22 * 1<=900000000
  have h0:=HT0.out
  have hl:=HL.out
  rw [List.length_append]
  omega
 have HS2:Hid (((L0++(32 :: (⟨#[62,61]⟩:ByteArray).data.toList))++(Md.numsT [k])).length+44 * ts.length<=800000000):=by
  show _<=_
  have h0:=HT0.out
  have h1:=HT1.out
  have hl:=HL.out
  have h9:=Htsl.out
  rw [List.length_append,List.length_append]
  omega
 have HSx:Hid (∀ w',Bx w0 w w.heap.size (sayC name lo hi kind 3 (.slice ta ts.length tc) k v x y vx vb vr) w'->w'.cell? ⟨w.heap.size,4,none⟩=some (.int .i64 3)/\w'.cell? ⟨0,3,none⟩=some (.string ⟨#[62,61]⟩)/\w'.cell? ⟨w.heap.size,6,none⟩=some (.int .i64 k)/\w'.cell? ⟨w.heap.size,5,none⟩=some (.slice ta ts.length tc)/\Bx w0 w w.heap.size (sayC name lo hi kind 3 (.slice ta ts.length tc) k v x y vx vb vr) w'):=fun w' h=>⟨h.cell 4 _ rfl,(HW.out.next h.2.1).opw3,h.cell 6 _ rfl,h.cell 5 _ rfl,h⟩
 clear hw hV hn hl nums1 gts tsx tsc tsl h
 unfold sayC
 go_enter Tryz.func83,Tryz.ntmps83
 go_wp2_with fail
 have hW':=hW
 unfold sayC at hW'
 try rw [hW']
 clear hW hW'
 go_region_held3 (fun w'=>w'.cell? ⟨w.heap.size,4,none⟩=some (.int .i64 3)/\w'.cell? ⟨0,3,none⟩=some (.string ⟨#[62,61]⟩)/\w'.cell? ⟨w.heap.size,6,none⟩=some (.int .i64 k)/\w'.cell? ⟨w.heap.size,5,none⟩=some (.slice ta ts.length tc)/\Bx w0 w w.heap.size (sayC name lo hi kind 3 (.slice ta ts.length tc) k v x y vx vb vr) w')
  (first | exact HSx.out _ HB.out | exact HSx.out _ (Bx.alloc (And.right (And.right (And.right (And.right (by assumption))))) _) | exact HSx.out _ (Bx.kq (And.right (And.right (And.right (And.right (by assumption))))) (by assumption)) | assumption)
  (first | (go_at_call 77;refine cZ (xo w0.heap.size b va (L0) ⟨#[62,61]⟩ _ ?_ HS0.out ?_) ?_;(first | exact hp0 | exact yj hp0 _ | exact yj (yj hp0 _) _);(have hq:=HW.out.next (And.left (And.right (And.right (And.right (And.right (And.right (by assumption)))))));exact hq.low.size);rintro e w1 ⟨rfl,hp1,hk1⟩) | (go_at_call 78;refine cZ (xg (w0:=w0) b va (L0++(32 :: (⟨#[62,61]⟩:ByteArray).data.toList)) (.slice (some ⟨_,0,none⟩) 1 1) [k] _ ?_ ?_ Hnums1.out ?_ HS1.out) ?_;exact HW.out.next (And.left (And.right (And.right (And.right (And.right (And.right (by assumption)))))));(refine LitL.ints (l:=[k]) ?_ (by simp);(first | exact yk _ [k] | exact (yk _ [k]).alloc _ | exact yE _ _ [k] | exact ((yk _ [k]).alloc _).alloc _ | exact (yE _ _ [k]).alloc _ | exact (yk _ [k]).kqd hk1 | exact (yk _ [k]).kq hk1 | exact ((yk _ [k]).alloc _).kqd hk1 | exact ((yk _ [k]).alloc _).kq hk1 | exact (yE _ _ [k]).kqd hk1 | exact (yE _ _ [k]).kq hk1));(first | exact hp1 | exact yj hp1 _ | exact yj (yj hp1 _) _);rintro e w2 ⟨rfl,hp2,hk2⟩) | (go_at_call 84;refine cZ (YS vars b va ((L0++(32 :: (⟨#[62,61]⟩:ByteArray).data.toList))++(Md.numsT [k])) (.slice ta ts.length tc) ts _ HV.out HNm.out ?_ Hgts.out Htsx.out Htsc.out ?_ HS2.out) ?_;exact HW.out.next (And.left (And.right (And.right (And.right (And.right (And.right (by assumption)))))));(first | exact hp2 | exact yj hp2 _ | exact yj (yj hp2 _) _);rintro e w3 ⟨rfl,hp3,hk3⟩))
 all_goals
  have HK:Hid (Kq w0.heap.size w w3):=And.left (And.right (And.right (And.right (And.right (And.right (by assumption))))))
  go_wp2_with fail
  go_end0
  exact ⟨rfl,hp3,HK.out⟩
theorem y32 {w0:World} (vars:List Md.Vr) (b:Nat) (va:Value) (L0:List UInt8) (name:ByteArray) (lo hi kind:Int) (vt:Value) (k v x y:Int) (vx vb vr:Value) (w:World) (hV:VarsAt w0 va vars) (hn:∀ v∈vars,v.name.data.toList.length<=16) (hw:Way w0 w) (nums1:∀ z∈([k,v]:List Int),-1000000000<=z/\z<=1000000000) {xs:List Int} (gxs:IntsAt w0 vx xs) (xsn:∀ x∈xs,0<=x/\x<(vars.length:Int)) (xsl:xs.length<=64) (h:yf w0.heap.size b va L0 w) (hl:L0.length<=700000000) :
  Calls Tryz.prog 98 #[.pointer (some ⟨b,0,none⟩),.agg (sayC name lo hi kind 3 vt k v x y vx vb vr)] w fun e w'=>e=.returned (.tuple #[])/\yf w0.heap.size b va (((L0++(32 :: (⟨#[62,61]⟩:ByteArray).data.toList))++(Md.numsT [k,v]))++(Md.namesT vars xs)) w'/\Kq w0.heap.size w w':=by
 have HW:Hid (Way w0 w):=hw
 have HV:Hid (VarsAt w0 va vars):=hV
 have HNm:Hid (∀ v∈vars,v.name.data.toList.length<=16):=hn
 have HL:Hid (L0.length<=700000000):=hl
 have Hnums1:Hid (∀ z∈([k,v]:List Int),-1000000000<=z/\z<=1000000000):=nums1
 have Hgxs:Hid (IntsAt w0 vx xs):=gxs
 have Hxsn:Hid (∀ x∈xs,0<=x/\x<(vars.length:Int)):=xsn
 have Hxsl:Hid (xs.length<=64):=xsl
 have HT0:Hid ((32 :: (⟨#[62,61]⟩:ByteArray).data.toList).length<=20):=by show _<=_;decide
 have HT1:Hid ((Md.numsT [k,v]).length<=100000):=by
  have:=Md.flatMap_len (fun n=>32 :: Lib.itoa n) 22 [k,v] (fun z hz=>by have:=Md.itoa_len (Hnums1.out z hz);simpa using this)
  exact Nat.le_trans this (by show 22 * 2<=100000;decide)
 have HT2:Hid ((Md.namesT vars xs).length<=100000):=by
  have:=zl HNm.out Hxsn.out
  have h2:=Hxsl.out
  exact Nat.le_trans this (by omega)
 obtain ⟨W,hW⟩:∃ W,w.alloc (.cells (sayC name lo hi kind 3 vt k v x y vx vb vr) 74)=W:=⟨_,rfl⟩
 have HB:Hid (Bx w0 w w.heap.size (sayC name lo hi kind 3 vt k v x y vx vb vr) W.drew):=Bx.made _ HW.out.low.size hW
 have hp0:yf w0.heap.size b va L0 W.drew:=by rw [<-hW];exact zU (yj h _)
 obtain ⟨xa,xc,hvx,_⟩:=Hgxs.out.form
 subst hvx
 have HS0:Hid ((L0).length+(⟨#[62,61]⟩:ByteArray).size+1<=1000000000):=by
  show _<=_
  have hl:=HL.out
  have hs:=Nat.le_trans (Nat.le_of_eq (zg (⟨#[62,61]⟩))) (Nat.le_of_succ_le (by have:=HT0.out;rw [List.length_cons] at this;exact this))
  omega
 have HS1:Hid ((L0++(32 :: (⟨#[62,61]⟩:ByteArray).data.toList)).length+22 * ([k,v]:List Int).length<=900000000):=by
  show (L0++(32 :: (⟨#[62,61]⟩:ByteArray).data.toList)).length+22 * 2<=900000000
  have h0:=HT0.out
  have hl:=HL.out
  rw [List.length_append]
  omega
 have HS2:Hid (((L0++(32 :: (⟨#[62,61]⟩:ByteArray).data.toList))++(Md.numsT [k,v])).length+22 * xs.length<=900000000):=by
  show _<=_
  have h0:=HT0.out
  have h1:=HT1.out
  have hl:=HL.out
  have h9:=Hxsl.out
  rw [List.length_append,List.length_append]
  omega
 have HSx:Hid (∀ w',Bx w0 w w.heap.size (sayC name lo hi kind 3 vt k v x y (.slice xa xs.length xc) vb vr) w'->w'.cell? ⟨w.heap.size,4,none⟩=some (.int .i64 3)/\w'.cell? ⟨0,3,none⟩=some (.string ⟨#[62,61]⟩)/\w'.cell? ⟨w.heap.size,6,none⟩=some (.int .i64 k)/\w'.cell? ⟨w.heap.size,7,none⟩=some (.int .i64 v)/\w'.cell? ⟨w.heap.size,10,none⟩=some (.slice xa xs.length xc)/\Bx w0 w w.heap.size (sayC name lo hi kind 3 vt k v x y (.slice xa xs.length xc) vb vr) w'):=fun w' h=>⟨h.cell 4 _ rfl,(HW.out.next h.2.1).opw3,h.cell 6 _ rfl,h.cell 7 _ rfl,h.cell 10 _ rfl,h⟩
 clear hw hV hn hl nums1 gxs xsn xsl h
 unfold sayC
 go_enter Tryz.func98,Tryz.ntmps98
 go_wp2_with fail
 have hW':=hW
 unfold sayC at hW'
 try rw [hW']
 clear hW hW'
 go_region_held3 (fun w'=>w'.cell? ⟨w.heap.size,4,none⟩=some (.int .i64 3)/\w'.cell? ⟨0,3,none⟩=some (.string ⟨#[62,61]⟩)/\w'.cell? ⟨w.heap.size,6,none⟩=some (.int .i64 k)/\w'.cell? ⟨w.heap.size,7,none⟩=some (.int .i64 v)/\w'.cell? ⟨w.heap.size,10,none⟩=some (.slice xa xs.length xc)/\Bx w0 w w.heap.size (sayC name lo hi kind 3 vt k v x y (.slice xa xs.length xc) vb vr) w')
  (first | exact HSx.out _ HB.out | exact HSx.out _ (Bx.alloc (And.right (And.right (And.right (And.right (And.right (by assumption)))))) _) | exact HSx.out _ (Bx.kq (And.right (And.right (And.right (And.right (And.right (by assumption)))))) (by assumption)) | assumption)
  (first | (go_at_call 77;refine cZ (xo w0.heap.size b va (L0) ⟨#[62,61]⟩ _ ?_ HS0.out ?_) ?_;(first | exact hp0 | exact yj hp0 _ | exact yj (yj hp0 _) _);(have hq:=HW.out.next (And.left (And.right (And.right (And.right (And.right (And.right (And.right (by assumption))))))));exact hq.low.size);rintro e w1 ⟨rfl,hp1,hk1⟩) | (go_at_call 78;refine cZ (xg (w0:=w0) b va (L0++(32 :: (⟨#[62,61]⟩:ByteArray).data.toList)) (.slice (some ⟨_,0,none⟩) 2 2) [k,v] _ ?_ ?_ Hnums1.out ?_ HS1.out) ?_;exact HW.out.next (And.left (And.right (And.right (And.right (And.right (And.right (And.right (by assumption))))))));(refine LitL.ints (l:=[k,v]) ?_ (by simp);(first | exact yk _ [k,v] | exact (yk _ [k,v]).alloc _ | exact yE _ _ [k,v] | exact ((yk _ [k,v]).alloc _).alloc _ | exact (yE _ _ [k,v]).alloc _ | exact (yk _ [k,v]).kqd hk1 | exact (yk _ [k,v]).kq hk1 | exact ((yk _ [k,v]).alloc _).kqd hk1 | exact ((yk _ [k,v]).alloc _).kq hk1 | exact (yE _ _ [k,v]).kqd hk1 | exact (yE _ _ [k,v]).kq hk1));(first | exact hp1 | exact yj hp1 _ | exact yj (yj hp1 _) _);rintro e w2 ⟨rfl,hp2,hk2⟩) | (go_at_call 74;refine cZ (xq vars b va ((L0++(32 :: (⟨#[62,61]⟩:ByteArray).data.toList))++(Md.numsT [k,v])) (.slice xa xs.length xc) xs _ HV.out HNm.out ?_ ?_ Hxsn.out ?_ HS2.out) ?_;exact HW.out.next (And.left (And.right (And.right (And.right (And.right (And.right (And.right (by assumption))))))));(intro w9 hq;have hq0:=HW.out.next (And.left (And.right (And.right (And.right (And.right (And.right (And.right (by assumption))))))));exact Hgxs.out.below (hq0.next hq).low);(first | exact hp2 | exact yj hp2 _ | exact yj (yj hp2 _) _);rintro e w3 ⟨rfl,hp3,hk3⟩))
 all_goals
  have HK:Hid (Kq w0.heap.size w w3):=And.left (And.right (And.right (And.right (And.right (And.right (And.right (by assumption)))))))
  go_wp2_with fail
  go_end0
  exact ⟨rfl,hp3,HK.out⟩
theorem y34 {w0:World} (vars:List Md.Vr) (b:Nat) (va:Value) (L0:List UInt8) (name:ByteArray) (lo hi kind op:Int) (vt:Value) (k v x y:Int) (vx vb vr:Value) (w:World) (hV:VarsAt w0 va vars) (hn:∀ v∈vars,v.name.data.toList.length<=16) (hw:Way w0 w) (names0:∀ z∈([x,y]:List Int),0<=z/\z<(vars.length:Int)) (nums1:∀ z∈([k]:List Int),-1000000000<=z/\z<=1000000000) (h:yf w0.heap.size b va L0 w) (hl:L0.length<=700000000) :
  Calls Tryz.prog 86 #[.pointer (some ⟨b,0,none⟩),.agg (sayC name lo hi kind op vt k v x y vx vb vr)] w fun e w'=>e=.returned (.tuple #[])/\yf w0.heap.size b va ((L0++(Md.namesT vars [x,y]))++(Md.numsT [k])) w'/\Kq w0.heap.size w w':=by
 have HW:Hid (Way w0 w):=hw
 have HV:Hid (VarsAt w0 va vars):=hV
 have HNm:Hid (∀ v∈vars,v.name.data.toList.length<=16):=hn
 have HL:Hid (L0.length<=700000000):=hl
 have Hnames0:Hid (∀ z∈([x,y]:List Int),0<=z/\z<(vars.length:Int)):=names0
 have Hnums1:Hid (∀ z∈([k]:List Int),-1000000000<=z/\z<=1000000000):=nums1
 have HT0:Hid ((Md.namesT vars [x,y]).length<=100000):=by
  have:=zl HNm.out Hnames0.out
  exact Nat.le_trans this (by show 22 * 2<=100000;decide)
 have HT1:Hid ((Md.numsT [k]).length<=100000):=by
  have:=Md.flatMap_len (fun n=>32 :: Lib.itoa n) 22 [k] (fun z hz=>by have:=Md.itoa_len (Hnums1.out z hz);simpa using this)
  exact Nat.le_trans this (by show 22 * 1<=100000;decide)
 obtain ⟨W,hW⟩:∃ W,w.alloc (.cells (sayC name lo hi kind op vt k v x y vx vb vr) 74)=W:=⟨_,rfl⟩
 have HB:Hid (Bx w0 w w.heap.size (sayC name lo hi kind op vt k v x y vx vb vr) W.drew):=Bx.made _ HW.out.low.size hW
 have hp0:yf w0.heap.size b va L0 W.drew:=by rw [<-hW];exact zU (yj h _)
 have HS0:Hid ((L0).length+22 * ([x,y]:List Int).length<=900000000):=by
  show (L0).length+22 * 2<=900000000
  have hl:=HL.out
  omega
 have HS1:Hid ((L0++(Md.namesT vars [x,y])).length+22 * ([k]:List Int).length<=900000000):=by
  show (L0++(Md.namesT vars [x,y])).length+22 * 1<=900000000
  have h0:=HT0.out
  have hl:=HL.out
  rw [List.length_append]
  omega
 have HSx:Hid (∀ w',Bx w0 w w.heap.size (sayC name lo hi kind op vt k v x y vx vb vr) w'->w'.cell? ⟨w.heap.size,8,none⟩=some (.int .i64 x)/\w'.cell? ⟨w.heap.size,9,none⟩=some (.int .i64 y)/\w'.cell? ⟨w.heap.size,6,none⟩=some (.int .i64 k)/\Bx w0 w w.heap.size (sayC name lo hi kind op vt k v x y vx vb vr) w'):=fun w' h=>⟨h.cell 8 _ rfl,h.cell 9 _ rfl,h.cell 6 _ rfl,h⟩
 clear hw hV hn hl names0 nums1 h
 unfold sayC
 go_enter Tryz.func86,Tryz.ntmps86
 go_wp2_with fail
 have hW':=hW
 unfold sayC at hW'
 try rw [hW']
 clear hW hW'
 go_region_held3 (fun w'=>w'.cell? ⟨w.heap.size,8,none⟩=some (.int .i64 x)/\w'.cell? ⟨w.heap.size,9,none⟩=some (.int .i64 y)/\w'.cell? ⟨w.heap.size,6,none⟩=some (.int .i64 k)/\Bx w0 w w.heap.size (sayC name lo hi kind op vt k v x y vx vb vr) w')
  (first | exact HSx.out _ HB.out | exact HSx.out _ (Bx.alloc (And.right (And.right (And.right (by assumption)))) _) | exact HSx.out _ (Bx.kq (And.right (And.right (And.right (by assumption)))) (by assumption)) | assumption)
  (first | (go_at_call 74;refine cZ (xq vars b va (L0) (.slice (some ⟨_,0,none⟩) 2 2) [x,y] _ HV.out HNm.out ?_ ?_ Hnames0.out ?_ HS0.out) ?_;exact HW.out.next (And.left (And.right (And.right (And.right (And.right (by assumption))))));(refine LitL.ints (l:=[x,y]) ?_ (by simp);(first | exact yk _ [x,y] | exact (yk _ [x,y]).alloc _ | exact yE _ _ [x,y] | exact ((yk _ [x,y]).alloc _).alloc _ | exact (yE _ _ [x,y]).alloc _));(first | exact hp0 | exact yj hp0 _ | exact yj (yj hp0 _) _);rintro e w1 ⟨rfl,hp1,hk1⟩) | (go_at_call 78;refine cZ (xg (w0:=w0) b va (L0++(Md.namesT vars [x,y])) (.slice (some ⟨_,0,none⟩) 1 1) [k] _ ?_ ?_ Hnums1.out ?_ HS1.out) ?_;exact HW.out.next (And.left (And.right (And.right (And.right (And.right (by assumption))))));(refine LitL.ints (l:=[k]) ?_ (by simp);(first | exact yk _ [k] | exact (yk _ [k]).alloc _ | exact yE _ _ [k] | exact ((yk _ [k]).alloc _).alloc _ | exact (yE _ _ [k]).alloc _ | exact (yk _ [k]).kqd hk1 | exact (yk _ [k]).kq hk1 | exact ((yk _ [k]).alloc _).kqd hk1 | exact ((yk _ [k]).alloc _).kq hk1 | exact (yE _ _ [k]).kqd hk1 | exact (yE _ _ [k]).kq hk1));(first | exact hp1 | exact yj hp1 _ | exact yj (yj hp1 _) _);rintro e w2 ⟨rfl,hp2,hk2⟩))
 all_goals
  have HK:Hid (Kq w0.heap.size w w2):=And.left (And.right (And.right (And.right (And.right (by assumption)))))
  go_wp2_with fail
  go_end0
  exact ⟨rfl,hp2,HK.out⟩
theorem y36 {w0:World} (vars:List Md.Vr) (b:Nat) (va:Value) (L0:List UInt8) (name:ByteArray) (lo hi kind op:Int) (vt:Value) (k v x y:Int) (vx vb vr:Value) (w:World) (hV:VarsAt w0 va vars) (hn:∀ v∈vars,v.name.data.toList.length<=16) (hw:Way w0 w) {xs:List Int} (gxs:IntsAt w0 vx xs) (xsn:∀ x∈xs,0<=x/\x<(vars.length:Int)) (xsl:xs.length<=64) (h:yf w0.heap.size b va L0 w) (hl:L0.length<=700000000) :
  Calls Tryz.prog 88 #[.pointer (some ⟨b,0,none⟩),.agg (sayC name lo hi kind op vt k v x y vx vb vr)] w fun e w'=>e=.returned (.tuple #[])/\yf w0.heap.size b va (L0++(Md.namesT vars xs)) w'/\Kq w0.heap.size w w':=by
 have HW:Hid (Way w0 w):=hw
 have HV:Hid (VarsAt w0 va vars):=hV
 have HNm:Hid (∀ v∈vars,v.name.data.toList.length<=16):=hn
 have HL:Hid (L0.length<=700000000):=hl
 have Hgxs:Hid (IntsAt w0 vx xs):=gxs
 have Hxsn:Hid (∀ x∈xs,0<=x/\x<(vars.length:Int)):=xsn
 have Hxsl:Hid (xs.length<=64):=xsl
 have HT0:Hid ((Md.namesT vars xs).length<=100000):=by
  have:=zl HNm.out Hxsn.out
  have h2:=Hxsl.out
  exact Nat.le_trans this (by omega)
 obtain ⟨xa,xc,hvx,_⟩:=Hgxs.out.form
 subst hvx
 have HS0:Hid ((L0).length+22 * xs.length<=900000000):=by
  show _<=_
  have hl:=HL.out
  have h9:=Hxsl.out
  omega
 clear hw hV hn hl gxs xsn xsl
 have HPg:Hid (yf w0.heap.size b va L0 w):=h
 clear h
 unfold sayC
 obtain ⟨W,hW⟩:∃ W,w.alloc (.cells (sayC name lo hi kind op vt k v x y (.slice xa xs.length xc) vb vr) 74)=W:=⟨_,rfl⟩
 have HB:Hid (Bx w0 w w.heap.size (sayC name lo hi kind op vt k v x y (.slice xa xs.length xc) vb vr) W.drew):=Bx.made _ HW.out.low.size hW
 have HPW:Hid (yf w0.heap.size b va L0 W):=by show yf _ _ _ _ _;rw [<-hW];exact yj HPg.out _
 have HKW:Hid (Kq w0.heap.size w W):=by show Kq _ _ _;rw [<-hW];exact Yb (Kq.refl _ _) HW.out.low.size _
 have c10:W.cell? ⟨w.heap.size,10,none⟩=some (.slice xa xs.length xc):=HB.out.cell 10 _ rfl
 unfold sayC at hW
 go_enter Tryz.func88,Tryz.ntmps88
 go_wp2_with (first | (go_at_call 74;refine cZ (xq vars b va L0 (.slice xa xs.length xc) xs W HV.out HNm.out (HW.out.next HKW.out) (fun w9 hq=>Hgxs.out.below (HW.out.next (HKW.out.trans hq)).low) Hxsn.out HPW.out HS0.out) ?_;rintro e w1 ⟨rfl,hp1,hk1⟩;have HP1:Hid (yf w0.heap.size b va (L0++(Md.namesT vars xs)) w1):=hp1;have HK1:Hid (Kq w0.heap.size w w1):=HKW.out.trans hk1;clear hp1 hk1))
 go_end0
 exact ⟨rfl,HP1.out,HK1.out⟩
theorem y38 {w0:World} (vars:List Md.Vr) (b:Nat) (va:Value) (L0:List UInt8) (name:ByteArray) (lo hi kind op:Int) (vt:Value) (k v x y:Int) (vx vb vr:Value) (w:World) (hV:VarsAt w0 va vars) (hn:∀ v∈vars,v.name.data.toList.length<=16) (hw:Way w0 w) (names0:∀ z∈([x,y]:List Int),0<=z/\z<(vars.length:Int)) {tb:List Int} (gtb:IntsAt w0 vb tb) (tbn:∀ x∈tb,-1000000000<=x/\x<=1000000000) (tbl:tb.length<=64) (h:yf w0.heap.size b va L0 w) (hl:L0.length<=700000000) :
  Calls Tryz.prog 91 #[.pointer (some ⟨b,0,none⟩),.agg (sayC name lo hi kind op vt k v x y vx vb vr)] w fun e w'=>e=.returned (.tuple #[])/\yf w0.heap.size b va ((L0++(Md.namesT vars [x,y]))++(Md.numsT tb)) w'/\Kq w0.heap.size w w':=by
 have HW:Hid (Way w0 w):=hw
 have HV:Hid (VarsAt w0 va vars):=hV
 have HNm:Hid (∀ v∈vars,v.name.data.toList.length<=16):=hn
 have HL:Hid (L0.length<=700000000):=hl
 have Hnames0:Hid (∀ z∈([x,y]:List Int),0<=z/\z<(vars.length:Int)):=names0
 have Hgtb:Hid (IntsAt w0 vb tb):=gtb
 have Htbn:Hid (∀ x∈tb,-1000000000<=x/\x<=1000000000):=tbn
 have Htbl:Hid (tb.length<=64):=tbl
 have HT0:Hid ((Md.namesT vars [x,y]).length<=100000):=by
  have:=zl HNm.out Hnames0.out
  exact Nat.le_trans this (by show 22 * 2<=100000;decide)
 have HT1:Hid ((Md.numsT tb).length<=100000):=by
  have:=Md.flatMap_len (fun n=>32 :: Lib.itoa n) 22 tb (fun x hx=>by have:=Md.itoa_len (Htbn.out x hx);simpa using this)
  have h2:=Htbl.out
  exact Nat.le_trans this (by omega)
 obtain ⟨W,hW⟩:∃ W,w.alloc (.cells (sayC name lo hi kind op vt k v x y vx vb vr) 74)=W:=⟨_,rfl⟩
 have HB:Hid (Bx w0 w w.heap.size (sayC name lo hi kind op vt k v x y vx vb vr) W.drew):=Bx.made _ HW.out.low.size hW
 have hp0:yf w0.heap.size b va L0 W.drew:=by rw [<-hW];exact zU (yj h _)
 obtain ⟨ba,bc,hvb,_⟩:=Hgtb.out.form
 subst hvb
 have HS0:Hid ((L0).length+22 * ([x,y]:List Int).length<=900000000):=by
  show (L0).length+22 * 2<=900000000
  have hl:=HL.out
  omega
 have HS1:Hid ((L0++(Md.namesT vars [x,y])).length+22 * tb.length<=900000000):=by
  show _<=_
  have h0:=HT0.out
  have hl:=HL.out
  have h9:=Htbl.out
  rw [List.length_append]
  omega
 have HSx:Hid (∀ w',Bx w0 w w.heap.size (sayC name lo hi kind op vt k v x y vx (.slice ba tb.length bc) vr) w'->w'.cell? ⟨w.heap.size,8,none⟩=some (.int .i64 x)/\w'.cell? ⟨w.heap.size,9,none⟩=some (.int .i64 y)/\w'.cell? ⟨w.heap.size,11,none⟩=some (.slice ba tb.length bc)/\Bx w0 w w.heap.size (sayC name lo hi kind op vt k v x y vx (.slice ba tb.length bc) vr) w'):=fun w' h=>⟨h.cell 8 _ rfl,h.cell 9 _ rfl,h.cell 11 _ rfl,h⟩
 clear hw hV hn hl names0 gtb tbn tbl h
 unfold sayC
 go_enter Tryz.func91,Tryz.ntmps91
 go_wp2_with fail
 have hW':=hW
 unfold sayC at hW'
 try rw [hW']
 clear hW hW'
 go_region_held3 (fun w'=>w'.cell? ⟨w.heap.size,8,none⟩=some (.int .i64 x)/\w'.cell? ⟨w.heap.size,9,none⟩=some (.int .i64 y)/\w'.cell? ⟨w.heap.size,11,none⟩=some (.slice ba tb.length bc)/\Bx w0 w w.heap.size (sayC name lo hi kind op vt k v x y vx (.slice ba tb.length bc) vr) w')
  (first | exact HSx.out _ HB.out | exact HSx.out _ (Bx.alloc (And.right (And.right (And.right (by assumption)))) _) | exact HSx.out _ (Bx.kq (And.right (And.right (And.right (by assumption)))) (by assumption)) | assumption)
  (first | (go_at_call 74;refine cZ (xq vars b va (L0) (.slice (some ⟨_,0,none⟩) 2 2) [x,y] _ HV.out HNm.out ?_ ?_ Hnames0.out ?_ HS0.out) ?_;exact HW.out.next (And.left (And.right (And.right (And.right (And.right (by assumption))))));(refine LitL.ints (l:=[x,y]) ?_ (by simp);(first | exact yk _ [x,y] | exact (yk _ [x,y]).alloc _ | exact yE _ _ [x,y] | exact ((yk _ [x,y]).alloc _).alloc _ | exact (yE _ _ [x,y]).alloc _));(first | exact hp0 | exact yj hp0 _ | exact yj (yj hp0 _) _);rintro e w1 ⟨rfl,hp1,hk1⟩) | (go_at_call 78;refine cZ (xg (w0:=w0) b va (L0++(Md.namesT vars [x,y])) (.slice ba tb.length bc) tb _ ?_ ?_ Htbn.out ?_ HS1.out) ?_;exact HW.out.next (And.left (And.right (And.right (And.right (And.right (by assumption))))));(intro w9 hq;have hq0:=HW.out.next (And.left (And.right (And.right (And.right (And.right (by assumption))))));exact Hgtb.out.below (hq0.next hq).low);(first | exact hp1 | exact yj hp1 _ | exact yj (yj hp1 _) _);rintro e w2 ⟨rfl,hp2,hk2⟩))
 all_goals
  have HK:Hid (Kq w0.heap.size w w2):=And.left (And.right (And.right (And.right (And.right (by assumption)))))
  go_wp2_with fail
  go_end0
  exact ⟨rfl,hp2,HK.out⟩
theorem Qs {w0:World} (vars:List Md.Vr) (b:Nat) (va:Value) (L0:List UInt8) (name:ByteArray) (lo hi kind op:Int) (vt:Value) (k v x y:Int) (vx vb vr:Value) (w:World) (hV:VarsAt w0 va vars) (hn:∀ v∈vars,v.name.data.toList.length<=16) (hw:Way w0 w) (names0:∀ z∈([y]:List Int),0<=z/\z<(vars.length:Int)) {xs:List Int} (gxs:IntsAt w0 vx xs) (xsn:∀ x∈xs,0<=x/\x<(vars.length:Int)) (xsl:xs.length<=64) (h:yf w0.heap.size b va L0 w) (hl:L0.length<=700000000) :
  Calls Tryz.prog 73 #[.pointer (some ⟨b,0,none⟩),.agg (sayC name lo hi kind op vt k v x y vx vb vr)] w fun e w'=>e=.returned (.tuple #[])/\yf w0.heap.size b va ((L0++(Md.namesT vars [y]))++(Md.namesT vars xs)) w'/\Kq w0.heap.size w w':=by
 have HW:Hid (Way w0 w):=hw
 have HV:Hid (VarsAt w0 va vars):=hV
 have HNm:Hid (∀ v∈vars,v.name.data.toList.length<=16):=hn
 have HL:Hid (L0.length<=700000000):=hl
 have Hnames0:Hid (∀ z∈([y]:List Int),0<=z/\z<(vars.length:Int)):=names0
 have Hgxs:Hid (IntsAt w0 vx xs):=gxs
 have Hxsn:Hid (∀ x∈xs,0<=x/\x<(vars.length:Int)):=xsn
 have Hxsl:Hid (xs.length<=64):=xsl
 have HT0:Hid ((Md.namesT vars [y]).length<=100000):=by
  have:=zl HNm.out Hnames0.out
  exact Nat.le_trans this (by show 22 * 1<=100000;decide)
 have HT1:Hid ((Md.namesT vars xs).length<=100000):=by
  have:=zl HNm.out Hxsn.out
  have h2:=Hxsl.out
  exact Nat.le_trans this (by omega)
 obtain ⟨W,hW⟩:∃ W,w.alloc (.cells (sayC name lo hi kind op vt k v x y vx vb vr) 74)=W:=⟨_,rfl⟩
 have HB:Hid (Bx w0 w w.heap.size (sayC name lo hi kind op vt k v x y vx vb vr) W.drew):=Bx.made _ HW.out.low.size hW
 have hp0:yf w0.heap.size b va L0 W.drew:=by rw [<-hW];exact zU (yj h _)
 obtain ⟨xa,xc,hvx,_⟩:=Hgxs.out.form
 subst hvx
 have HS0:Hid ((L0).length+22 * ([y]:List Int).length<=900000000):=by
  show (L0).length+22 * 1<=900000000
  have hl:=HL.out
  omega
 have HS1:Hid ((L0++(Md.namesT vars [y])).length+22 * xs.length<=900000000):=by
  show _<=_
  have h0:=HT0.out
  have hl:=HL.out
  have h9:=Hxsl.out
  rw [List.length_append]
  omega
 have HSx:Hid (∀ w',Bx w0 w w.heap.size (sayC name lo hi kind op vt k v x y (.slice xa xs.length xc) vb vr) w'->w'.cell? ⟨w.heap.size,9,none⟩=some (.int .i64 y)/\w'.cell? ⟨w.heap.size,10,none⟩=some (.slice xa xs.length xc)/\Bx w0 w w.heap.size (sayC name lo hi kind op vt k v x y (.slice xa xs.length xc) vb vr) w'):=fun w' h=>⟨h.cell 9 _ rfl,h.cell 10 _ rfl,h⟩
 clear hw hV hn hl names0 gxs xsn xsl h
 unfold sayC
 go_enter Tryz.func73,Tryz.ntmps73
 go_wp2_with fail
 have hW':=hW
 unfold sayC at hW'
 try rw [hW']
 clear hW hW'
 go_region_held3 (fun w'=>w'.cell? ⟨w.heap.size,9,none⟩=some (.int .i64 y)/\w'.cell? ⟨w.heap.size,10,none⟩=some (.slice xa xs.length xc)/\Bx w0 w w.heap.size (sayC name lo hi kind op vt k v x y (.slice xa xs.length xc) vb vr) w')
  (first | exact HSx.out _ HB.out | exact HSx.out _ (Bx.alloc (And.right (And.right (by assumption))) _) | exact HSx.out _ (Bx.kq (And.right (And.right (by assumption))) (by assumption)) | assumption)
  (first | (go_at_call 74;refine cZ (xq vars b va (L0) (.slice (some ⟨_,0,none⟩) 1 1) [y] _ HV.out HNm.out ?_ ?_ Hnames0.out ?_ HS0.out) ?_;exact HW.out.next (And.left (And.right (And.right (And.right (by assumption)))));(refine LitL.ints (l:=[y]) ?_ (by simp);(first | exact yk _ [y] | exact (yk _ [y]).alloc _ | exact yE _ _ [y] | exact ((yk _ [y]).alloc _).alloc _ | exact (yE _ _ [y]).alloc _));(first | exact hp0 | exact yj hp0 _ | exact yj (yj hp0 _) _);rintro e w1 ⟨rfl,hp1,hk1⟩) | (go_at_call 74;refine cZ (xq vars b va (L0++(Md.namesT vars [y])) (.slice xa xs.length xc) xs _ HV.out HNm.out ?_ ?_ Hxsn.out ?_ HS1.out) ?_;exact HW.out.next (And.left (And.right (And.right (And.right (by assumption)))));(intro w9 hq;have hq0:=HW.out.next (And.left (And.right (And.right (And.right (by assumption)))));exact Hgxs.out.below (hq0.next hq).low);(first | exact hp1 | exact yj hp1 _ | exact yj (yj hp1 _) _);rintro e w2 ⟨rfl,hp2,hk2⟩))
 all_goals
  have HK:Hid (Kq w0.heap.size w w2):=And.left (And.right (And.right (And.right (by assumption))))
  go_wp2_with fail
  go_end0
  exact ⟨rfl,hp2,HK.out⟩
theorem y3c {w0:World} (vars:List Md.Vr) (b:Nat) (va:Value) (L0:List UInt8) (name:ByteArray) (lo hi kind op:Int) (vt:Value) (k v x y:Int) (vx vb vr:Value) (w:World) (hV:VarsAt w0 va vars) (hn:∀ v∈vars,v.name.data.toList.length<=16) (hw:Way w0 w) (names0:∀ z∈([x]:List Int),0<=z/\z<(vars.length:Int)) (nums2:∀ z∈([k]:List Int),-1000000000<=z/\z<=1000000000) {ts:List (Int × Int)} (gts:TermsAt w0 vt ts) (tsx:∀ t∈ts,0<=t.2/\t.2<(vars.length:Int)) (tsc:∀ t∈ts,-1000000<=t.1/\t.1<=1000000) (tsl:ts.length<=64) (h:yf w0.heap.size b va L0 w) (hl:L0.length<=700000000) :
  Calls Tryz.prog 93 #[.pointer (some ⟨b,0,none⟩),.agg (sayC name lo hi kind op vt k v x y vx vb vr)] w fun e w'=>e=.returned (.tuple #[])/\yf w0.heap.size b va ((((L0++(Md.namesT vars [x]))++(32 :: (⟨#[60,61]⟩:ByteArray).data.toList))++(Md.numsT [k]))++(Md.sumT vars ts)) w'/\Kq w0.heap.size w w':=by
 have HW:Hid (Way w0 w):=hw
 have HV:Hid (VarsAt w0 va vars):=hV
 have HNm:Hid (∀ v∈vars,v.name.data.toList.length<=16):=hn
 have HL:Hid (L0.length<=700000000):=hl
 have Hnames0:Hid (∀ z∈([x]:List Int),0<=z/\z<(vars.length:Int)):=names0
 have Hnums2:Hid (∀ z∈([k]:List Int),-1000000000<=z/\z<=1000000000):=nums2
 have Hgts:Hid (TermsAt w0 vt ts):=gts
 have Htsx:Hid (∀ t∈ts,0<=t.2/\t.2<(vars.length:Int)):=tsx
 have Htsc:Hid (∀ t∈ts,-1000000<=t.1/\t.1<=1000000):=tsc
 have Htsl:Hid (ts.length<=64):=tsl
 have HT0:Hid ((Md.namesT vars [x]).length<=100000):=by
  have:=zl HNm.out Hnames0.out
  exact Nat.le_trans this (by show 22 * 1<=100000;decide)
 have HT1:Hid ((32 :: (⟨#[60,61]⟩:ByteArray).data.toList).length<=20):=by show _<=_;decide
 have HT2:Hid ((Md.numsT [k]).length<=100000):=by
  have:=Md.flatMap_len (fun n=>32 :: Lib.itoa n) 22 [k] (fun z hz=>by have:=Md.itoa_len (Hnums2.out z hz);simpa using this)
  exact Nat.le_trans this (by show 22 * 1<=100000;decide)
 obtain ⟨W,hW⟩:∃ W,w.alloc (.cells (sayC name lo hi kind op vt k v x y vx vb vr) 74)=W:=⟨_,rfl⟩
 have HB:Hid (Bx w0 w w.heap.size (sayC name lo hi kind op vt k v x y vx vb vr) W.drew):=Bx.made _ HW.out.low.size hW
 have hp0:yf w0.heap.size b va L0 W.drew:=by rw [<-hW];exact zU (yj h _)
 obtain ⟨ta,tc,hvt,_⟩:=Hgts.out.form
 subst hvt
 have HS0:Hid ((L0).length+22 * ([x]:List Int).length<=900000000):=by
  show (L0).length+22 * 1<=900000000
  have hl:=HL.out
  omega
 have HS1:Hid ((L0++(Md.namesT vars [x])).length+(⟨#[60,61]⟩:ByteArray).size+1<=1000000000):=by
  show _<=_
  have h0:=HT0.out
  have hl:=HL.out
  have hs:=Nat.le_trans (Nat.le_of_eq (zg (⟨#[60,61]⟩))) (Nat.le_of_succ_le (by have:=HT1.out;rw [List.length_cons] at this;exact this))
  rw [List.length_append]
  omega
 have HS2:Hid (((L0++(Md.namesT vars [x]))++(32 :: (⟨#[60,61]⟩:ByteArray).data.toList)).length+22 * ([k]:List Int).length<=900000000):=by
  show ((L0++(Md.namesT vars [x]))++(32 :: (⟨#[60,61]⟩:ByteArray).data.toList)).length+22 * 1<=900000000
  have h0:=HT0.out
  have h1:=HT1.out
  have hl:=HL.out
  rw [List.length_append,List.length_append]
  omega
 have HS3:Hid ((((L0++(Md.namesT vars [x]))++(32 :: (⟨#[60,61]⟩:ByteArray).data.toList))++(Md.numsT [k])).length+44 * ts.length<=800000000):=by
  show _<=_
  have h0:=HT0.out
  have h1:=HT1.out
  have h2:=HT2.out
  have hl:=HL.out
  have h9:=Htsl.out
  rw [List.length_append,List.length_append,List.length_append]
  omega
 have HSx:Hid (∀ w',Bx w0 w w.heap.size (sayC name lo hi kind op (.slice ta ts.length tc) k v x y vx vb vr) w'->w'.cell? ⟨w.heap.size,8,none⟩=some (.int .i64 x)/\w'.cell? ⟨0,1,none⟩=some (.string ⟨#[60,61]⟩)/\w'.cell? ⟨w.heap.size,6,none⟩=some (.int .i64 k)/\w'.cell? ⟨w.heap.size,5,none⟩=some (.slice ta ts.length tc)/\Bx w0 w w.heap.size (sayC name lo hi kind op (.slice ta ts.length tc) k v x y vx vb vr) w'):=fun w' h=>⟨h.cell 8 _ rfl,(HW.out.next h.2.1).opw1,h.cell 6 _ rfl,h.cell 5 _ rfl,h⟩
 clear hw hV hn hl names0 nums2 gts tsx tsc tsl h
 unfold sayC
 go_enter Tryz.func93,Tryz.ntmps93
 go_wp2_with fail
 have hW':=hW
 unfold sayC at hW'
 try rw [hW']
 clear hW hW'
 go_region_held3 (fun w'=>w'.cell? ⟨w.heap.size,8,none⟩=some (.int .i64 x)/\w'.cell? ⟨0,1,none⟩=some (.string ⟨#[60,61]⟩)/\w'.cell? ⟨w.heap.size,6,none⟩=some (.int .i64 k)/\w'.cell? ⟨w.heap.size,5,none⟩=some (.slice ta ts.length tc)/\Bx w0 w w.heap.size (sayC name lo hi kind op (.slice ta ts.length tc) k v x y vx vb vr) w')
  (first | exact HSx.out _ HB.out | exact HSx.out _ (Bx.alloc (And.right (And.right (And.right (And.right (by assumption))))) _) | exact HSx.out _ (Bx.kq (And.right (And.right (And.right (And.right (by assumption))))) (by assumption)) | assumption)
  (first | (go_at_call 74;refine cZ (xq vars b va (L0) (.slice (some ⟨_,0,none⟩) 1 1) [x] _ HV.out HNm.out ?_ ?_ Hnames0.out ?_ HS0.out) ?_;exact HW.out.next (And.left (And.right (And.right (And.right (And.right (And.right (by assumption)))))));(refine LitL.ints (l:=[x]) ?_ (by simp);(first | exact yk _ [x] | exact (yk _ [x]).alloc _ | exact yE _ _ [x] | exact ((yk _ [x]).alloc _).alloc _ | exact (yE _ _ [x]).alloc _));(first | exact hp0 | exact yj hp0 _ | exact yj (yj hp0 _) _);rintro e w1 ⟨rfl,hp1,hk1⟩) | (go_at_call 77;refine cZ (xo w0.heap.size b va (L0++(Md.namesT vars [x])) ⟨#[60,61]⟩ _ ?_ HS1.out ?_) ?_;(first | exact hp1 | exact yj hp1 _ | exact yj (yj hp1 _) _);(have hq:=HW.out.next (And.left (And.right (And.right (And.right (And.right (And.right (by assumption)))))));exact hq.low.size);rintro e w2 ⟨rfl,hp2,hk2⟩) | (go_at_call 78;refine cZ (xg (w0:=w0) b va ((L0++(Md.namesT vars [x]))++(32 :: (⟨#[60,61]⟩:ByteArray).data.toList)) (.slice (some ⟨_,0,none⟩) 1 1) [k] _ ?_ ?_ Hnums2.out ?_ HS2.out) ?_;exact HW.out.next (And.left (And.right (And.right (And.right (And.right (And.right (by assumption)))))));(refine LitL.ints (l:=[k]) ?_ (by simp);(first | exact yk _ [k] | exact (yk _ [k]).alloc _ | exact yE _ _ [k] | exact ((yk _ [k]).alloc _).alloc _ | exact (yE _ _ [k]).alloc _ | exact (yk _ [k]).kqd hk2 | exact (yk _ [k]).kq hk2 | exact ((yk _ [k]).alloc _).kqd hk2 | exact ((yk _ [k]).alloc _).kq hk2 | exact (yE _ _ [k]).kqd hk2 | exact (yE _ _ [k]).kq hk2 | exact ((yk _ [k]).kqd hk1).kq hk2 | exact ((yk _ [k]).kq hk1).kq hk2 | exact (((yk _ [k]).alloc _).kqd hk1).kq hk2 | exact (((yk _ [k]).alloc _).kq hk1).kq hk2 | exact ((yE _ _ [k]).kqd hk1).kq hk2 | exact ((yE _ _ [k]).kq hk1).kq hk2));(first | exact hp2 | exact yj hp2 _ | exact yj (yj hp2 _) _);rintro e w3 ⟨rfl,hp3,hk3⟩) | (go_at_call 84;refine cZ (YS vars b va (((L0++(Md.namesT vars [x]))++(32 :: (⟨#[60,61]⟩:ByteArray).data.toList))++(Md.numsT [k])) (.slice ta ts.length tc) ts _ HV.out HNm.out ?_ Hgts.out Htsx.out Htsc.out ?_ HS3.out) ?_;exact HW.out.next (And.left (And.right (And.right (And.right (And.right (And.right (by assumption)))))));(first | exact hp3 | exact yj hp3 _ | exact yj (yj hp3 _) _);rintro e w4 ⟨rfl,hp4,hk4⟩))
 all_goals
  have HK:Hid (Kq w0.heap.size w w4):=And.left (And.right (And.right (And.right (And.right (And.right (by assumption))))))
  go_wp2_with fail
  go_end0
  exact ⟨rfl,hp4,HK.out⟩
theorem y3e {w0:World} (vars:List Md.Vr) (b:Nat) (va:Value) (L0:List UInt8) (name:ByteArray) (lo hi kind op:Int) (vt:Value) (k v x y:Int) (vx vb vr:Value) (w:World) (hV:VarsAt w0 va vars) (hn:∀ v∈vars,v.name.data.toList.length<=16) (hw:Way w0 w) {xs:List Int} (gxs:IntsAt w0 vx xs) (xsn:∀ x∈xs,0<=x/\x<(vars.length:Int)) (xsl:xs.length<=64) {rs:List (List Int)} (grs:RowsAt w0 vr rs) (rsn:∀ r∈rs,r.length<=64/\∀ x∈r,-1000000000<=x/\x<=1000000000) (rsl:rs.length<=64) (h:yf w0.heap.size b va L0 w) (hl:L0.length<=700000000) :
  Calls Tryz.prog 95 #[.pointer (some ⟨b,0,none⟩),.agg (sayC name lo hi kind op vt k v x y vx vb vr)] w fun e w'=>e=.returned (.tuple #[])/\yf w0.heap.size b va ((L0++(Md.namesT vars xs))++(Md.rowsT rs)) w'/\Kq w0.heap.size w w':=by
 have HW:Hid (Way w0 w):=hw
 have HV:Hid (VarsAt w0 va vars):=hV
 have HNm:Hid (∀ v∈vars,v.name.data.toList.length<=16):=hn
 have HL:Hid (L0.length<=700000000):=hl
 have Hgxs:Hid (IntsAt w0 vx xs):=gxs
 have Hxsn:Hid (∀ x∈xs,0<=x/\x<(vars.length:Int)):=xsn
 have Hxsl:Hid (xs.length<=64):=xsl
 have Hgrs:Hid (RowsAt w0 vr rs):=grs
 have Hrsn:Hid (∀ r∈rs,r.length<=64/\∀ x∈r,-1000000000<=x/\x<=1000000000):=rsn
 have Hrsl:Hid (rs.length<=64):=rsl
 have HT0:Hid ((Md.namesT vars xs).length<=100000):=by
  have:=zl HNm.out Hxsn.out
  have h2:=Hxsl.out
  exact Nat.le_trans this (by omega)
 obtain ⟨W,hW⟩:∃ W,w.alloc (.cells (sayC name lo hi kind op vt k v x y vx vb vr) 74)=W:=⟨_,rfl⟩
 have HB:Hid (Bx w0 w w.heap.size (sayC name lo hi kind op vt k v x y vx vb vr) W.drew):=Bx.made _ HW.out.low.size hW
 have hp0:yf w0.heap.size b va L0 W.drew:=by rw [<-hW];exact zU (yj h _)
 obtain ⟨xa,xc,hvx,_⟩:=Hgxs.out.form
 subst hvx
 obtain ⟨ra,rc,hvr,_⟩:=Hgrs.out.form
 subst hvr
 have HS0:Hid ((L0).length+22 * xs.length<=900000000):=by
  show _<=_
  have hl:=HL.out
  have h9:=Hxsl.out
  omega
 have HS1:Hid ((L0++(Md.namesT vars xs)).length+1410 * rs.length<=800000000):=by
  show _<=_
  have h0:=HT0.out
  have hl:=HL.out
  have h9:=Hrsl.out
  rw [List.length_append]
  omega
 have HSx:Hid (∀ w',Bx w0 w w.heap.size (sayC name lo hi kind op vt k v x y (.slice xa xs.length xc) vb (.slice ra rs.length rc)) w'->w'.cell? ⟨w.heap.size,10,none⟩=some (.slice xa xs.length xc)/\w'.cell? ⟨w.heap.size,12,none⟩=some (.slice ra rs.length rc)/\Bx w0 w w.heap.size (sayC name lo hi kind op vt k v x y (.slice xa xs.length xc) vb (.slice ra rs.length rc)) w'):=fun w' h=>⟨h.cell 10 _ rfl,h.cell 12 _ rfl,h⟩
 clear hw hV hn hl gxs xsn xsl grs rsn rsl h
 unfold sayC
 go_enter Tryz.func95,Tryz.ntmps95
 go_wp2_with fail
 have hW':=hW
 unfold sayC at hW'
 try rw [hW']
 clear hW hW'
 go_region_held3 (fun w'=>w'.cell? ⟨w.heap.size,10,none⟩=some (.slice xa xs.length xc)/\w'.cell? ⟨w.heap.size,12,none⟩=some (.slice ra rs.length rc)/\Bx w0 w w.heap.size (sayC name lo hi kind op vt k v x y (.slice xa xs.length xc) vb (.slice ra rs.length rc)) w')
  (first | exact HSx.out _ HB.out | exact HSx.out _ (Bx.alloc (And.right (And.right (by assumption))) _) | exact HSx.out _ (Bx.kq (And.right (And.right (by assumption))) (by assumption)) | assumption)
  (first | (go_at_call 74;refine cZ (xq vars b va (L0) (.slice xa xs.length xc) xs _ HV.out HNm.out ?_ ?_ Hxsn.out ?_ HS0.out) ?_;exact HW.out.next (And.left (And.right (And.right (And.right (by assumption)))));(intro w9 hq;have hq0:=HW.out.next (And.left (And.right (And.right (And.right (by assumption)))));exact Hgxs.out.below (hq0.next hq).low);(first | exact hp0 | exact yj hp0 _ | exact yj (yj hp0 _) _);rintro e w1 ⟨rfl,hp1,hk1⟩) | (go_at_call 96;refine cZ (y3k (w0:=w0) b va (L0++(Md.namesT vars xs)) (.slice ra rs.length rc) rs _ ?_ Hgrs.out Hrsn.out ?_ HS1.out) ?_;exact HW.out.next (And.left (And.right (And.right (And.right (by assumption)))));(first | exact hp1 | exact yj hp1 _ | exact yj (yj hp1 _) _);rintro e w2 ⟨rfl,hp2,hk2⟩))
 all_goals
  have HK:Hid (Kq w0.heap.size w w2):=And.left (And.right (And.right (And.right (by assumption))))
  go_wp2_with fail
  go_end0
  exact ⟨rfl,hp2,HK.out⟩
theorem y3j {w0:World} (vars:List Md.Vr) (b:Nat) (va:Value) (L0:List UInt8) (name:ByteArray) (lo hi kind op:Int) (vt:Value) (k v x y:Int) (vx vb vr:Value) (w:World) (hV:VarsAt w0 va vars) (hn:∀ v∈vars,v.name.data.toList.length<=16) (hw:Way w0 w) {ts:List (Int × Int)} (gts:TermsAt w0 vt ts) (tsx:∀ t∈ts,0<=t.2/\t.2<(vars.length:Int)) (tsc:∀ t∈ts,-1000000<=t.1/\t.1<=1000000) (tsl:ts.length<=64) (h:yf w0.heap.size b va L0 w) (hl:L0.length<=700000000) :
  Calls Tryz.prog 100 #[.pointer (some ⟨b,0,none⟩),.agg (sayC name lo hi kind op vt k v x y vx vb vr)] w fun e w'=>e=.returned (.tuple #[])/\yf w0.heap.size b va (L0++(Md.sumT vars ts)) w'/\Kq w0.heap.size w w':=by
 have HW:Hid (Way w0 w):=hw
 have HV:Hid (VarsAt w0 va vars):=hV
 have HNm:Hid (∀ v∈vars,v.name.data.toList.length<=16):=hn
 have HL:Hid (L0.length<=700000000):=hl
 have Hgts:Hid (TermsAt w0 vt ts):=gts
 have Htsx:Hid (∀ t∈ts,0<=t.2/\t.2<(vars.length:Int)):=tsx
 have Htsc:Hid (∀ t∈ts,-1000000<=t.1/\t.1<=1000000):=tsc
 have Htsl:Hid (ts.length<=64):=tsl
 obtain ⟨ta,tc,hvt,_⟩:=Hgts.out.form
 subst hvt
 have HS0:Hid ((L0).length+44 * ts.length<=800000000):=by
  show _<=_
  have hl:=HL.out
  have h9:=Htsl.out
  omega
 clear hw hV hn hl gts tsx tsc tsl
 have HPg:Hid (yf w0.heap.size b va L0 w):=h
 clear h
 unfold sayC
 obtain ⟨W,hW⟩:∃ W,w.alloc (.cells (sayC name lo hi kind op (.slice ta ts.length tc) k v x y vx vb vr) 74)=W:=⟨_,rfl⟩
 have HB:Hid (Bx w0 w w.heap.size (sayC name lo hi kind op (.slice ta ts.length tc) k v x y vx vb vr) W.drew):=Bx.made _ HW.out.low.size hW
 have HPW:Hid (yf w0.heap.size b va L0 W):=by show yf _ _ _ _ _;rw [<-hW];exact yj HPg.out _
 have HKW:Hid (Kq w0.heap.size w W):=by show Kq _ _ _;rw [<-hW];exact Yb (Kq.refl _ _) HW.out.low.size _
 have c5:W.cell? ⟨w.heap.size,5,none⟩=some (.slice ta ts.length tc):=HB.out.cell 5 _ rfl
 unfold sayC at hW
 go_enter Tryz.func100,Tryz.ntmps100
 go_wp2_with (first | (go_at_call 84;refine cZ (YS vars b va L0 (.slice ta ts.length tc) ts W HV.out HNm.out (HW.out.next HKW.out) Hgts.out Htsx.out Htsc.out HPW.out HS0.out) ?_;rintro e w1 ⟨rfl,hp1,hk1⟩;have HP1:Hid (yf w0.heap.size b va (L0++(Md.sumT vars ts)) w1):=hp1;have HK1:Hid (Kq w0.heap.size w w1):=HKW.out.trans hk1;clear hp1 hk1))
 go_end0
 exact ⟨rfl,HP1.out,HK1.out⟩
end Go.Proofs.YthohnmplbjhjaaaGreatDoor
