/-
  Put together: PfWords, PfLits, PfPRow, PfWr, PfPPick, PfWrite, PfEqg, PfPsg, PfWr2, PfWr3, PfWr4, PfWr6, RsA.
-/
import Derived.Test.YtpcijhecaedkpaaGreatDoorJ14
import Derived.Test.YtpcijhecaedkpaaGreatDoorJ36
namespace Go.Proofs.YtpcijhecaedkpaaGreatDoor
open Go.RowKit
set_option maxRecDepth 10000
set_option maxHeartbeats 8000000
def Ext (B:Nat) (w:World) (g:Nat):Prop:=g<B∨∃ c ty fz,w.heap[g]?=some (.cells c ty fz)/\ty≠5/\ty≠191
theorem Ext.keep {B g:Nat} {w w':World} (h:Ext B w g) (k:Kq B w w'):w'.heap[g]?=w.heap[g]?:=by
  rcases h with h | ⟨c,ty,fz,h1,h2,h3⟩
  · exact k.low.block g h
  · exact (k.other g c ty fz h1 h2 h3).trans h1.symm
theorem Ext.next {B g:Nat} {w w':World} (h:Ext B w g) (k:Kq B w w'):Ext B w' g:=by
  have hk:=h.keep k;rcases h with h | ⟨c,ty,fz,h1,h2,h3⟩
  · exact .inl h
  · exact .inr ⟨c,ty,fz,hk.trans h1,h2,h3⟩
def RdE (B:Nat) (w:World) (v:Value) (n:Nat) (xs:List Value):Prop:=∃ a cap,v=.slice a n cap/\n<=9223372036854775807/\(0<n->∃ g off,a=some ⟨g,off,none⟩/\Ext B w g/\g<w.heap.size/\∀ j u,xs[j]?=some u->w.cell? ⟨g,off+j,none⟩=some u)
theorem RdE.next {B:Nat} {w w':World} {v:Value} {n:Nat} {xs:List Value} (h:RdE B w v n xs) (k:Kq B w w'):RdE B w' v n xs:=by
  obtain ⟨a,cap,h1,h2,h3⟩:=h;refine ⟨a,cap,h1,h2,fun h0=>?_⟩;obtain ⟨g,off,e1,e2,e3,e4⟩:=h3 h0;refine ⟨g,off,e1,e2.next k,Nat.lt_of_lt_of_le e3 k.low.size,fun j u hu=>?_⟩;have:=e4 j u hu;simp only [World.cell?] at this ⊢;rw [e2.keep k];exact this
theorem RdE.cell {B:Nat} {w:World} {a:Option Addr} {n cap:Nat} {xs:List Value} (h:RdE B w (.slice a n cap) n xs) (j:Nat) (hj:j<n):∃ g off,a=some ⟨g,off,none⟩/\∀ i u,xs[i]?=some u->w.cell? ⟨g,off+i,none⟩=some u:=by
  obtain ⟨a',cap',h1,h2,h3⟩:=h;injection h1 with q1 q2 q3;subst q1;obtain ⟨g,off,e1,_,_,e4⟩:=h3 (by omega);exact ⟨g,off,e1,e4⟩
def wordP (l x:List UInt8):List UInt8:=if 0<l.length then l++32 :: x else l++x
def wordsP (L:List (List UInt8)) (l:List UInt8):List UInt8:=L.foldl wordP l
def tot (L:List (List UInt8)):Nat:=(L.map fun x=>x.length+1).sum
theorem word_len (l x:List UInt8):(wordP l x).length<=l.length+x.length+1:=by unfold wordP;split <;> simp <;> omega
theorem words_len (L:List (List UInt8)) (l:List UInt8):(wordsP L l).length<=l.length+tot L:=by
  induction L generalizing l with
  | nil=>simp [wordsP,tot]
  | cons x L ih =>
    have h1:=ih (wordP l x);have h2:=word_len l x;have e1:wordsP (x :: L) l=wordsP L (wordP l x):=rfl;have e2:tot (x :: L)=x.length+1+tot L:=by simp [tot]
    rw [e1,e2];omega
theorem tot_take (L:List (List UInt8)) (i:Nat) (hi:i<L.length):tot (L.take i)+(L[i].length+1)<=tot L:=by
  have h:tot L=tot (L.take i)+tot (L.drop i):=by
    unfold tot;rw [<-List.sum_append,<-List.map_append,List.take_append_drop]
  have h2:tot (L.drop i)=L[i].length+1+tot (L.drop (i+1)):=by
    rw [List.drop_eq_getElem_cons hi];simp only [tot,List.map_cons,List.sum_cons]
  omega
theorem words_any {B b:Nat} {l:List UInt8} (L:List (List UInt8)) (v:Value) (w:World) (h:PageAt B b l w) (hR:RdE B w v L.length (L.map fun x=>.string (txtOf x))) (hl:l.length+tot L<=900000000) (hBw:B<=w.heap.size):Calls Tryz.prog 212 #[.pointer (some ⟨b,0,none⟩),v] w fun e w'=>e=.returned (.pointer (some ⟨b,0,none⟩))/\PageAt B b (wordsP L l) w'/\Kq B w w':=by
  have HR:Hid (RdE B w v L.length (L.map fun x=>.string (txtOf x))):=hR;obtain ⟨a,cap,rfl,hn,_⟩:=hR;have H0:Hid (PageAt B b l w):=h;clear h;go_enter Tryz.func212,Tryz.ntmps212;go_wp2_with fail
  go_loopw [9] (fun iv wr=>∃ i:Nat,iv=.int .i64 (i:Int)/\i<=L.length/\Hid (PageAt B b (wordsP (L.take i) l) wr/\Kq B w wr)) (fun iv _=>L.length-(intOf iv).toNat)
  case atStart=>exact ⟨0,rfl,Nat.zero_le _,H0.out,Kq.refl _ _⟩
  case round=>
    obtain ⟨i,rfl,hi,HP⟩:=hrel
    by_cases hin:i<L.length
    · have hiI:(i:Int)<(L.length:Int):=by omega
      obtain ⟨g,off,rfl,hce⟩:=(HR.out.next HP.out.2).cell i hin;have c0:=hce i (.string (txtOf L[i])) (by simp [hin]);obtain ⟨y,hy⟩:∃ y,L[i]=y:=⟨_,rfl⟩;rw [hy] at c0;obtain ⟨m,hm⟩:∃ m,wordsP (L.take i) l=m:=⟨_,rfl⟩;have HN:Hid (wordsP (L.take (i+1)) l=wordP m y):=by
        show _=_;rw [List.take_succ_eq_append_getElem hin,hy,<-hm];simp [wordsP,List.foldl_append]
      have hml:m.length+y.length+1<=900000000:=by
        have h1:=words_len (L.take i) l;have h2:=tot_take L i hin;rw [hm] at h1;rw [hy] at h2;omega
      have HPm:Hid (PageAt B b m wr/\Kq B w wr):=by rw [<-hm];exact HP.out
      have hBr:B<=wr.heap.size:=Nat.le_trans hBw HP.out.2.low.size;have HLn:Hid (Calls Tryz.prog 245 #[.pointer (some ⟨b,0,none⟩)] wr fun e w'=>e=.returned (.int .i64 (m.length:Int))/\w'=wr):=len_any B b m wr HPm.out.1;clear hce hy hm
      by_cases h0:0<m.length
      · have h0I:(0:Int)<(m.length:Int):=by omega
        have HW1:Hid (Calls Tryz.prog 81 #[.pointer (some ⟨b,0,none⟩),.int .u8 32] wr fun e w'=>e=.returned .nilIface/\PageAt B b (m++[32]) w'/\Kq B wr w'):=writeByte_any B b m 32 32 rfl wr HPm.out.1 (by omega) hBr;go_wp2_with fail
        refine calls_at HLn.out (by with_reducible rfl) (by with_reducible rfl) ?_;rintro e w1 ⟨rfl,rfl⟩;go_wp2_with fail
        refine calls_at HW1.out (by with_reducible rfl) (by with_reducible rfl) ?_;rintro e w2 ⟨rfl,hp2,hk2⟩;have HW2:Hid (Calls Tryz.prog 80 #[.pointer (some ⟨b,0,none⟩),.string (txtOf y)] w2 fun e w'=>e=.returned (.tuple #[.int .i64 (txtOf y).size,.nilIface])/\PageAt B b (wordP m y) w'/\Kq B w2 w'):=by
          have:=writeString_any B b (m++[32]) (txtOf y) w2 hp2 (by rw [txt_size];simp;omega) (Nat.le_trans hBr hk2.low.size);rw [txt_list,List.append_assoc] at this;have e:wordP m y=m++([32]++y):=by unfold wordP;rw [if_pos h0];rfl
          rw [e];exact this
        have HK2:Hid (Kq B w w2):=HPm.out.2.trans hk2;clear hp2 hk2;go_wp2_with fail
        refine calls_at HW2.out (by with_reducible rfl) (by with_reducible rfl) ?_;rintro e w3 ⟨rfl,hp3,hk3⟩;have H3:Hid (PageAt B b (wordsP (L.take (i+1)) l) w3/\Kq B w w3):=by rw [HN.out];exact ⟨hp3,HK2.out.trans hk3⟩
        clear hp3 hk3;go_wp2_with fail
        go_roundw
        case rel=>exact ⟨i+1,by go_num,hin,H3⟩
        case measure=>simp [intOf];omega
      · have h0I:¬ (0:Int)<(m.length:Int):=by omega
        have HW2:Hid (Calls Tryz.prog 80 #[.pointer (some ⟨b,0,none⟩),.string (txtOf y)] wr fun e w'=>e=.returned (.tuple #[.int .i64 (txtOf y).size,.nilIface])/\PageAt B b (wordP m y) w'/\Kq B wr w'):=by
          have:=writeString_any B b m (txtOf y) wr HPm.out.1 (by rw [txt_size];omega) hBr;rw [txt_list] at this;have e:wordP m y=m++y:=by unfold wordP;rw [if_neg h0]
          rw [e];exact this
        go_wp2_with fail
        refine calls_at HLn.out (by with_reducible rfl) (by with_reducible rfl) ?_;rintro e w1 ⟨rfl,rfl⟩;go_wp2_with fail
        refine calls_at HW2.out (by with_reducible rfl) (by with_reducible rfl) ?_;rintro e w3 ⟨rfl,hp3,hk3⟩;have H3:Hid (PageAt B b (wordsP (L.take (i+1)) l) w3/\Kq B w w3):=by rw [HN.out];exact ⟨hp3,HPm.out.2.trans hk3⟩
        clear hp3 hk3;go_wp2_with fail
        go_roundw
        case rel=>exact ⟨i+1,by go_num,hin,H3⟩
        case measure=>simp [intOf];omega
    · have hiI:¬ (i:Int)<(L.length:Int):=by omega
      have HE:Hid (PageAt B b (wordsP L l) wr/\Kq B w wr):=by
        have:=HP.out;rw [List.take_of_length_le (by omega)] at this;exact this
      go_wp2_with fail
      go_ret;exact ⟨rfl,HE.out⟩
end Go.Proofs.YtpcijhecaedkpaaGreatDoor

namespace Go.Proofs.YtpcijhecaedkpaaGreatDoor
open Go.RowKit
set_option maxRecDepth 10000
set_option maxHeartbeats 8000000
theorem Gl.kq {B:Nat} {w w':World} (h:Gl w) (k:Kq B w w') (hB:12<=B):Gl w':=h.below k.low hB
theorem below_grow (w:World) (q:Nat) (os:Array Obj):Below w.heap.size w (Sort.grow (w.drewN q) os):=
  ⟨rfl,rfl,rfl,by simp [Sort.grow],fun i hi=>by
    show ((w.drewN q).heap++os)[i]?=_;rw [Array.getElem?_append_left (by show i<w.heap.size;omega)]
    rfl⟩
theorem txt_app (a b:List UInt8):txtOf a++txtOf b=txtOf (a++b):=by
  unfold txtOf
  apply ByteArray.ext
  simp
def litT (n:Int):List UInt8:=if Lib.hasPrefix (Lib.itoa n) [45]=true then 126 :: 120 :: Lib.trimPrefix (Lib.itoa n) [45] else 120 :: Lib.trimPrefix (Lib.itoa n) [45]
theorem itoa_any (n:Int) (w:World) (h0:-9223372036854775808<=n) (h1:n<=9223372036854775807) (hg:Gl w):Calls Tryz.prog 211 #[.int .i64 n] w fun e w'=>e=.returned (.string (txtOf (Lib.itoa n)))/\Below w.heap.size w w':=by
  refine (Tryz.strconv_Itoa n h0 h1 w hg.pow).mono ?_;rintro e w' ⟨rfl,k,os,rfl⟩;exact ⟨rfl,below_grow _ _ _⟩
theorem one_text {B:Nat} (w:World) (y:List UInt8):RdE B (w.alloc (.cells #[.string (txtOf y)] 9)) (.slice (some ⟨w.heap.size,0,none⟩) 1 1) 1 ([y].map fun x=>.string (txtOf x)):=by
  have hg:=heap_alloc_new w (.cells #[.string (txtOf y)] 9);refine ⟨_,_,rfl,by omega,fun _=>⟨w.heap.size,0,rfl,.inr ⟨_,_,_,hg,by decide,by decide⟩,(Array.getElem?_eq_some_iff.1 hg).1,fun j u hu=>?_⟩⟩;rw [Nat.zero_add,cell_of hg];simpa using hu
theorem words_one {B b:Nat} {l:List UInt8} (y:List UInt8) (w:World) (h:PageAt B b l w) (hl:l.length+(y.length+1)<=900000000) (hBw:B<=w.heap.size):Calls Tryz.prog 212 #[.pointer (some ⟨b,0,none⟩),.slice (some ⟨w.heap.size,0,none⟩) 1 1] (w.alloc (.cells #[.string (txtOf y)] 9)) fun e w'=>e=.returned (.pointer (some ⟨b,0,none⟩))/\PageAt B b (wordP l y) w'/\Kq B w w':=by
  have hb:Below w.heap.size w (w.alloc (.cells #[.string (txtOf y)] 9)):=(Below.refl _ _).alloc (Nat.le_refl _) _;refine (words_any [y] _ _ (page_below h hb) (one_text w y) (by simpa [tot] using hl) (Nat.le_trans hBw hb.size)).mono fun e w' hq=>?_
  exact ⟨hq.1,hq.2.1,(Kq.of_below hb hBw).trans hq.2.2⟩
theorem literals_any {B b:Nat} {l:List UInt8} (L:List Int) (v:Value) (w:World) (h:PageAt B b l w) (hR:RdE B w v L.length (L.map (.int .i64))) (hl:l.length+tot (L.map litT)<=900000000) (hr:∀ x∈L,-9223372036854775808<=x/\x<=9223372036854775807) (hBw:B<=w.heap.size) (hg:Gl w) (hB:12<=B):Calls Tryz.prog 238 #[.pointer (some ⟨b,0,none⟩),v] w fun e w'=>e=.returned (.pointer (some ⟨b,0,none⟩))/\PageAt B b (wordsP (L.map litT) l) w'/\Kq B w w':=by
  have HR:Hid (RdE B w v L.length (L.map (.int .i64))):=hR;obtain ⟨a,cap,rfl,hn,_⟩:=hR;have H0:Hid (PageAt B b l w):=h;have HG:Hid (Gl w):=hg;have HRg:Hid (∀ x∈L,-9223372036854775808<=x/\x<=9223372036854775807):=hr;clear h hg hr;go_enter Tryz.func238,Tryz.ntmps238;go_wp2_with fail
  go_loopw [11] (fun iv wr=>∃ i:Nat,iv=.int .i64 (i:Int)/\i<=L.length/\Hid (PageAt B b (wordsP ((L.map litT).take i) l) wr/\Kq B w wr)) (fun iv _=>L.length-(intOf iv).toNat)
  case atStart=>exact ⟨0,rfl,Nat.zero_le _,H0.out,Kq.refl _ _⟩
  case round=>
    obtain ⟨i,rfl,hi,HP⟩:=hrel
    by_cases hin:i<L.length
    · have hiI:(i:Int)<(L.length:Int):=by omega
      have hin2:i<(L.map litT).length:=by simpa using hin
      obtain ⟨g,off,rfl,hce⟩:=(HR.out.next HP.out.2).cell i hin;have c0:=hce i (.int .i64 L[i]) (by simp [hin]);have hrg:=HRg.out L[i] (List.getElem_mem hin);obtain ⟨n,hn2⟩:∃ n,L[i]=n:=⟨_,rfl⟩;rw [hn2] at c0 hrg;obtain ⟨m,hm⟩:∃ m,wordsP ((L.map litT).take i) l=m:=⟨_,rfl⟩;have HN:Hid (wordsP ((L.map litT).take (i+1)) l=wordP m (litT n)):=by
        show _=_;rw [List.take_succ_eq_append_getElem hin2,<-hm];simp [wordsP,List.foldl_append,hn2]
      have hml:m.length+((litT n).length+1)<=900000000:=by
        have h1:=words_len ((L.map litT).take i) l;have h2:=tot_take (L.map litT) i hin2;rw [hm] at h1;simp only [List.getElem_map,hn2] at h2;omega
      have HPm:Hid (PageAt B b m wr/\Kq B w wr):=by rw [<-hm];exact HP.out
      have hBr:B<=wr.heap.size:=Nat.le_trans hBw HP.out.2.low.size;have HIt:Hid (Calls Tryz.prog 211 #[.int .i64 n] wr fun e w'=>e=.returned (.string (txtOf (Lib.itoa n)))/\Below wr.heap.size wr w'):=itoa_any n wr hrg.1 hrg.2 (HG.out.kq HPm.out.2 hB);have HCt:Hid (∀ w',Calls Tryz.prog 260 #[.string (txtOf (Lib.itoa n)),.string ⟨#[45]⟩] w' fun e w2=>e=.returned (.tuple #[.string (txtOf (Lib.trimPrefix (Lib.itoa n) [45])),.bool (Lib.hasPrefix (Lib.itoa n) [45])])/\w2=w'):=fun w'=>by
        have:=Tryz.strings_CutPrefix (txtOf (Lib.itoa n)) ⟨#[45]⟩ w';rw [txt_list] at this;exact this
      have HLt:Hid (litT n=if Lib.hasPrefix (Lib.itoa n) [45]=true then 126 :: 120 :: Lib.trimPrefix (Lib.itoa n) [45] else 120 :: Lib.trimPrefix (Lib.itoa n) [45]):=rfl;obtain ⟨y,hy⟩:∃ y,litT n=y:=⟨_,rfl⟩;obtain ⟨t,ht⟩:∃ t,Lib.trimPrefix (Lib.itoa n) [45]=t:=⟨_,rfl⟩;obtain ⟨hp,hhp⟩:∃ t,Lib.hasPrefix (Lib.itoa n) [45]=t:=⟨_,rfl⟩;rw [hy,ht,hhp] at HLt;rw [ht,hhp] at HCt;rw [hy] at HN hml;clear hce hn2 hm hy ht hhp;go_wp2_with fail
      refine calls_at HIt.out (by with_reducible rfl) (by with_reducible rfl) ?_;rintro e w1 ⟨rfl,hb1⟩;have HP1:Hid (PageAt B b m w1/\Kq B w w1):=⟨page_below HPm.out.1 hb1,HPm.out.2.trans (Kq.of_below hb1 hBr)⟩;clear hb1;go_wp2_with fail
      refine calls_at (HCt.out _) (by with_reducible rfl) (by with_reducible rfl) ?_;rintro e w2 ⟨rfl,rfl⟩
      cases hp with
      | true =>
        have hy:y=126 :: 120 :: t:=HLt.out;have hcat:(⟨#[126,120]⟩:ByteArray)++txtOf t=txtOf y:=by rw [hy];exact txt_app [126,120] t
        have hts:(txtOf t).size<=900000000:=by rw [txt_size];rw [hy] at hml;simp at hml;omega
        have HWd:Hid (Calls Tryz.prog 212 #[.pointer (some ⟨b,0,none⟩),.slice (some ⟨w2.heap.size,0,none⟩) 1 1] (w2.alloc (.cells #[.string (txtOf y)] 9)) fun e w'=>e=.returned (.pointer (some ⟨b,0,none⟩))/\PageAt B b (wordP m y) w'/\Kq B w2 w'):=words_one y w2 HP1.out.1 (by omega) (Nat.le_trans hBw HP1.out.2.low.size);clear hy;go_wp2_with fail
        refine calls_at HWd.out (by with_reducible rfl) (by with_reducible rfl) ?_;rintro e w3 ⟨rfl,hp3,hk3⟩;have H3:Hid (PageAt B b (wordsP ((L.map litT).take (i+1)) l) w3/\Kq B w w3):=by rw [HN.out];exact ⟨hp3,HP1.out.2.trans hk3⟩
        clear hp3 hk3;go_wp2_with fail
        go_roundw
        case rel=>exact ⟨i+1,by go_num,hin,H3⟩
        case measure=>simp [intOf];omega
      | false =>
        have hy:y=120 :: t:=HLt.out;have hcat:(⟨#[120]⟩:ByteArray)++txtOf t=txtOf y:=by rw [hy];exact txt_app [120] t
        have hts:(txtOf t).size<=900000000:=by rw [txt_size];rw [hy] at hml;simp at hml;omega
        have HWd:Hid (Calls Tryz.prog 212 #[.pointer (some ⟨b,0,none⟩),.slice (some ⟨w2.heap.size,0,none⟩) 1 1] (w2.alloc (.cells #[.string (txtOf y)] 9)) fun e w'=>e=.returned (.pointer (some ⟨b,0,none⟩))/\PageAt B b (wordP m y) w'/\Kq B w2 w'):=words_one y w2 HP1.out.1 (by omega) (Nat.le_trans hBw HP1.out.2.low.size);clear hy;go_wp2_with fail
        refine calls_at HWd.out (by with_reducible rfl) (by with_reducible rfl) ?_;rintro e w3 ⟨rfl,hp3,hk3⟩;have H3:Hid (PageAt B b (wordsP ((L.map litT).take (i+1)) l) w3/\Kq B w w3):=by rw [HN.out];exact ⟨hp3,HP1.out.2.trans hk3⟩
        clear hp3 hk3;go_wp2_with fail
        go_roundw
        case rel=>exact ⟨i+1,by go_num,hin,H3⟩
        case measure=>simp [intOf];omega
    · have hiI:¬ (i:Int)<(L.length:Int):=by omega
      have HE:Hid (PageAt B b (wordsP (L.map litT) l) wr/\Kq B w wr):=by
        have:=HP.out;rw [List.take_of_length_le (by simp;omega)] at this;exact this
      go_wp2_with fail
      go_ret;exact ⟨rfl,HE.out⟩
end Go.Proofs.YtpcijhecaedkpaaGreatDoor

namespace Go.Proofs.YtpcijhecaedkpaaGreatDoor
open Go.RowKit
set_option maxRecDepth 10000
set_option maxHeartbeats 8000000
def pcsT (L:List PcL):List (List UInt8):=L.flatMap fun o=>[o.1,litT o.2]
def rowT (L:List PcL) (deg:List UInt8):List (List UInt8):=pcsT L++[[62,61],deg,[59]]
theorem words_app (K L:List (List UInt8)) (l:List UInt8):wordsP (K++L) l=wordsP L (wordsP K l):=by simp [wordsP,List.foldl_append]
theorem tot_app (K L:List (List UInt8)):tot (K++L)=tot K+tot L:=by simp [tot]
theorem pcsT_take (L:List PcL) (i:Nat) (hi:i<L.length):pcsT (L.take (i+1))=pcsT (L.take i)++[L[i].1,litT L[i].2]:=by
  unfold pcsT;rw [List.take_succ_eq_append_getElem hi,List.flatMap_append];simp
theorem pcsT_le (L:List PcL) (i:Nat) (hi:i<L.length):tot (pcsT (L.take i))+(L[i].1.length+1)+((litT L[i].2).length+1)<=tot (pcsT L):=by
  have e:pcsT L=pcsT (L.take (i+1))++pcsT (L.drop (i+1)):=by
    unfold pcsT;rw [<-List.flatMap_append,List.take_append_drop]
  rw [e,pcsT_take L i hi,tot_app,tot_app];simp [tot];omega
theorem one_int {B:Nat} (w:World) (n:Int):RdE B (w.alloc (.cells #[.int .i64 n] 3)) (.slice (some ⟨w.heap.size,0,none⟩) 1 1) 1 ([n].map (.int .i64)):=by
  have hg:=heap_alloc_new w (.cells #[.int .i64 n] 3);refine ⟨_,_,rfl,by omega,fun _=>⟨w.heap.size,0,rfl,.inr ⟨_,_,_,hg,by decide,by decide⟩,(Array.getElem?_eq_some_iff.1 hg).1,fun j u hu=>?_⟩⟩;rw [Nat.zero_add,cell_of hg];simpa using hu
theorem lits_one {B b:Nat} {l:List UInt8} (n:Int) (w:World) (h:PageAt B b l w) (hl:l.length+((litT n).length+1)<=900000000) (hr:-9223372036854775808<=n/\n<=9223372036854775807) (hBw:B<=w.heap.size) (hg:Gl w) (hB:12<=B):Calls Tryz.prog 238 #[.pointer (some ⟨b,0,none⟩),.slice (some ⟨w.heap.size,0,none⟩) 1 1] (w.alloc (.cells #[.int .i64 n] 3)) fun e w'=>e=.returned (.pointer (some ⟨b,0,none⟩))/\PageAt B b (wordP l (litT n)) w'/\Kq B w w':=by
  have hb:Below w.heap.size w (w.alloc (.cells #[.int .i64 n] 3)):=(Below.refl _ _).alloc (Nat.le_refl _) _;refine (literals_any [n] _ _ (page_below h hb) (one_int w n) (by simpa [tot] using hl) (fun x hx=>by rw [List.mem_singleton.1 hx];exact hr) (Nat.le_trans hBw hb.size) (hg.next hb) hB).mono fun e w' hq=>?_
  exact ⟨hq.1,hq.2.1,(Kq.of_below hb hBw).trans hq.2.2⟩
theorem three_texts {B:Nat} (w:World) (x y z:List UInt8):RdE B (w.alloc (.cells #[.string (txtOf x),.string (txtOf y),.string (txtOf z)] 9)) (.slice (some ⟨w.heap.size,0,none⟩) 3 3) 3 ([x,y,z].map fun x=>.string (txtOf x)):=by
  have hg:=heap_alloc_new w (.cells #[.string (txtOf x),.string (txtOf y),.string (txtOf z)] 9);refine ⟨_,_,rfl,by omega,fun _=>⟨w.heap.size,0,rfl,.inr ⟨_,_,_,hg,by decide,by decide⟩,(Array.getElem?_eq_some_iff.1 hg).1,fun j u hu=>?_⟩⟩;rw [Nat.zero_add,cell_of hg];simpa using hu
theorem words_three {B b:Nat} {l:List UInt8} (x y z:List UInt8) (w:World) (h:PageAt B b l w) (hl:l.length+tot [x,y,z]<=900000000) (hBw:B<=w.heap.size):Calls Tryz.prog 212 #[.pointer (some ⟨b,0,none⟩),.slice (some ⟨w.heap.size,0,none⟩) 3 3] (w.alloc (.cells #[.string (txtOf x),.string (txtOf y),.string (txtOf z)] 9)) fun e w'=>e=.returned (.pointer (some ⟨b,0,none⟩))/\PageAt B b (wordsP [x,y,z] l) w'/\Kq B w w':=by
  have hb:Below w.heap.size w (w.alloc (.cells #[.string (txtOf x),.string (txtOf y),.string (txtOf z)] 9)):=(Below.refl _ _).alloc (Nat.le_refl _) _;refine (words_any [x,y,z] _ _ (page_below h hb) (three_texts w x y z) hl (Nat.le_trans hBw hb.size)).mono fun e w' hq=>?_
  exact ⟨hq.1,hq.2.1,(Kq.of_below hb hBw).trans hq.2.2⟩
theorem prow_any {B b:Nat} {l:List UInt8} (L:List PcL) (deg:List UInt8) (v:Value) (w:World) (h:PageAt B b l w) (hR:RdE B w v L.length (pcsC L)) (hl:l.length+tot (rowT L deg)<=900000000) (hr:∀ x∈L,-9223372036854775808<=x.2/\x.2<=9223372036854775807) (hBw:B<=w.heap.size) (hg:Gl w) (hB:12<=B):Calls Tryz.prog 235 #[.pointer (some ⟨b,0,none⟩),.agg #[v,.string (txtOf deg)]] w fun e w'=>e=.returned (.pointer (some ⟨b,0,none⟩))/\PageAt B b (wordsP (rowT L deg) l) w'/\Kq B w w':=by
  have HR:Hid (RdE B w v L.length (pcsC L)):=hR;obtain ⟨a,cap,rfl,hn,_⟩:=hR;have H0:Hid (PageAt B b l w):=h;have HG:Hid (Gl w):=hg;have HRg:Hid (∀ x∈L,-9223372036854775808<=x.2/\x.2<=9223372036854775807):=hr;clear h hg hr;obtain ⟨W,hW⟩:∃ W,w.alloc (.cells #[.slice a L.length cap,.string (txtOf deg)] 49)=W:=⟨_,rfl⟩;have hbW:Below w.heap.size w W:=by rw [<-hW];exact (Below.refl _ _).alloc (Nat.le_refl _) _
  have gW:W.heap[w.heap.size]?=some (.cells #[.slice a L.length cap,.string (txtOf deg)] 49 (0,0)):=by rw [<-hW];exact heap_alloc_new w _
  have HW:Hid (Below w.heap.size w W):=hbW;have HgW:Hid (W.heap[w.heap.size]?=some (.cells #[.slice a L.length cap,.string (txtOf deg)] 49 (0,0))):=gW;have c0:W.cell? ⟨w.heap.size,0,none⟩=some (.slice a L.length cap):=cell_of gW 0;clear hbW gW;go_enter Tryz.func235,Tryz.ntmps235;go_wp2_with fail
  go_loopw [10] (fun iv wr=>∃ i:Nat,iv=.int .i64 (i:Int)/\i<=L.length/\Hid (PageAt B b (wordsP (pcsT (L.take i)) l) wr/\Kq B w wr/\Kq B W wr)) (fun iv _=>L.length-(intOf iv).toNat)
  case atStart=>exact ⟨0,rfl,Nat.zero_le _,page_below H0.out HW.out,Kq.of_below HW.out hBw,Kq.refl _ _⟩
  case round=>
    obtain ⟨i,rfl,hi,HP⟩:=hrel
    by_cases hin:i<L.length
    · have hiI:(i:Int)<(L.length:Int):=by omega
      obtain ⟨g,off,rfl,hce⟩:=(HR.out.next HP.out.2.1).cell i hin;obtain ⟨p0,p1⟩:=pcs_get L i hin;have d0:wr.cell? ⟨g,off+i*2,none⟩=some (.string (txtOf L[i].1)):=hce _ _ p0;have d1:wr.cell? ⟨g,off+i*2+1,none⟩=some (.int .i64 L[i].2):=hce _ _ p1;have hrg:=HRg.out L[i] (List.getElem_mem hin);have HN0:=pcsT_take L i hin;have hle:=pcsT_le L i hin;obtain ⟨x,hx⟩:∃ x,L[i].1=x:=⟨_,rfl⟩;obtain ⟨n,hn2⟩:∃ n,L[i].2=n:=⟨_,rfl⟩;rw [hx] at d0 HN0 hle;rw [hn2] at d1 hrg HN0 hle;obtain ⟨m,hm⟩:∃ m,wordsP (pcsT (L.take i)) l=m:=⟨_,rfl⟩;have HN:Hid (wordsP (pcsT (L.take (i+1))) l=wordP (wordP m x) (litT n)):=by
        show _=_;rw [HN0,words_app,hm];rfl
      have hml:m.length+(x.length+1)+((litT n).length+1)<=900000000:=by
        have h1:=words_len (pcsT (L.take i)) l;have h2:tot (rowT L deg)=tot (pcsT L)+tot [[62,61],deg,[59]]:=tot_app _ _;rw [hm] at h1;omega
      have hmx:(wordP m x).length+((litT n).length+1)<=900000000:=by
        have:=word_len m x;omega
      have HPm:Hid (PageAt B b m wr/\Kq B w wr/\Kq B W wr):=by rw [<-hm];exact HP.out
      have hBr:B<=wr.heap.size:=Nat.le_trans hBw HP.out.2.1.low.size;obtain ⟨V,hV⟩:∃ V,wr.alloc (.cells #[.string (txtOf x),.int .i64 n] 160)=V:=⟨_,rfl⟩;have hbV:Below wr.heap.size wr V:=by rw [<-hV];exact (Below.refl _ _).alloc (Nat.le_refl _) _
      have gV:V.heap[wr.heap.size]?=some (.cells #[.string (txtOf x),.int .i64 n] 160 (0,0)):=by rw [<-hV];exact heap_alloc_new wr _
      have HPV:Hid (PageAt B b m V.drew/\Kq B w V.drew/\Kq B W V.drew):=⟨page_below HPm.out.1 hbV.drew,HPm.out.2.1.trans (Kq.of_below hbV.drew hBr),HPm.out.2.2.trans (Kq.of_below hbV.drew hBr)⟩;have hBV:B<=V.drew.heap.size:=Nat.le_trans hBr hbV.drew.size;have HKV:Hid (∀ w',Kq B V.drew w'->w'.cell? ⟨wr.heap.size,0,none⟩=some (.string (txtOf x))/\w'.cell? ⟨wr.heap.size,1,none⟩=some (.int .i64 n)):=fun w' k=>by
        have:=k.other _ _ _ _ (show V.drew.heap[wr.heap.size]?=_ from gV) (by decide) (by decide);exact ⟨cell_of this 0,cell_of this 1⟩
      have HC:Hid (∀ U' v,Kq B V.drew U'->PageAt B b m U'->RdE B U' v 1 ([x].map fun x=>.string (txtOf x))->Calls Tryz.prog 212 #[.pointer (some ⟨b,0,none⟩),v] U' fun e w'=>e=.returned (.pointer (some ⟨b,0,none⟩))/\PageAt B b (wordP m x) w'/\Kq B U' w'):=fun U' v k hp hv=>
        words_any [x] v U' hp hv (by show _+tot [x]<=_;simp [tot];omega) (Nat.le_trans hBV k.low.size)
      have HD:Hid (∀ U' v,Kq B V.drew U'->PageAt B b (wordP m x) U'->RdE B U' v 1 ([n].map (.int .i64))->Calls Tryz.prog 238 #[.pointer (some ⟨b,0,none⟩),v] U' fun e w'=>e=.returned (.pointer (some ⟨b,0,none⟩))/\PageAt B b (wordP (wordP m x) (litT n)) w'/\Kq B U' w'):=fun U' v k hp hv=>
        literals_any [n] v U' hp hv (by show _+tot [litT n]<=_;simp [tot];omega) (fun y hy=>by rw [List.mem_singleton.1 hy];exact hrg) (Nat.le_trans hBV k.low.size) (HG.out.kq (HPV.out.2.1.trans k) hB) hB
      have HVd:Hid (V.heap[wr.heap.size]?=some (.cells #[.string (txtOf x),.int .i64 n] 160 (0,0))/\wr.heap.size<V.heap.size):=⟨gV,(Array.getElem?_eq_some_iff.1 gV).1⟩;clear hce p0 p1 hx hn2 hm HN0 hle hbV gV HVd hml hmx;go_wp2_with fail
      refine wp_region_T (fun w'=>w'.cell? ⟨wr.heap.size,0,none⟩=some (.string (txtOf x))/\w'.cell? ⟨wr.heap.size,1,none⟩=some (.int .i64 n)) (fun _=>True) [] (by kernel_rfl) ⟨HKV.out _ (Kq.refl _ _),trivial⟩ (fun hHeld=>?_);clear hV d0 d1;generalize V.drew=U at hHeld HKV HC HD HPV hBV ⊢
      refine wpAnyT_takeB (i:=0) (oi:=⟨some 14,.move (.tmp 0),_,_,_,_⟩) (v:=?v0) rfl (by kernel_rfl) (by kernel_rfl) (by kernel_rfl) (by kernel_rfl) (fun _ _ _ h=>h) (Or.inl ⟨by rfl,?hy0⟩) (by assumption) ?rest0
      case hy0=>(intro w hSw;(try dsimp only at hSw);obtain ⟨s0,s1⟩:=hSw;go_simp;try (with_reducible rfl))
      try simp only [Act.put,List.setIfInBounds_toArray,List.set_cons_zero,List.set_cons_succ]
      refine wpAnyT_takeB (i:=1) (oi:=⟨some 15,.fieldAddr 160 (.tmp 6) 0,_,_,_,_⟩) (v:=?v1) rfl (by kernel_rfl) (by kernel_rfl) (by kernel_rfl) (by kernel_rfl) (fun _ _ _ h=>h) (Or.inl ⟨by rfl,?hy1⟩) (by assumption) ?rest1
      case hy1=>(intro w hSw;(try dsimp only at hSw);obtain ⟨s0,s1⟩:=hSw;go_simp;try (with_reducible rfl))
      try simp only [Act.put,List.setIfInBounds_toArray,List.set_cons_zero,List.set_cons_succ]
      refine wpAnyT_takeB (i:=2) (oi:=⟨some 16,.load 9 (.tmp 15),_,_,_,_⟩) (v:=?v2) rfl (by kernel_rfl) (by kernel_rfl) (by kernel_rfl) (by kernel_rfl) (fun _ _ _ h=>h) (Or.inl ⟨by rfl,?hy2⟩) (by assumption) ?rest2
      case hy2=>(intro w hSw;(try dsimp only at hSw);obtain ⟨s0,s1⟩:=hSw;go_simp;try (with_reducible rfl))
      try simp only [Act.put,List.setIfInBounds_toArray,List.set_cons_zero,List.set_cons_succ]
      refine wpAnyT_takeB (i:=5) (oi:=⟨some 19,.fieldAddr 160 (.tmp 6) 1,_,_,_,_⟩) (v:=?v5) rfl (by kernel_rfl) (by kernel_rfl) (by kernel_rfl) (by kernel_rfl) (fun _ _ _ h=>h) (Or.inl ⟨by rfl,?hy5⟩) (by assumption) ?rest5
      case hy5=>(intro w hSw;(try dsimp only at hSw);obtain ⟨s0,s1⟩:=hSw;go_simp;try (with_reducible rfl))
      try simp only [Act.put,List.setIfInBounds_toArray,List.set_cons_zero,List.set_cons_succ]
      refine wpAnyT_takeB (i:=6) (oi:=⟨some 20,.load 3 (.tmp 19),_,_,_,_⟩) (v:=?v6) rfl (by kernel_rfl) (by kernel_rfl) (by kernel_rfl) (by kernel_rfl) (fun _ _ _ h=>h) (Or.inl ⟨by rfl,?hy6⟩) (by assumption) ?rest6
      case hy6=>(intro w hSw;(try dsimp only at hSw);obtain ⟨s0,s1⟩:=hSw;go_simp;try (with_reducible rfl))
      try simp only [Act.put,List.setIfInBounds_toArray,List.set_cons_zero,List.set_cons_succ]
      have HKU:Hid (Kq B U U):=Kq.refl _ _;have HPgU:Hid (PageAt B b (m) U):=HPV.out.1;clear hHeld;refine wpAnyT_two (i:=3) (j:=7) (o:=⟨some 17,.buildSlice 22 1 #[(0,(.tmp 16))],_,_,_,_⟩) (o':=⟨some 21,.buildSlice 29 1 #[(0,(.tmp 20))],_,_,_,_⟩) (by kernel_rfl) rfl rfl (fun K hK=>?_) (fun K hK=>?_)
      · skip
        go_simp;obtain ⟨U3,hU3⟩:∃ X,U.alloc (.cells #[.string (txtOf x)] 9)=X:=⟨_,rfl⟩;have hbU3:Below U.heap.size U U3:=by rw [<-hU3];exact (Below.refl _ _).alloc (Nat.le_refl _) _
        have HKU3:Hid (Kq B U U3):=HKU.out.trans (Kq.of_below hbU3 (Nat.le_trans hBV HKU.out.low.size));have HPgU3:Hid (PageAt B b (m) U3):=page_below HPgU.out hbU3;have HR3U3:Hid (RdE B U3 (.slice (some ⟨U.heap.size,0,none⟩) 1 1) 1 ([x].map fun x=>.string (txtOf x))):=by rw [<-hU3];exact one_text U x
        rw [hU3];clear hU3 hbU3;refine hK.out _ _ ⟨HKV.out _ HKU3.out,fun _=>trivial⟩ ?_;clear hK K;try simp only [Act.put,List.setIfInBounds_toArray,List.set_cons_zero,List.set_cons_succ]
        refine wpAnyT_two (i:=4) (j:=7) (o:=⟨some 18,.call { callee:=.value (.func 212),args:=#[(.tmp 14),(.tmp 17)],argTypes:=#[189,22] },_,_,_,_⟩) (o':=⟨some 21,.buildSlice 29 1 #[(0,(.tmp 20))],_,_,_,_⟩) (by kernel_rfl) rfl rfl (fun K hK=>?_) (fun K hK=>?_)
        · skip
          go_simp;refine calls_at (HC.out U3 _ HKU3.out HPgU3.out HR3U3.out) (by with_reducible rfl) (by with_reducible rfl) ?_;rintro e U34 ⟨rfl,hp,hk⟩;have HKU34:Hid (Kq B U U34):=HKU3.out.trans hk;have HPgU34:Hid (PageAt B b (wordP m x) U34):=hp;have HR3U34:Hid (RdE B U34 (.slice (some ⟨U.heap.size,0,none⟩) 1 1) 1 ([x].map fun x=>.string (txtOf x))):=HR3U3.out.next hk;clear hp hk;go_wp2_with fail
          refine hK.out _ _ ⟨HKV.out _ HKU34.out,fun _=>trivial⟩ ?_;clear hK K;try simp only [Act.put,List.setIfInBounds_toArray,List.set_cons_zero,List.set_cons_succ]
          refine wpAnyT_one (i:=7) (o:=⟨some 21,.buildSlice 29 1 #[(0,(.tmp 20))],_,_,_,_⟩) (by kernel_rfl) rfl (fun K hK=>?_);go_simp;obtain ⟨U347,hU347⟩:∃ X,U34.alloc (.cells #[.int .i64 n] 3)=X:=⟨_,rfl⟩;have hbU347:Below U34.heap.size U34 U347:=by rw [<-hU347];exact (Below.refl _ _).alloc (Nat.le_refl _) _
          have HKU347:Hid (Kq B U U347):=HKU34.out.trans (Kq.of_below hbU347 (Nat.le_trans hBV HKU34.out.low.size));have HPgU347:Hid (PageAt B b (wordP m x) U347):=page_below HPgU34.out hbU347;have HR3U347:Hid (RdE B U347 (.slice (some ⟨U.heap.size,0,none⟩) 1 1) 1 ([x].map fun x=>.string (txtOf x))):=HR3U34.out.next (Kq.of_below hbU347 (Nat.le_trans hBV HKU34.out.low.size));have HR7U347:Hid (RdE B U347 (.slice (some ⟨U34.heap.size,0,none⟩) 1 1) 1 ([n].map (.int .i64))):=by rw [<-hU347];exact one_int U34 n
          rw [hU347];clear hU347 hbU347;refine hK.out _ _ ⟨HKV.out _ HKU347.out,fun _=>trivial⟩ ?_;clear hK K;try simp only [Act.put,List.setIfInBounds_toArray,List.set_cons_zero,List.set_cons_succ]
          refine wpAnyT_one (i:=8) (o:=⟨some 22,.call { callee:=.value (.func 238),args:=#[(.tmp 18),(.tmp 21)],argTypes:=#[189,29] },_,_,_,_⟩) (by kernel_rfl) rfl (fun K hK=>?_);go_simp;refine calls_at (HD.out U347 _ HKU347.out HPgU347.out HR7U347.out) (by with_reducible rfl) (by with_reducible rfl) ?_;rintro e U3478 ⟨rfl,hp,hk⟩;have HKU3478:Hid (Kq B U U3478):=HKU347.out.trans hk;have HPgU3478:Hid (PageAt B b (wordP (wordP m x) (litT n)) U3478):=hp;have HR3U3478:Hid (RdE B U3478 (.slice (some ⟨U.heap.size,0,none⟩) 1 1) 1 ([x].map fun x=>.string (txtOf x))):=HR3U347.out.next hk;have HR7U3478:Hid (RdE B U3478 (.slice (some ⟨U34.heap.size,0,none⟩) 1 1) 1 ([n].map (.int .i64))):=HR7U347.out.next hk;clear hp hk;go_wp2_with fail
          refine hK.out _ _ ⟨HKV.out _ HKU3478.out,fun _=>trivial⟩ ?_;clear hK K;try simp only [Act.put,List.setIfInBounds_toArray,List.set_cons_zero,List.set_cons_succ]
          have H9:Hid (PageAt B b (wordsP (pcsT (L.take (i+1))) l) U3478/\Kq B w U3478/\Kq B W U3478):=⟨by rw [HN.out];exact HPgU3478.out,HPV.out.2.1.trans HKU3478.out,HPV.out.2.2.trans HKU3478.out⟩;refine wpAnyT_done (by kernel_rfl) ?_ _;go_wp2_with fail
          go_roundw
          case rel=>exact ⟨i+1,by go_num,hin,H9⟩
          case measure=>simp [intOf];omega
        · skip
          go_simp;obtain ⟨U37,hU37⟩:∃ X,U3.alloc (.cells #[.int .i64 n] 3)=X:=⟨_,rfl⟩;have hbU37:Below U3.heap.size U3 U37:=by rw [<-hU37];exact (Below.refl _ _).alloc (Nat.le_refl _) _
          have HKU37:Hid (Kq B U U37):=HKU3.out.trans (Kq.of_below hbU37 (Nat.le_trans hBV HKU3.out.low.size));have HPgU37:Hid (PageAt B b (m) U37):=page_below HPgU3.out hbU37;have HR3U37:Hid (RdE B U37 (.slice (some ⟨U.heap.size,0,none⟩) 1 1) 1 ([x].map fun x=>.string (txtOf x))):=HR3U3.out.next (Kq.of_below hbU37 (Nat.le_trans hBV HKU3.out.low.size));have HR7U37:Hid (RdE B U37 (.slice (some ⟨U3.heap.size,0,none⟩) 1 1) 1 ([n].map (.int .i64))):=by rw [<-hU37];exact one_int U3 n
          rw [hU37];clear hU37 hbU37;refine hK.out _ _ ⟨HKV.out _ HKU37.out,fun _=>trivial⟩ ?_;clear hK K;try simp only [Act.put,List.setIfInBounds_toArray,List.set_cons_zero,List.set_cons_succ]
          refine wpAnyT_one (i:=4) (o:=⟨some 18,.call { callee:=.value (.func 212),args:=#[(.tmp 14),(.tmp 17)],argTypes:=#[189,22] },_,_,_,_⟩) (by kernel_rfl) rfl (fun K hK=>?_);go_simp;refine calls_at (HC.out U37 _ HKU37.out HPgU37.out HR3U37.out) (by with_reducible rfl) (by with_reducible rfl) ?_;rintro e U374 ⟨rfl,hp,hk⟩;have HKU374:Hid (Kq B U U374):=HKU37.out.trans hk;have HPgU374:Hid (PageAt B b (wordP m x) U374):=hp;have HR3U374:Hid (RdE B U374 (.slice (some ⟨U.heap.size,0,none⟩) 1 1) 1 ([x].map fun x=>.string (txtOf x))):=HR3U37.out.next hk;have HR7U374:Hid (RdE B U374 (.slice (some ⟨U3.heap.size,0,none⟩) 1 1) 1 ([n].map (.int .i64))):=HR7U37.out.next hk;clear hp hk;go_wp2_with fail
          refine hK.out _ _ ⟨HKV.out _ HKU374.out,fun _=>trivial⟩ ?_;clear hK K;try simp only [Act.put,List.setIfInBounds_toArray,List.set_cons_zero,List.set_cons_succ]
          refine wpAnyT_one (i:=8) (o:=⟨some 22,.call { callee:=.value (.func 238),args:=#[(.tmp 18),(.tmp 21)],argTypes:=#[189,29] },_,_,_,_⟩) (by kernel_rfl) rfl (fun K hK=>?_);go_simp;refine calls_at (HD.out U374 _ HKU374.out HPgU374.out HR7U374.out) (by with_reducible rfl) (by with_reducible rfl) ?_;rintro e U3748 ⟨rfl,hp,hk⟩;have HKU3748:Hid (Kq B U U3748):=HKU374.out.trans hk;have HPgU3748:Hid (PageAt B b (wordP (wordP m x) (litT n)) U3748):=hp;have HR3U3748:Hid (RdE B U3748 (.slice (some ⟨U.heap.size,0,none⟩) 1 1) 1 ([x].map fun x=>.string (txtOf x))):=HR3U374.out.next hk;have HR7U3748:Hid (RdE B U3748 (.slice (some ⟨U3.heap.size,0,none⟩) 1 1) 1 ([n].map (.int .i64))):=HR7U374.out.next hk;clear hp hk;go_wp2_with fail
          refine hK.out _ _ ⟨HKV.out _ HKU3748.out,fun _=>trivial⟩ ?_;clear hK K;try simp only [Act.put,List.setIfInBounds_toArray,List.set_cons_zero,List.set_cons_succ]
          have H9:Hid (PageAt B b (wordsP (pcsT (L.take (i+1))) l) U3748/\Kq B w U3748/\Kq B W U3748):=⟨by rw [HN.out];exact HPgU3748.out,HPV.out.2.1.trans HKU3748.out,HPV.out.2.2.trans HKU3748.out⟩;refine wpAnyT_done (by kernel_rfl) ?_ _;go_wp2_with fail
          go_roundw
          case rel=>exact ⟨i+1,by go_num,hin,H9⟩
          case measure=>simp [intOf];omega
      · skip
        go_simp;obtain ⟨U7,hU7⟩:∃ X,U.alloc (.cells #[.int .i64 n] 3)=X:=⟨_,rfl⟩;have hbU7:Below U.heap.size U U7:=by rw [<-hU7];exact (Below.refl _ _).alloc (Nat.le_refl _) _
        have HKU7:Hid (Kq B U U7):=HKU.out.trans (Kq.of_below hbU7 (Nat.le_trans hBV HKU.out.low.size));have HPgU7:Hid (PageAt B b (m) U7):=page_below HPgU.out hbU7;have HR7U7:Hid (RdE B U7 (.slice (some ⟨U.heap.size,0,none⟩) 1 1) 1 ([n].map (.int .i64))):=by rw [<-hU7];exact one_int U n
        rw [hU7];clear hU7 hbU7;refine hK.out _ _ ⟨HKV.out _ HKU7.out,fun _=>trivial⟩ ?_;clear hK K;try simp only [Act.put,List.setIfInBounds_toArray,List.set_cons_zero,List.set_cons_succ]
        refine wpAnyT_one (i:=3) (o:=⟨some 17,.buildSlice 22 1 #[(0,(.tmp 16))],_,_,_,_⟩) (by kernel_rfl) rfl (fun K hK=>?_);go_simp;obtain ⟨U73,hU73⟩:∃ X,U7.alloc (.cells #[.string (txtOf x)] 9)=X:=⟨_,rfl⟩;have hbU73:Below U7.heap.size U7 U73:=by rw [<-hU73];exact (Below.refl _ _).alloc (Nat.le_refl _) _
        have HKU73:Hid (Kq B U U73):=HKU7.out.trans (Kq.of_below hbU73 (Nat.le_trans hBV HKU7.out.low.size));have HPgU73:Hid (PageAt B b (m) U73):=page_below HPgU7.out hbU73;have HR7U73:Hid (RdE B U73 (.slice (some ⟨U.heap.size,0,none⟩) 1 1) 1 ([n].map (.int .i64))):=HR7U7.out.next (Kq.of_below hbU73 (Nat.le_trans hBV HKU7.out.low.size));have HR3U73:Hid (RdE B U73 (.slice (some ⟨U7.heap.size,0,none⟩) 1 1) 1 ([x].map fun x=>.string (txtOf x))):=by rw [<-hU73];exact one_text U7 x
        rw [hU73];clear hU73 hbU73;refine hK.out _ _ ⟨HKV.out _ HKU73.out,fun _=>trivial⟩ ?_;clear hK K;try simp only [Act.put,List.setIfInBounds_toArray,List.set_cons_zero,List.set_cons_succ]
        refine wpAnyT_one (i:=4) (o:=⟨some 18,.call { callee:=.value (.func 212),args:=#[(.tmp 14),(.tmp 17)],argTypes:=#[189,22] },_,_,_,_⟩) (by kernel_rfl) rfl (fun K hK=>?_);go_simp;refine calls_at (HC.out U73 _ HKU73.out HPgU73.out HR3U73.out) (by with_reducible rfl) (by with_reducible rfl) ?_;rintro e U734 ⟨rfl,hp,hk⟩;have HKU734:Hid (Kq B U U734):=HKU73.out.trans hk;have HPgU734:Hid (PageAt B b (wordP m x) U734):=hp;have HR7U734:Hid (RdE B U734 (.slice (some ⟨U.heap.size,0,none⟩) 1 1) 1 ([n].map (.int .i64))):=HR7U73.out.next hk;have HR3U734:Hid (RdE B U734 (.slice (some ⟨U7.heap.size,0,none⟩) 1 1) 1 ([x].map fun x=>.string (txtOf x))):=HR3U73.out.next hk;clear hp hk;go_wp2_with fail
        refine hK.out _ _ ⟨HKV.out _ HKU734.out,fun _=>trivial⟩ ?_;clear hK K;try simp only [Act.put,List.setIfInBounds_toArray,List.set_cons_zero,List.set_cons_succ]
        refine wpAnyT_one (i:=8) (o:=⟨some 22,.call { callee:=.value (.func 238),args:=#[(.tmp 18),(.tmp 21)],argTypes:=#[189,29] },_,_,_,_⟩) (by kernel_rfl) rfl (fun K hK=>?_);go_simp;refine calls_at (HD.out U734 _ HKU734.out HPgU734.out HR7U734.out) (by with_reducible rfl) (by with_reducible rfl) ?_;rintro e U7348 ⟨rfl,hp,hk⟩;have HKU7348:Hid (Kq B U U7348):=HKU734.out.trans hk;have HPgU7348:Hid (PageAt B b (wordP (wordP m x) (litT n)) U7348):=hp;have HR7U7348:Hid (RdE B U7348 (.slice (some ⟨U.heap.size,0,none⟩) 1 1) 1 ([n].map (.int .i64))):=HR7U734.out.next hk;have HR3U7348:Hid (RdE B U7348 (.slice (some ⟨U7.heap.size,0,none⟩) 1 1) 1 ([x].map fun x=>.string (txtOf x))):=HR3U734.out.next hk;clear hp hk;go_wp2_with fail
        refine hK.out _ _ ⟨HKV.out _ HKU7348.out,fun _=>trivial⟩ ?_;clear hK K;try simp only [Act.put,List.setIfInBounds_toArray,List.set_cons_zero,List.set_cons_succ]
        have H9:Hid (PageAt B b (wordsP (pcsT (L.take (i+1))) l) U7348/\Kq B w U7348/\Kq B W U7348):=⟨by rw [HN.out];exact HPgU7348.out,HPV.out.2.1.trans HKU7348.out,HPV.out.2.2.trans HKU7348.out⟩;refine wpAnyT_done (by kernel_rfl) ?_ _;go_wp2_with fail
        go_roundw
        case rel=>exact ⟨i+1,by go_num,hin,H9⟩
        case measure=>simp [intOf];omega
    · have hiI:¬ (i:Int)<(L.length:Int):=by omega
      have HE:Hid (PageAt B b (wordsP (pcsT L) l) wr/\Kq B w wr/\Kq B W wr):=by
        have:=HP.out;rw [List.take_of_length_le (by omega)] at this;exact this
      have c1:wr.cell? ⟨w.heap.size,1,none⟩=some (.string (txtOf deg)):=cell_of (HE.out.2.2.other _ _ _ _ HgW.out (by decide) (by decide)) 1;have hlq:(wordsP (pcsT L) l).length+tot [[62,61],deg,[59]]<=900000000:=by
        have h1:=words_len (pcsT L) l;have h2:tot (rowT L deg)=tot (pcsT L)+tot [[62,61],deg,[59]]:=tot_app _ _;omega
      have HWd:Hid (Calls Tryz.prog 212 #[.pointer (some ⟨b,0,none⟩),.slice (some ⟨wr.heap.size,0,none⟩) 3 3] (wr.alloc (.cells #[.string ⟨#[62,61]⟩,.string (txtOf deg),.string ⟨#[59]⟩] 9)) fun e w'=>e=.returned (.pointer (some ⟨b,0,none⟩))/\PageAt B b (wordsP (rowT L deg) l) w'/\Kq B w w'):=by
        refine (words_three [62,61] deg [59] wr HE.out.1 hlq (Nat.le_trans hBw HE.out.2.1.low.size)).mono fun e w' hq=>⟨hq.1,?_,HE.out.2.1.trans hq.2.2⟩
        unfold rowT;rw [words_app];exact hq.2.1
      clear hlq;go_wp2_with fail
      refine calls_at HWd.out (by with_reducible rfl) (by with_reducible rfl) ?_;rintro e w3 ⟨rfl,hp3,hk3⟩;have H3:Hid (PageAt B b (wordsP (rowT L deg) l) w3/\Kq B w w3):=⟨hp3,hk3⟩;clear hp3 hk3;go_wp2_with fail
      go_ret;exact ⟨rfl,H3.out⟩
end Go.Proofs.YtpcijhecaedkpaaGreatDoor

namespace Go.Proofs.YtpcijhecaedkpaaGreatDoor
open Go.RowKit
set_option maxRecDepth 10000
set_option maxHeartbeats 8000000
structure SlE (B:Nat) (w:World) (d:SL) (vo vp vl vi:Value):Prop where
  o:RdE B w vo d.ops.length (opsC d.ops)
  p:RdE B w vp d.pcs.length (pcsC d.pcs)
  l:RdE B w vl d.lits.length (d.lits.map (.int .i64))
  i:RdE B w vi d.ids.length (d.ids.map fun x=>.string (txtOf x))
theorem SlE.next {B:Nat} {w w':World} {d:SL} {vo vp vl vi:Value} (h:SlE B w d vo vp vl vi) (k:Kq B w w'):SlE B w' d vo vp vl vi:=⟨h.o.next k,h.p.next k,h.l.next k,h.i.next k⟩
structure SlI (d:SL):Prop where
  p:∀ x∈d.pcs,-9223372036854775808<=x.2/\x.2<=9223372036854775807
  l:∀ x∈d.lits,-9223372036854775808<=x/\x<=9223372036854775807
  o:∀ x∈d.ops,-9223372036854775808<=x.2.2/\x.2.2<=9223372036854775807
def WrO (B b:Nat) (l:List UInt8) (w:World) (e:Ending) (w':World):Prop:=e=.returned (.tuple #[])/\PageAt B b l w'/\Kq B w w'
def Wrt (f:FuncId) (g:SL->List (List UInt8)):Prop:=∀ (B b:Nat) (l:List UInt8) (d:SL) (vo vp vl vi:Value) (w:World),PageAt B b l w->SlE B w d vo vp vl vi->SlI d->l.length+tot (g d)<=900000000->B<=w.heap.size->Gl w->12<=B->Calls Tryz.prog f #[.pointer (some ⟨b,0,none⟩),.agg (slC d vo vp vl vi)] w (WrO B b (wordsP (g d) l) w)
theorem box_held {B:Nat} {w:World} {d:SL} {vo vp vl vi:Value} {W:World} (hW:w.alloc (.cells (slC d vo vp vl vi) 51)=W) (w':World) (k:Kq B W w'):w'.heap[w.heap.size]?=some (.cells (slC d vo vp vl vi) 51 (0,0)):=
  k.other _ _ _ _ (by rw [<-hW];exact heap_alloc_new w _) (by decide) (by decide)
theorem wrt_rup:Wrt 161 fun d=>rowT d.pcs d.deg++d.ids:=by
  intro B b l d vo vp vl vi w h hs hi hl hBw hg hB;have hl1:l.length+tot (rowT d.pcs d.deg)+tot d.ids<=900000000:=by rw [tot_app] at hl;omega
  obtain ⟨W,hW⟩:∃ W,w.alloc (.cells (slC d vo vp vl vi) 51)=W:=⟨_,rfl⟩;have hbW:Below w.heap.size w W:=by rw [<-hW];exact (Below.refl _ _).alloc (Nat.le_refl _) _
  have kW:Kq B w W.drew:=Kq.of_below hbW.drew hBw;have hBW:B<=W.drew.heap.size:=Nat.le_trans hBw hbW.drew.size;have HK:Hid (∀ w',Kq B W.drew w'->w'.cell? ⟨w.heap.size,3,none⟩=some vp/\w'.cell? ⟨w.heap.size,4,none⟩=some (.string (txtOf d.deg))/\w'.cell? ⟨w.heap.size,6,none⟩=some vi):=fun w' k=>by
    have:=k.other _ _ _ _ (show W.drew.heap[w.heap.size]?=some (.cells (slC d vo vp vl vi) 51 (0,0)) by show W.heap[w.heap.size]?=_;rw [<-hW];exact heap_alloc_new w _) (by decide) (by decide);exact ⟨cell_of this 3,cell_of this 4,cell_of this 6⟩
  have HR:Hid (Calls Tryz.prog 235 #[.pointer (some ⟨b,0,none⟩),.agg #[vp,.string (txtOf d.deg)]] W.drew fun e w'=>e=.returned (.pointer (some ⟨b,0,none⟩))/\PageAt B b (wordsP (rowT d.pcs d.deg) l) w'/\Kq B W.drew w'):=prow_any d.pcs d.deg vp W.drew (page_below h hbW.drew) (hs.p.next kW) (by omega) hi.p hBW (hg.kq kW hB) hB;have HI:Hid (∀ w',Kq B W.drew w'->PageAt B b (wordsP (rowT d.pcs d.deg) l) w'->Calls Tryz.prog 212 #[.pointer (some ⟨b,0,none⟩),vi] w' fun e w2=>e=.returned (.pointer (some ⟨b,0,none⟩))/\PageAt B b (wordsP (rowT d.pcs d.deg++d.ids) l) w2/\Kq B w' w2):=fun w' k hp=>by
    refine (words_any d.ids vi w' hp (hs.i.next (kW.trans k)) ?_ (Nat.le_trans hBW k.low.size)).mono fun e w2 hq=>⟨hq.1,?_,hq.2.2⟩
    · have:=words_len (rowT d.pcs d.deg) l
      omega
    · rw [words_app];exact hq.2.1
  have HKW:Hid (Kq B w W.drew):=kW;unfold WrO;obtain ⟨Z,hZ⟩:∃ Z,wordsP (rowT d.pcs d.deg++d.ids) l=Z:=⟨_,rfl⟩;rw [hZ] at HI;show Calls _ _ _ _ fun e w'=>e=_/\PageAt B b (wordsP (rowT d.pcs d.deg++d.ids) l) w'/\Kq B w w'
  rw [hZ];have HC:=hs.o;unfold slC at hW;unfold slC;obtain ⟨ao,co,rfl,_,_⟩:=hs.o;obtain ⟨ap,cp,rfl,_,_⟩:=hs.p;obtain ⟨al,cl,rfl,_,_⟩:=hs.l;obtain ⟨ai,ci,rfl,_,_⟩:=hs.i;obtain ⟨dk,dn,do_,dp,dg,dl,di,de,dw,dh⟩:=d;dsimp only at hW HK HR HI hZ ⊢;clear h hs hi hl hg hl1 hbW kW HC hZ;go_enter Tryz.func161,Tryz.ntmps161;go_wp2_with fail
  refine wp_region_T (fun w'=>w'.cell? ⟨w.heap.size,3,none⟩=some (.slice ap dp.length cp)/\w'.cell? ⟨w.heap.size,4,none⟩=some (.string (txtOf dg))/\w'.cell? ⟨w.heap.size,6,none⟩=some (.slice ai di.length ci)) (fun _=>True) [] (by kernel_rfl) ⟨HK.out _ (Kq.refl _ _),trivial⟩ (fun hHeld=>?_);clear hW;generalize W.drew=U at hHeld HK HR HI HKW hBW ⊢
  refine wpAnyT_takeB (i:=0) (oi:=⟨some 4,.move (.tmp 0),_,_,_,_⟩) (v:=?v0) rfl (by kernel_rfl) (by kernel_rfl) (by kernel_rfl) (by kernel_rfl) (fun _ _ _ h=>h) (Or.inl ⟨by rfl,?hy0⟩) (by assumption) ?rest0
  case hy0=>(intro w hSw;(try dsimp only at hSw);obtain ⟨s0,s1,s2⟩:=hSw;go_simp;try (with_reducible rfl))
  try simp only [Act.put,List.setIfInBounds_toArray,List.set_cons_zero,List.set_cons_succ]
  refine wpAnyT_takeB (i:=1) (oi:=⟨some 5,.fieldAddr 51 (.tmp 3) 3,_,_,_,_⟩) (v:=?v1) rfl (by kernel_rfl) (by kernel_rfl) (by kernel_rfl) (by kernel_rfl) (fun _ _ _ h=>h) (Or.inl ⟨by rfl,?hy1⟩) (by assumption) ?rest1
  case hy1=>(intro w hSw;(try dsimp only at hSw);obtain ⟨s0,s1,s2⟩:=hSw;go_simp;try (with_reducible rfl))
  try simp only [Act.put,List.setIfInBounds_toArray,List.set_cons_zero,List.set_cons_succ]
  refine wpAnyT_takeB (i:=2) (oi:=⟨some 6,.load 49 (.tmp 5),_,_,_,_⟩) (v:=?v2) rfl (by kernel_rfl) (by kernel_rfl) (by kernel_rfl) (by kernel_rfl) (fun _ _ _ h=>h) (Or.inl ⟨by rfl,?hy2⟩) (by assumption) ?rest2
  case hy2=>(intro w hSw;(try dsimp only at hSw);obtain ⟨s0,s1,s2⟩:=hSw;go_simp;try (with_reducible rfl))
  try simp only [Act.put,List.setIfInBounds_toArray,List.set_cons_zero,List.set_cons_succ]
  refine wpAnyT_takeB (i:=4) (oi:=⟨some 8,.fieldAddr 51 (.tmp 3) 5,_,_,_,_⟩) (v:=?v4) rfl (by kernel_rfl) (by kernel_rfl) (by kernel_rfl) (by kernel_rfl) (fun _ _ _ h=>h) (Or.inl ⟨by rfl,?hy4⟩) (by assumption) ?rest4
  case hy4=>(intro w hSw;(try dsimp only at hSw);obtain ⟨s0,s1,s2⟩:=hSw;go_simp;try (with_reducible rfl))
  try simp only [Act.put,List.setIfInBounds_toArray,List.set_cons_zero,List.set_cons_succ]
  refine wpAnyT_takeB (i:=5) (oi:=⟨some 9,.load 22 (.tmp 8),_,_,_,_⟩) (v:=?v5) rfl (by kernel_rfl) (by kernel_rfl) (by kernel_rfl) (by kernel_rfl) (fun _ _ _ h=>h) (Or.inl ⟨by rfl,?hy5⟩) (by assumption) ?rest5
  case hy5=>(intro w hSw;(try dsimp only at hSw);obtain ⟨s0,s1,s2⟩:=hSw;go_simp;try (with_reducible rfl))
  try simp only [Act.put,List.setIfInBounds_toArray,List.set_cons_zero,List.set_cons_succ]
  clear hHeld;refine wpAnyT_one (i:=3) (o:=⟨some 7,.call { callee:=.value (.func 235),args:=#[(.tmp 4),(.tmp 6)],argTypes:=#[189,49] },_,_,_,_⟩) (by kernel_rfl) rfl (fun K hK=>?_);go_simp;refine calls_at HR.out (by with_reducible rfl) (by with_reducible rfl) ?_;rintro e w1 ⟨rfl,hp1,hk1⟩;have H1:Hid (PageAt B b (wordsP (rowT dp dg) l) w1/\Kq B U w1):=⟨hp1,hk1⟩;clear hp1 hk1;go_wp2_with fail
  refine hK.out _ _ ⟨HK.out _ H1.out.2,fun _=>trivial⟩ ?_;clear hK K;try simp only [Act.put,List.setIfInBounds_toArray,List.set_cons_zero,List.set_cons_succ]
  refine wpAnyT_one (i:=6) (o:=⟨some 10,.call { callee:=.value (.func 212),args:=#[(.tmp 7),(.tmp 9)],argTypes:=#[189,22] },_,_,_,_⟩) (by kernel_rfl) rfl (fun K hK=>?_);go_simp;refine calls_at (HI.out w1 H1.out.2 H1.out.1) (by with_reducible rfl) (by with_reducible rfl) ?_;rintro e w2 ⟨rfl,hp2,hk2⟩;have H2:Hid (PageAt B b Z w2/\Kq B U w2):=⟨hp2,H1.out.2.trans hk2⟩;clear hp2 hk2;go_wp2_with fail
  refine hK.out _ _ ⟨HK.out _ H2.out.2,fun _=>trivial⟩ ?_;clear hK K;try simp only [Act.put,List.setIfInBounds_toArray,List.set_cons_zero,List.set_cons_succ]
  refine wpAnyT_done (by kernel_rfl) ?_ _;go_wp2_with fail
  go_end0;exact ⟨rfl,H2.out.1,HKW.out.trans H2.out.2⟩
end Go.Proofs.YtpcijhecaedkpaaGreatDoor

namespace Go.Proofs.YtpcijhecaedkpaaGreatDoor
open Go.RowKit
set_option maxRecDepth 10000
set_option maxHeartbeats 8000000
def kindT (T:List FmL) (wr:FuncId->SL->List (List UInt8)) (k:Int) (d:SL):List (List UInt8):=T.flatMap fun f=>if f.1=k then f.2.1 :: wr f.2.2.2 d else []
structure TabW (T:List FmL) (wr:FuncId->SL->List (List UInt8)) (k:Int):Prop where
  leaf:∀ f∈T,f.1=k->Wrt f.2.2.2 (wr f.2.2.2)
  few:T.length<=100
  ent:∀ f∈T,Go.Proofs.Enters Tryz.prog f.2.2.2
theorem kindT_take (T:List FmL) (wr:FuncId->SL->List (List UInt8)) (k:Int) (d:SL) (j:Nat) (hj:j<T.length):kindT (T.take (j+1)) wr k d=kindT (T.take j) wr k d++(if T[j].1=k then T[j].2.1 :: wr T[j].2.2.2 d else []):=by
  unfold kindT;rw [List.take_succ_eq_append_getElem hj,List.flatMap_append];simp
theorem kindT_le (T:List FmL) (wr:FuncId->SL->List (List UInt8)) (k:Int) (d:SL) (j:Nat) (hj:j<T.length):tot (kindT (T.take j) wr k d)+tot (if T[j].1=k then T[j].2.1 :: wr T[j].2.2.2 d else [])<=tot (kindT T wr k d):=by
  have e:kindT T wr k d=kindT (T.take (j+1)) wr k d++kindT (T.drop (j+1)) wr k d:=by
    unfold kindT;rw [<-List.flatMap_append,List.take_append_drop]
  rw [e,kindT_take T wr k d j hj,tot_app,tot_app];omega
theorem tot_cons (x:List UInt8) (L:List (List UInt8)):tot (x :: L)=x.length+1+tot L:=by simp [tot]
theorem ppick_any {B b t:Nat} {l:List UInt8} {T:List FmL} {wf:FuncId->SL->List (List UInt8)} (k:Int) (hT:TabW T wf k) (d:SL) (vo vp vl vi:Value) (w:World) (h:PageAt B b l w) (htb:w.heap[t]?=some (.cells (fmsC T).toArray 226 (0,0))) (hs:SlE B w d vo vp vl vi) (hi:SlI d) (hl:l.length+tot (kindT T wf k d)<=900000000) (hBw:B<=w.heap.size) (hg:Gl w) (hB:12<=B):Calls Tryz.prog 127 #[.pointer (some ⟨b,0,none⟩),.slice (some ⟨t,0,none⟩) T.length T.length,.int .i64 k,.agg (slC d vo vp vl vi)] w (WrO B b (wordsP (kindT T wf k d) l) w):=by
  obtain ⟨W,hW⟩:∃ W,w.alloc (.cells (slC d vo vp vl vi) 51)=W:=⟨_,rfl⟩;have hbW:Below w.heap.size w W:=by rw [<-hW];exact (Below.refl _ _).alloc (Nat.le_refl _) _
  have HW:Hid (Kq B w W):=Kq.of_below hbW hBw;have HPW:Hid (PageAt B b l W):=page_below h hbW;have HTb:Hid (w.heap[t]?=some (.cells (fmsC T).toArray 226 (0,0))):=htb;have HBx:Hid (∀ w',Kq B W w'->w'.heap[w.heap.size]?=some (.cells (slC d vo vp vl vi) 51 (0,0))):=fun w' k=>box_held hW w' k
  have HS:Hid (SlE B w d vo vp vl vi):=hs;have HI:Hid (SlI d):=hi;have HG:Hid (Gl w):=hg;have HTw:Hid (TabW T wf k):=hT;have hTl:=hT.few;have HL:Hid (l.length+tot (kindT T wf k d)<=900000000):=hl;clear h htb hs hi hg hT hbW hl;unfold WrO;go_enter Tryz.func127,Tryz.ntmps127;unfold slC at hW;unfold slC;go_wp2_with fail
  go_loopw [12] (fun iv wr=>∃ j:Nat,iv=.int .i64 (j:Int)/\j<=T.length/\Hid (PageAt B b (wordsP (kindT (T.take j) wf k d) l) wr/\Kq B w wr/\Kq B W wr)) (fun iv _=>T.length-(intOf iv).toNat)
  case atStart=>exact ⟨0,rfl,Nat.zero_le _,HPW.out,HW.out,Kq.refl _ _⟩
  case round=>
    obtain ⟨j,rfl,hj,HP⟩:=hrel
    by_cases hjn:j<T.length
    · have hjI:(j:Int)<(T.length:Int):=by omega
      obtain ⟨k0,k1,k2,k3⟩:=tab_cell (HP.out.2.1.other _ _ _ _ HTb.out (by decide) (by decide)) j hjn;have HN0:=kindT_take T wf k d j hjn;have hle:=kindT_le T wf k d j hjn;obtain ⟨f,hf⟩:∃ f,T[j]=f:=⟨_,rfl⟩;have hmem:f∈T:=hf▸List.getElem_mem hjn;rw [hf] at k0 k1 k2 k3 HN0 hle;have hSF:∀ (W:World) (ad:Addr) (id:FuncId),(store ad (.func (.func id) #[] #[])).run Tryz.prog W=stored Tryz.prog W ad (.func (.func id) #[] #[]) .plain:=fun W ad id=>run_store Tryz.prog W ad _ _ rfl
      obtain ⟨m,hm⟩:∃ m,wordsP (kindT (T.take j) wf k d) l=m:=⟨_,rfl⟩;have hml:m.length+tot (if f.1=k then f.2.1 :: wf f.2.2.2 d else [])<=900000000:=by
        have h1:=words_len (kindT (T.take j) wf k d) l;have:=HL.out;rw [hm] at h1;omega
      have HN:Hid (wordsP (kindT (T.take (j+1)) wf k d) l=wordsP (if f.1=k then f.2.1 :: wf f.2.2.2 d else []) m):=by
        show _=_;rw [HN0,words_app,hm]
      have hBr:B<=wr.heap.size:=Nat.le_trans hBw HP.out.2.1.low.size;obtain ⟨X,hX⟩:∃ X,wr.alloc (.cells #[.int .i64 f.1,.string (txtOf f.2.1),.func (.func f.2.2.1) #[] #[],.func (.func f.2.2.2) #[] #[]] 226)=X:=⟨_,rfl⟩;have hbX:Below wr.heap.size wr X:=by rw [<-hX];exact (Below.refl _ _).alloc (Nat.le_refl _) _
      have gX:X.heap[wr.heap.size]?=some (.cells #[.int .i64 f.1,.string (txtOf f.2.1),.func (.func f.2.2.1) #[] #[],.func (.func f.2.2.2) #[] #[]] 226 (0,0)):=by rw [<-hX];exact heap_alloc_new wr _
      have HX:Hid (PageAt B b m X/\Kq B w X/\Kq B W X):=⟨by rw [<-hm];exact page_below HP.out.1 hbX,HP.out.2.1.trans (Kq.of_below hbX hBr),HP.out.2.2.trans (Kq.of_below hbX hBr)⟩;have hXs:X.heap.size=wr.heap.size+1:=by rw [<-hX];simp
      have HgX:Hid (X.heap[wr.heap.size]?=some (.cells #[.int .i64 f.1,.string (txtOf f.2.1),.func (.func f.2.2.1) #[] #[],.func (.func f.2.2.2) #[] #[]] 226 (0,0))):=gX;have d0:X.cell? ⟨wr.heap.size,0,none⟩=some (.int .i64 f.1):=cell_of gX 0;have d1:X.cell? ⟨wr.heap.size,1,none⟩=some (.string (txtOf f.2.1)):=cell_of gX 1;clear hbX gX HN0 hle hm
      by_cases hk:f.1=k
      · rw [if_pos hk,tot_cons] at hml
        have HN2:Hid (wordsP (kindT (T.take (j+1)) wf k d) l=wordsP (wf f.2.2.2 d) (wordP m f.2.1)):=by
          have:=HN.out;rw [if_pos hk] at this;exact this
        have HWd:Hid (Calls Tryz.prog 212 #[.pointer (some ⟨b,0,none⟩),.slice (some ⟨X.heap.size,0,none⟩) 1 1] (X.alloc (.cells #[.string (txtOf f.2.1)] 9)) fun e w'=>e=.returned (.pointer (some ⟨b,0,none⟩))/\PageAt B b (wordP m f.2.1) w'/\Kq B X w'):=words_one f.2.1 X HX.out.1 (by omega) (Nat.le_trans hBw HX.out.2.1.low.size);have HLf:Hid (∀ w',Kq B X w'->PageAt B b (wordP m f.2.1) w'->Calls Tryz.prog f.2.2.2 #[.pointer (some ⟨b,0,none⟩),.agg (slC d vo vp vl vi)] w' (WrO B b (wordsP (wf f.2.2.2 d) (wordP m f.2.1)) w')):=fun w' k' hp=>by
          have kw:=HX.out.2.1.trans k';refine HTw.out.leaf f hmem hk B b _ d vo vp vl vi w' hp (HS.out.next kw) HI.out ?_ (Nat.le_trans hBw kw.low.size) (HG.out.kq kw hB) hB;have:=word_len m f.2.1;omega
        have he:=HTw.out.ent f hmem;unfold Go.Proofs.Enters at he;have hkk:(f.1==k)=true:=by rw [hk];simp
        clear hXs hk;go_wp2_with fail
        refine calls_at HWd.out (by with_reducible rfl) (by with_reducible rfl) ?_;rintro e w3 ⟨rfl,hp3,hk3⟩;have gB:=HBx.out w3 (HX.out.2.2.trans hk3);have b0:=cell_of gB 0;have b1:=cell_of gB 1;have b2:=cell_of gB 2;have b3:=cell_of gB 3;have b4:=cell_of gB 4;have b5:=cell_of gB 5;have b6:=cell_of gB 6;have b7:=cell_of gB 7;have b8:=cell_of gB 8;have b9:=cell_of gB 9;unfold slC at b0 b1 b2 b3 b4 b5 b6 b7 b8 b9;dsimp at b0 b1 b2 b3 b4 b5 b6 b7 b8 b9;have e3:w3.cell? ⟨wr.heap.size,3,none⟩=some (.func (.func f.2.2.2) #[] #[]):=cell_of (hk3.other _ _ _ _ HgX.out (by decide) (by decide)) 3;have HL3:Hid (Calls Tryz.prog f.2.2.2 #[.pointer (some ⟨b,0,none⟩),.agg (slC d vo vp vl vi)] w3 (WrO B b (wordsP (wf f.2.2.2 d) (wordP m f.2.1)) w3)):=HLf.out w3 hk3 hp3;have HK3:Hid (Kq B X w3):=hk3;unfold slC at HL3;clear hp3 hk3 gB HLf
        go_wp2_with (go_at_fn f.2.2.2;refine calls_at HL3.out (by with_reducible rfl) (by with_reducible rfl) ?_;rintro e w7 ⟨rfl,h7,h8⟩;(have HZ:Hid (PageAt B b (wordsP (kindT (T.take (j+1)) wf k d) l) w7/\Kq B w w7/\Kq B W w7):=⟨by rw [HN2.out];exact h7,HX.out.2.1.trans (HK3.out.trans h8),HX.out.2.2.trans (HK3.out.trans h8)⟩);clear h7 h8);go_roundw
        case rel=>exact ⟨j+1,by go_num,hjn,HZ⟩
        case measure=>simp [intOf];omega
      · have hkk:(f.1==k)=false:=by simpa using hk
        have HX2:Hid (PageAt B b (wordsP (kindT (T.take (j+1)) wf k d) l) X/\Kq B w X/\Kq B W X):=⟨by rw [HN.out,if_neg hk];exact HX.out.1,HX.out.2⟩;clear hk hml;go_wp2_with fail
        go_roundw
        case rel=>exact ⟨j+1,by go_num,hjn,HX2⟩
        case measure=>simp [intOf];omega
    · have hjI:¬ (j:Int)<(T.length:Int):=by omega
      have HE:Hid (PageAt B b (wordsP (kindT T wf k d) l) wr/\Kq B w wr):=by
        have:=HP.out;rw [List.take_of_length_le (by omega)] at this;exact ⟨this.1,this.2.1⟩
      go_wp2_with fail
      go_end0;exact ⟨rfl,HE.out⟩
end Go.Proofs.YtpcijhecaedkpaaGreatDoor

namespace Go.Proofs.YtpcijhecaedkpaaGreatDoor
open Go.RowKit
set_option maxRecDepth 10000
set_option maxHeartbeats 8000000
theorem write_any {B:Nat} {wf:FuncId->SL->List (List UInt8)} (d:SL) (hT:TabW formsL wf d.k) (vo vp vl vi:Value) (w:World) (hs:SlE B w d vo vp vl vi) (hi:SlI d) (hl:tot (kindT formsL wf d.k d)<=900000000) (hBw:B<=w.heap.size) (hg:Gl w) (hB:12<=B):Calls Tryz.prog 60 #[.agg (slC d vo vp vl vi)] w fun e w'=>e=.returned (.string (txtOf (wordsP (kindT formsL wf d.k d) [])))/\Below B w w':=by
  obtain ⟨W,hW⟩:∃ W,w.alloc (.cells (slC d vo vp vl vi) 51)=W:=⟨_,rfl⟩;obtain ⟨V,hV⟩:∃ V,W.alloc (.cells #[.pointer none,.slice none 0 0] 191)=V:=⟨_,rfl⟩;have hbW:Below w.heap.size w W:=by rw [<-hW];exact (Below.refl _ _).alloc (Nat.le_refl _) _
  have hbV:Below W.heap.size W V:=by rw [<-hV];exact (Below.refl _ _).alloc (Nat.le_refl _) _
  have gV:V.heap[W.heap.size]?=some (.cells #[.pointer none,.slice none 0 0] 191 (0,0)):=by rw [<-hV];exact heap_alloc_new W _
  have kW:Kq B w W:=Kq.of_below hbW hBw;have kV:Kq B W V.drew:=Kq.of_below hbV.drew (Nat.le_trans hBw hbW.size);have hBV:B<=V.drew.heap.size:=Nat.le_trans hBw (kW.trans kV).low.size;have hP:PageAt B W.heap.size [] V.drew:=⟨Nat.le_trans hBw hbW.size,none,.slice none 0 0,gV,.inl rfl,own_z _ _ _ _⟩
  have HBx:Hid (∀ w',Kq B V.drew w'->w'.cell? ⟨w.heap.size,0,none⟩=some (.int .i64 d.k)/\w'.cell? ⟨w.heap.size,1,none⟩=some (.string (txtOf d.n))/\w'.cell? ⟨w.heap.size,2,none⟩=some (vo)/\w'.cell? ⟨w.heap.size,3,none⟩=some (vp)/\w'.cell? ⟨w.heap.size,4,none⟩=some (.string (txtOf d.deg))/\w'.cell? ⟨w.heap.size,5,none⟩=some (vl)/\w'.cell? ⟨w.heap.size,6,none⟩=some (vi)/\w'.cell? ⟨w.heap.size,7,none⟩=some (.int .i64 d.ends)/\w'.cell? ⟨w.heap.size,8,none⟩=some (.string (txtOf d.low))/\w'.cell? ⟨w.heap.size,9,none⟩=some (.string (txtOf d.high))):=fun w' k=>by
    have gB:=box_held hW w' (kV.trans k);exact ⟨cell_of gB 0,cell_of gB 1,cell_of gB 2,cell_of gB 3,cell_of gB 4,cell_of gB 5,cell_of gB 6,cell_of gB 7,cell_of gB 8,cell_of gB 9⟩
  have HF:Hid (Calls Tryz.prog 95 #[] V.drew fun e w'=>e=.returned (.slice (some ⟨V.drew.heap.size,0,none⟩) 12 12)/\w'.heap[V.drew.heap.size]?=some (.cells (fmsC formsL).toArray 226 (0,0))/\Below V.drew.heap.size V.drew w'):=(forms_any V.drew).mono fun e w' hq=>⟨hq.1,by rw [hq.2];exact heap_alloc_new V.drew _,by rw [hq.2];exact (Below.refl _ _).alloc (Nat.le_refl _) _⟩
  have HPk:Hid (∀ w',w'.heap[V.drew.heap.size]?=some (.cells (fmsC formsL).toArray 226 (0,0))->Below V.drew.heap.size V.drew w'->Calls Tryz.prog 127 #[.pointer (some ⟨W.heap.size,0,none⟩),.slice (some ⟨V.drew.heap.size,0,none⟩) 12 12,.int .i64 d.k,.agg (slC d vo vp vl vi)] w' (WrO B W.heap.size (wordsP (kindT formsL wf d.k d) []) w')):=fun w' hg1 hb1=>by
    have k1:=(kW.trans kV).trans (Kq.of_below hb1 hBV);exact ppick_any d.k hT d vo vp vl vi w' (page_below hP hb1) hg1 (hs.next k1) hi (by simpa using hl) (Nat.le_trans hBw k1.low.size) (hg.kq k1 hB) hB
  have HKV:Hid (Kq B w V.drew):=kW.trans kV;obtain ⟨Z,hZ⟩:∃ Z,wordsP (kindT formsL wf d.k d) []=Z:=⟨_,rfl⟩;rw [hZ] at HPk;rw [hZ];unfold slC at hW HPk;unfold slC;obtain ⟨ao,co,rfl,_,_⟩:=hs.o;obtain ⟨ap,cp,rfl,_,_⟩:=hs.p;obtain ⟨al,cl,rfl,_,_⟩:=hs.l;obtain ⟨ai,ci,rfl,_,_⟩:=hs.i;clear hs hi hl hg hT hbW hbV gV kW kV hP hZ;go_enter Tryz.func60,Tryz.ntmps60;go_wp2_with fail
  refine wp_region_T (fun w'=>w'.cell? ⟨w.heap.size,0,none⟩=some (.int .i64 d.k)/\w'.cell? ⟨w.heap.size,1,none⟩=some (.string (txtOf d.n))/\w'.cell? ⟨w.heap.size,2,none⟩=some (.slice ao d.ops.length co)/\w'.cell? ⟨w.heap.size,3,none⟩=some (.slice ap d.pcs.length cp)/\w'.cell? ⟨w.heap.size,4,none⟩=some (.string (txtOf d.deg))/\w'.cell? ⟨w.heap.size,5,none⟩=some (.slice al d.lits.length cl)/\w'.cell? ⟨w.heap.size,6,none⟩=some (.slice ai d.ids.length ci)/\w'.cell? ⟨w.heap.size,7,none⟩=some (.int .i64 d.ends)/\w'.cell? ⟨w.heap.size,8,none⟩=some (.string (txtOf d.low))/\w'.cell? ⟨w.heap.size,9,none⟩=some (.string (txtOf d.high))) (fun _=>True) [] (by kernel_rfl) ⟨HBx.out _ (Kq.refl _ _),trivial⟩ (fun hHeld=>?_);clear hW hV;generalize V.drew=U at hHeld HBx HF HPk HKV hBV ⊢
  generalize W.heap.size=b at HPk ⊢
  refine wpAnyT_takeB (i:=0) (oi:=⟨some 6,.move (.tmp 3),_,_,_,_⟩) (v:=?v0) rfl (by kernel_rfl) (by kernel_rfl) (by kernel_rfl) (by kernel_rfl) (fun _ _ _ h=>h) (Or.inl ⟨by rfl,?hy0⟩) (by assumption) ?rest0
  case hy0=>(intro w hSw;(try dsimp only at hSw);obtain ⟨s0,s1,s2,s3,s4,s5,s6,s7,s8,s9⟩:=hSw;go_simp;try (with_reducible rfl))
  try simp only [Act.put,List.setIfInBounds_toArray,List.set_cons_zero,List.set_cons_succ]
  refine wpAnyT_takeB (i:=2) (oi:=⟨some 8,.fieldAddr 51 (.tmp 1) 0,_,_,_,_⟩) (v:=?v2) rfl (by kernel_rfl) (by kernel_rfl) (by kernel_rfl) (by kernel_rfl) (fun _ _ _ h=>h) (Or.inl ⟨by rfl,?hy2⟩) (by assumption) ?rest2
  case hy2=>(intro w hSw;(try dsimp only at hSw);obtain ⟨s0,s1,s2,s3,s4,s5,s6,s7,s8,s9⟩:=hSw;go_simp;try (with_reducible rfl))
  try simp only [Act.put,List.setIfInBounds_toArray,List.set_cons_zero,List.set_cons_succ]
  refine wpAnyT_takeB (i:=3) (oi:=⟨some 9,.load 3 (.tmp 8),_,_,_,_⟩) (v:=?v3) rfl (by kernel_rfl) (by kernel_rfl) (by kernel_rfl) (by kernel_rfl) (fun _ _ _ h=>h) (Or.inl ⟨by rfl,?hy3⟩) (by assumption) ?rest3
  case hy3=>(intro w hSw;(try dsimp only at hSw);obtain ⟨s0,s1,s2,s3,s4,s5,s6,s7,s8,s9⟩:=hSw;go_simp;try (with_reducible rfl))
  try simp only [Act.put,List.setIfInBounds_toArray,List.set_cons_zero,List.set_cons_succ]
  refine wpAnyT_takeB (i:=4) (oi:=⟨some 10,.load 51 (.tmp 1),_,_,_,_⟩) (v:=?v4) rfl (by kernel_rfl) (by kernel_rfl) (by kernel_rfl) (by kernel_rfl) (fun _ _ _ h=>h) (Or.inl ⟨by rfl,?hy4⟩) (by assumption) ?rest4
  case hy4=>(intro w hSw;(try dsimp only at hSw);obtain ⟨s0,s1,s2,s3,s4,s5,s6,s7,s8,s9⟩:=hSw;go_simp;try (with_reducible rfl))
  try simp only [Act.put,List.setIfInBounds_toArray,List.set_cons_zero,List.set_cons_succ]
  clear hHeld;refine wpAnyT_one (i:=1) (o:=⟨some 7,.call { callee:=.value (.func 95),args:=#[],argTypes:=#[] },_,_,_,_⟩) (by kernel_rfl) rfl (fun K hK=>?_);go_simp;refine calls_at HF.out (by with_reducible rfl) (by with_reducible rfl) ?_;rintro e w1 ⟨rfl,hg1,hb1⟩;have H1:Hid (w1.heap[U.heap.size]?=some (.cells (fmsC formsL).toArray 226 (0,0))/\Below U.heap.size U w1):=⟨hg1,hb1⟩;clear hg1 hb1;go_wp2_with fail
  refine hK.out _ _ ⟨HBx.out _ (Kq.of_below H1.out.2 hBV),fun _=>trivial⟩ ?_;clear hK K;try simp only [Act.put,List.setIfInBounds_toArray,List.set_cons_zero,List.set_cons_succ]
  refine wpAnyT_one (i:=5) (o:=⟨some 11,.call { callee:=.value (.func 127),args:=#[(.tmp 6),(.tmp 7),(.tmp 9),(.tmp 10)],argTypes:=#[189,144,3,51] },_,_,_,_⟩) (by kernel_rfl) rfl (fun K hK=>?_);go_simp;refine calls_at (HPk.out w1 H1.out.1 H1.out.2) (by with_reducible rfl) (by with_reducible rfl) ?_;rintro e w2 ⟨rfl,hp2,hk2⟩;have H2:Hid (PageAt B b Z w2/\Kq B U w2):=⟨hp2,(Kq.of_below H1.out.2 hBV).trans hk2⟩;clear hp2 hk2;go_wp2_with fail
  refine hK.out _ _ ⟨HBx.out _ H2.out.2,fun _=>trivial⟩ ?_;clear hK K;try simp only [Act.put,List.setIfInBounds_toArray,List.set_cons_zero,List.set_cons_succ]
  refine wpAnyT_done (by kernel_rfl) ?_ _;have HSt:Hid (Calls Tryz.prog 82 #[.pointer (some ⟨b,0,none⟩)] w2 fun e w'=>e=.returned (.string (txtOf Z))/\Below B w2 w'):=by
    by_cases h0:Z=[]
    · have h1:=H2.out.1
      rw [h0] at h1 ⊢;exact string_none B b w2 h1
    · exact string_any B b Z w2 H2.out.1 h0
  go_wp2_with fail
  refine calls_at HSt.out (by with_reducible rfl) (by with_reducible rfl) ?_;rintro e w3 ⟨rfl,hb3⟩;have H3:Hid (Below B w w3):=(HKV.out.low.trans H2.out.2.low).trans hb3;clear hb3;go_wp2_with fail
  go_ret;exact ⟨rfl,H3.out⟩
end Go.Proofs.YtpcijhecaedkpaaGreatDoor

namespace Go.Proofs.YtpcijhecaedkpaaGreatDoor
open Go.RowKit
set_option maxRecDepth 10000
set_option maxHeartbeats 8000000
theorem take_grow {α:Type} {L M:List α} {k:Nat} (h:L.take k=M.take k) (h1:k<L.length) (h2:k<M.length) (he:L[k]=M[k]):L.take (k+1)=M.take (k+1):=by
  rw [List.take_succ_eq_append_getElem h1,List.take_succ_eq_append_getElem h2,h,he]
theorem take_all {α:Type} {L M:List α} {k:Nat} (h:L.take k=M.take k) (h1:L.length<=k) (h2:M.length<=k):L=M:=by
  rw [List.take_of_length_le h1,List.take_of_length_le h2] at h;exact h
theorem get_ne {α:Type} {L M:List α} {k:Nat} (h1:k<L.length) (h2:k<M.length) (he:L[k]≠M[k]):L≠M:=fun e=>by subst e;exact he rfl
theorem eq62g (L M:List PcL) (v v':Value) (w:World) (h:RdAt w v L.length (pcsC L)) (h':RdAt w v' M.length (pcsC M)):Calls Tryz.prog 128 #[v,v'] w fun e w'=>e=.returned (.bool (decide (L=M)))/\Below w.heap.size w w':=by
  obtain ⟨a,cap,rfl,hn,hc⟩:=h;obtain ⟨a',cap',rfl,hn',hc'⟩:=h'
  by_cases hlen:L.length=M.length
  · have HC:Hid (∀ w',Below w.heap.size w w'->∀ j (hj:j<L.length),∃ g off,a=some ⟨g,off,none⟩/\w'.cell? ⟨g,off+j*2,none⟩=some (.string (txtOf L[j].1))/\w'.cell? ⟨g,off+j*2+1,none⟩=some (.int .i64 L[j].2)):=fun w' hb j hj=>by
      obtain ⟨g,off,e1,e2,e3⟩:=hc (by omega);obtain ⟨p1,p2⟩:=pcs_get L j hj;exact ⟨g,off,e1,(hb.cell (p:=⟨g,off+j*2,none⟩) e2).trans (e3 _ _ p1),(hb.cell (p:=⟨g,off+j*2+1,none⟩) e2).trans (e3 _ _ p2)⟩
    have HC':Hid (∀ w',Below w.heap.size w w'->∀ j (hj:j<M.length),∃ g off,a'=some ⟨g,off,none⟩/\w'.cell? ⟨g,off+j*2,none⟩=some (.string (txtOf M[j].1))/\w'.cell? ⟨g,off+j*2+1,none⟩=some (.int .i64 M[j].2)):=fun w' hb j hj=>by
      obtain ⟨g,off,e1,e2,e3⟩:=hc' (by omega);obtain ⟨p1,p2⟩:=pcs_get M j hj;exact ⟨g,off,e1,(hb.cell (p:=⟨g,off+j*2,none⟩) e2).trans (e3 _ _ p1),(hb.cell (p:=⟨g,off+j*2+1,none⟩) e2).trans (e3 _ _ p2)⟩
    have HLen:Hid (L.length=M.length):=hlen;rw [<-hlen];clear hc hc' hlen hn';go_enter Tryz.func128,Tryz.ntmps128;go_wp2_with fail
    go_loopw [13] (fun iv wr=>∃ k:Nat,iv=.int .i64 (k:Int)/\k<=L.length/\Hid (Below w.heap.size w wr/\L.take k=M.take k)) (fun iv _=>L.length-(intOf iv).toNat)
    case atStart=>exact ⟨0,rfl,Nat.zero_le _,Below.refl _ _,rfl⟩
    case round=>
      obtain ⟨k,rfl,hk,HBr⟩:=hrel
      by_cases hkn:k<L.length
      · have hkI:(k:Int)<(L.length:Int):=by omega
        have hkm:k<M.length:=by have:=HLen.out;omega
        obtain ⟨g,off,rfl,x0,x1⟩:=HC.out wr HBr.out.1 k hkn;obtain ⟨g',off',rfl,y0,y1⟩:=HC'.out wr HBr.out.1 k hkm
        by_cases hel:L[k]=M[k]
        · have HNx:Hid (L.take (k+1)=M.take (k+1)):=take_grow HBr.out.2 hkn hkm hel
          rw [<-hel] at y0 y1;obtain ⟨T,hT⟩:∃ T,txtOf L[k].1=T:=⟨_,rfl⟩;obtain ⟨n,hn2⟩:∃ n,L[k].2=n:=⟨_,rfl⟩;rw [hT] at x0 y0;rw [hn2] at x1 y1;have hne:∀ W,(binOp .neq 160 (.agg #[.string T,.int .i64 n]) (.agg #[.string T,.int .i64 n])).run Tryz.prog W=.ok (.bool false) W:=fun W=>by rw [pc_neq];simp
          clear hT hn2 hel;go_wp2_with fail
          go_region;have HBd:Hid (Below w.heap.size w wr.drew):=HBr.out.1.drew;go_wp2_with fail
          go_roundw
          case rel=>exact ⟨k+1,by go_num,hkn,HBd.out,HNx.out⟩
          case measure=>simp [intOf];omega
        · have HNo:Hid (decide (L=M)=false):=decide_eq_false (get_ne hkn hkm hel)
          have hb:((txtOf L[k].1).toList==(txtOf M[k].1).toList&&L[k].2==M[k].2)=false:=by
            rw [txt_beq]
            cases hq:decide (L[k].1=M[k].1) with
            | false=>rfl
            | true =>
              have h2:L[k].2≠M[k].2:=fun e=>hel (Prod.ext (of_decide_eq_true hq) e)
              simpa using h2
          obtain ⟨T,hT⟩:∃ T,txtOf L[k].1=T:=⟨_,rfl⟩;obtain ⟨n,hn2⟩:∃ n,L[k].2=n:=⟨_,rfl⟩;obtain ⟨T',hT'⟩:∃ T,txtOf M[k].1=T:=⟨_,rfl⟩;obtain ⟨n',hn3⟩:∃ n,M[k].2=n:=⟨_,rfl⟩;rw [hT] at x0 hb;rw [hT'] at y0 hb;rw [hn2] at x1 hb;rw [hn3] at y1 hb;have hne:∀ W,(binOp .neq 160 (.agg #[.string T,.int .i64 n]) (.agg #[.string T',.int .i64 n'])).run Tryz.prog W=.ok (.bool true) W:=fun W=>by rw [pc_neq,hb];rfl
          clear hT hn2 hT' hn3 hel hb;go_wp2_with fail
          go_region;have HBd:Hid (Below w.heap.size w wr.drew):=HBr.out.1.drew;go_wp2_with fail
          go_ret;exact ⟨by rw [HNo.out];rfl,HBd.out⟩
      · have hkI:¬ (k:Int)<(L.length:Int):=by omega
        have HYes:Hid (decide (L=M)=true):=decide_eq_true (take_all HBr.out.2 (by omega) (by have:=HLen.out;omega));go_wp2_with fail
        go_ret;exact ⟨by rw [HYes.out];rfl,HBr.out.1⟩
  · have hlI:¬ ((L.length:Int)=(M.length:Int)):=by omega
    have HNo:Hid (decide (L=M)=false):=decide_eq_false fun e=>hlen (by rw [e])
    clear hc hc';go_enter Tryz.func128,Tryz.ntmps128;go_wp2_with fail
    go_ret;exact ⟨by rw [HNo.out];rfl,Below.refl _ _⟩
theorem eq63g (L M:List OpL) (v v':Value) (w:World) (h:RdAt w v L.length (opsC L)) (h':RdAt w v' M.length (opsC M)):Calls Tryz.prog 129 #[v,v'] w fun e w'=>e=.returned (.bool (decide (L=M)))/\Below w.heap.size w w':=by
  obtain ⟨a,cap,rfl,hn,hc⟩:=h;obtain ⟨a',cap',rfl,hn',hc'⟩:=h'
  by_cases hlen:L.length=M.length
  · have HC:Hid (∀ w',Below w.heap.size w w'->∀ j (hj:j<L.length),∃ g off,a=some ⟨g,off,none⟩/\w'.cell? ⟨g,off+j*3,none⟩=some (.int .i64 L[j].1)/\w'.cell? ⟨g,off+j*3+1,none⟩=some (.string (txtOf L[j].2.1))/\w'.cell? ⟨g,off+j*3+2,none⟩=some (.int .i64 L[j].2.2)):=fun w' hb j hj=>by
      obtain ⟨g,off,e1,e2,e3⟩:=hc (by omega);obtain ⟨p1,p2,p3⟩:=ops_get L j hj;exact ⟨g,off,e1,(hb.cell (p:=⟨g,off+j*3,none⟩) e2).trans (e3 _ _ p1),(hb.cell (p:=⟨g,off+j*3+1,none⟩) e2).trans (e3 _ _ p2),(hb.cell (p:=⟨g,off+j*3+2,none⟩) e2).trans (e3 _ _ p3)⟩
    have HC':Hid (∀ w',Below w.heap.size w w'->∀ j (hj:j<M.length),∃ g off,a'=some ⟨g,off,none⟩/\w'.cell? ⟨g,off+j*3,none⟩=some (.int .i64 M[j].1)/\w'.cell? ⟨g,off+j*3+1,none⟩=some (.string (txtOf M[j].2.1))/\w'.cell? ⟨g,off+j*3+2,none⟩=some (.int .i64 M[j].2.2)):=fun w' hb j hj=>by
      obtain ⟨g,off,e1,e2,e3⟩:=hc' (by omega);obtain ⟨p1,p2,p3⟩:=ops_get M j hj;exact ⟨g,off,e1,(hb.cell (p:=⟨g,off+j*3,none⟩) e2).trans (e3 _ _ p1),(hb.cell (p:=⟨g,off+j*3+1,none⟩) e2).trans (e3 _ _ p2),(hb.cell (p:=⟨g,off+j*3+2,none⟩) e2).trans (e3 _ _ p3)⟩
    have HLen:Hid (L.length=M.length):=hlen;rw [<-hlen];clear hc hc' hlen hn';go_enter Tryz.func129,Tryz.ntmps129;go_wp2_with fail
    go_loopw [13] (fun iv wr=>∃ k:Nat,iv=.int .i64 (k:Int)/\k<=L.length/\Hid (Below w.heap.size w wr/\L.take k=M.take k)) (fun iv _=>L.length-(intOf iv).toNat)
    case atStart=>exact ⟨0,rfl,Nat.zero_le _,Below.refl _ _,rfl⟩
    case round=>
      obtain ⟨k,rfl,hk,HBr⟩:=hrel
      by_cases hkn:k<L.length
      · have hkI:(k:Int)<(L.length:Int):=by omega
        have hkm:k<M.length:=by have:=HLen.out;omega
        obtain ⟨g,off,rfl,x0,x1,x2⟩:=HC.out wr HBr.out.1 k hkn;obtain ⟨g',off',rfl,y0,y1,y2⟩:=HC'.out wr HBr.out.1 k hkm
        by_cases hel:L[k]=M[k]
        · have HNx:Hid (L.take (k+1)=M.take (k+1)):=take_grow HBr.out.2 hkn hkm hel
          rw [<-hel] at y0 y1 y2;obtain ⟨T,hT⟩:∃ T,txtOf L[k].2.1=T:=⟨_,rfl⟩;obtain ⟨k1,hk1⟩:∃ n,L[k].1=n:=⟨_,rfl⟩;obtain ⟨k3,hk3⟩:∃ n,L[k].2.2=n:=⟨_,rfl⟩;rw [hT] at x1 y1;rw [hk1] at x0 y0;rw [hk3] at x2 y2;have hne:∀ W,(binOp .neq 106 (.agg #[.int .i64 k1,.string T,.int .i64 k3]) (.agg #[.int .i64 k1,.string T,.int .i64 k3])).run Tryz.prog W=.ok (.bool false) W:=fun W=>by rw [op_neq];simp
          clear hT hk1 hk3 hel;go_wp2_with fail
          go_region;have HBd:Hid (Below w.heap.size w wr.drew):=HBr.out.1.drew;go_wp2_with fail
          go_roundw
          case rel=>exact ⟨k+1,by go_num,hkn,HBd.out,HNx.out⟩
          case measure=>simp [intOf];omega
        · have HNo:Hid (decide (L=M)=false):=decide_eq_false (get_ne hkn hkm hel)
          have hb:(L[k].1==M[k].1&&(txtOf L[k].2.1).toList==(txtOf M[k].2.1).toList&&L[k].2.2==M[k].2.2)=false:=by
            rw [txt_beq]
            cases hq:decide (L[k].2.1=M[k].2.1) with
            | false=>simp
            | true =>
              by_cases h1:L[k].1=M[k].1
              · have h2:L[k].2.2≠M[k].2.2:=fun e=>hel (Prod.ext h1 (Prod.ext (of_decide_eq_true hq) e))
                simp [h1];simpa using h2
              · have:(L[k].1==M[k].1)=false:=by simpa using h1
                rw [this];rfl
          obtain ⟨T,hT⟩:∃ T,txtOf L[k].2.1=T:=⟨_,rfl⟩;obtain ⟨k1,hk1⟩:∃ n,L[k].1=n:=⟨_,rfl⟩;obtain ⟨k3,hk3⟩:∃ n,L[k].2.2=n:=⟨_,rfl⟩;obtain ⟨T',hT'⟩:∃ T,txtOf M[k].2.1=T:=⟨_,rfl⟩;obtain ⟨k1',hk1'⟩:∃ n,M[k].1=n:=⟨_,rfl⟩;obtain ⟨k3',hk3'⟩:∃ n,M[k].2.2=n:=⟨_,rfl⟩;rw [hT] at x1 hb;rw [hk1] at x0 hb;rw [hk3] at x2 hb;rw [hT'] at y1 hb;rw [hk1'] at y0 hb;rw [hk3'] at y2 hb;have hne:∀ W,(binOp .neq 106 (.agg #[.int .i64 k1,.string T,.int .i64 k3]) (.agg #[.int .i64 k1',.string T',.int .i64 k3'])).run Tryz.prog W=.ok (.bool true) W:=fun W=>by rw [op_neq,hb];rfl
          clear hT hk1 hk3 hT' hk1' hk3' hel hb;go_wp2_with fail
          go_region;have HBd:Hid (Below w.heap.size w wr.drew):=HBr.out.1.drew;go_wp2_with fail
          go_ret;exact ⟨by rw [HNo.out];rfl,HBd.out⟩
      · have hkI:¬ (k:Int)<(L.length:Int):=by omega
        have HYes:Hid (decide (L=M)=true):=decide_eq_true (take_all HBr.out.2 (by omega) (by have:=HLen.out;omega));go_wp2_with fail
        go_ret;exact ⟨by rw [HYes.out];rfl,HBr.out.1⟩
  · have hlI:¬ ((L.length:Int)=(M.length:Int)):=by omega
    have HNo:Hid (decide (L=M)=false):=decide_eq_false fun e=>hlen (by rw [e])
    clear hc hc';go_enter Tryz.func129,Tryz.ntmps129;go_wp2_with fail
    go_ret;exact ⟨by rw [HNo.out];rfl,Below.refl _ _⟩
theorem eq64g (L M:List Int) (v v':Value) (w:World) (h:RdAt w v L.length (L.map (.int .i64))) (h':RdAt w v' M.length (M.map (.int .i64))):Calls Tryz.prog 130 #[v,v'] w fun e w'=>e=.returned (.bool (decide (L=M)))/\Below w.heap.size w w':=by
  obtain ⟨a,cap,rfl,hn,hc⟩:=h;obtain ⟨a',cap',rfl,hn',hc'⟩:=h'
  by_cases hlen:L.length=M.length
  · have HC:Hid (∀ w',Below w.heap.size w w'->∀ j (hj:j<L.length),∃ g off,a=some ⟨g,off,none⟩/\w'.cell? ⟨g,off+j,none⟩=some (.int .i64 L[j])):=fun w' hb j hj=>by
      obtain ⟨g,off,e1,e2,e3⟩:=hc (by omega);have p1:(L.map (Value.int .i64))[j]?=some (.int .i64 L[j]):=by simp [hj]
      exact ⟨g,off,e1,(hb.cell (p:=⟨g,off+j,none⟩) e2).trans (e3 _ _ p1)⟩
    have HC':Hid (∀ w',Below w.heap.size w w'->∀ j (hj:j<M.length),∃ g off,a'=some ⟨g,off,none⟩/\w'.cell? ⟨g,off+j,none⟩=some (.int .i64 M[j])):=fun w' hb j hj=>by
      obtain ⟨g,off,e1,e2,e3⟩:=hc' (by omega);have p1:(M.map (Value.int .i64))[j]?=some (.int .i64 M[j]):=by simp [hj]
      exact ⟨g,off,e1,(hb.cell (p:=⟨g,off+j,none⟩) e2).trans (e3 _ _ p1)⟩
    have HLen:Hid (L.length=M.length):=hlen;rw [<-hlen];clear hc hc' hlen hn';go_enter Tryz.func130,Tryz.ntmps130;go_wp2_with fail
    go_loopw [13] (fun iv wr=>∃ k:Nat,iv=.int .i64 (k:Int)/\k<=L.length/\Hid (Below w.heap.size w wr/\L.take k=M.take k)) (fun iv _=>L.length-(intOf iv).toNat)
    case atStart=>exact ⟨0,rfl,Nat.zero_le _,Below.refl _ _,rfl⟩
    case round=>
      obtain ⟨k,rfl,hk,HBr⟩:=hrel
      by_cases hkn:k<L.length
      · have hkI:(k:Int)<(L.length:Int):=by omega
        have hkm:k<M.length:=by have:=HLen.out;omega
        obtain ⟨g,off,rfl,x0⟩:=HC.out wr HBr.out.1 k hkn;obtain ⟨g',off',rfl,y0⟩:=HC'.out wr HBr.out.1 k hkm
        by_cases hel:L[k]=M[k]
        · have HNx:Hid (L.take (k+1)=M.take (k+1)):=take_grow HBr.out.2 hkn hkm hel
          rw [<-hel] at y0;obtain ⟨z,hz⟩:∃ z,L[k]=z:=⟨_,rfl⟩;rw [hz] at x0 y0;clear hz hel;go_wp2_with fail
          go_region;have HBd:Hid (Below w.heap.size w wr.drew):=HBr.out.1.drew;go_wp2_with fail
          go_roundw
          case rel=>exact ⟨k+1,by go_num,hkn,HBd.out,HNx.out⟩
          case measure=>simp [intOf];omega
        · have HNo:Hid (decide (L=M)=false):=decide_eq_false (get_ne hkn hkm hel)
          obtain ⟨z,hz⟩:∃ z,L[k]=z:=⟨_,rfl⟩;obtain ⟨z',hz'⟩:∃ z,M[k]=z:=⟨_,rfl⟩;rw [hz] at x0 hel;rw [hz'] at y0 hel;have hb:(z != z')=true:=by simpa using hel
          clear hz hz' hel;go_wp2_with fail
          go_region;have HBd:Hid (Below w.heap.size w wr.drew):=HBr.out.1.drew;go_wp2_with fail
          go_ret;exact ⟨by rw [HNo.out];rfl,HBd.out⟩
      · have hkI:¬ (k:Int)<(L.length:Int):=by omega
        have HYes:Hid (decide (L=M)=true):=decide_eq_true (take_all HBr.out.2 (by omega) (by have:=HLen.out;omega));go_wp2_with fail
        go_ret;exact ⟨by rw [HYes.out];rfl,HBr.out.1⟩
  · have hlI:¬ ((L.length:Int)=(M.length:Int)):=by omega
    have HNo:Hid (decide (L=M)=false):=decide_eq_false fun e=>hlen (by rw [e])
    clear hc hc';go_enter Tryz.func130,Tryz.ntmps130;go_wp2_with fail
    go_ret;exact ⟨by rw [HNo.out];rfl,Below.refl _ _⟩
theorem eq65g (L M:List (List UInt8)) (v v':Value) (w:World) (h:RdAt w v L.length (L.map fun x=>.string (txtOf x))) (h':RdAt w v' M.length (M.map fun x=>.string (txtOf x))):Calls Tryz.prog 131 #[v,v'] w fun e w'=>e=.returned (.bool (decide (L=M)))/\Below w.heap.size w w':=by
  obtain ⟨a,cap,rfl,hn,hc⟩:=h;obtain ⟨a',cap',rfl,hn',hc'⟩:=h'
  by_cases hlen:L.length=M.length
  · have HC:Hid (∀ w',Below w.heap.size w w'->∀ j (hj:j<L.length),∃ g off,a=some ⟨g,off,none⟩/\w'.cell? ⟨g,off+j,none⟩=some (.string (txtOf L[j]))):=fun w' hb j hj=>by
      obtain ⟨g,off,e1,e2,e3⟩:=hc (by omega);have p1:(L.map fun x=>Value.string (txtOf x))[j]?=some (.string (txtOf L[j])):=by simp [hj]
      exact ⟨g,off,e1,(hb.cell (p:=⟨g,off+j,none⟩) e2).trans (e3 _ _ p1)⟩
    have HC':Hid (∀ w',Below w.heap.size w w'->∀ j (hj:j<M.length),∃ g off,a'=some ⟨g,off,none⟩/\w'.cell? ⟨g,off+j,none⟩=some (.string (txtOf M[j]))):=fun w' hb j hj=>by
      obtain ⟨g,off,e1,e2,e3⟩:=hc' (by omega);have p1:(M.map fun x=>Value.string (txtOf x))[j]?=some (.string (txtOf M[j])):=by simp [hj]
      exact ⟨g,off,e1,(hb.cell (p:=⟨g,off+j,none⟩) e2).trans (e3 _ _ p1)⟩
    have HLen:Hid (L.length=M.length):=hlen;rw [<-hlen];clear hc hc' hlen hn';go_enter Tryz.func131,Tryz.ntmps131;go_wp2_with fail
    go_loopw [13] (fun iv wr=>∃ k:Nat,iv=.int .i64 (k:Int)/\k<=L.length/\Hid (Below w.heap.size w wr/\L.take k=M.take k)) (fun iv _=>L.length-(intOf iv).toNat)
    case atStart=>exact ⟨0,rfl,Nat.zero_le _,Below.refl _ _,rfl⟩
    case round=>
      obtain ⟨k,rfl,hk,HBr⟩:=hrel
      by_cases hkn:k<L.length
      · have hkI:(k:Int)<(L.length:Int):=by omega
        have hkm:k<M.length:=by have:=HLen.out;omega
        obtain ⟨g,off,rfl,x0⟩:=HC.out wr HBr.out.1 k hkn;obtain ⟨g',off',rfl,y0⟩:=HC'.out wr HBr.out.1 k hkm
        by_cases hel:L[k]=M[k]
        · have HNx:Hid (L.take (k+1)=M.take (k+1)):=take_grow HBr.out.2 hkn hkm hel
          rw [<-hel] at y0;have hq:=txt_beq L[k] L[k];rw [decide_eq_true rfl] at hq;obtain ⟨T,hT⟩:∃ T,txtOf L[k]=T:=⟨_,rfl⟩;rw [hT] at x0 y0 hq;clear hT hel;go_wp2_with fail
          go_region;have HBd:Hid (Below w.heap.size w wr.drew):=HBr.out.1.drew;go_wp2_with fail
          go_roundw
          case rel=>exact ⟨k+1,by go_num,hkn,HBd.out,HNx.out⟩
          case measure=>simp [intOf];omega
        · have HNo:Hid (decide (L=M)=false):=decide_eq_false (get_ne hkn hkm hel)
          have hq:=txt_beq L[k] M[k];rw [decide_eq_false hel] at hq;obtain ⟨T,hT⟩:∃ T,txtOf L[k]=T:=⟨_,rfl⟩;obtain ⟨T',hT'⟩:∃ T,txtOf M[k]=T:=⟨_,rfl⟩;rw [hT] at x0 hq;rw [hT'] at y0 hq;clear hT hT' hel;go_wp2_with fail
          go_region;have HBd:Hid (Below w.heap.size w wr.drew):=HBr.out.1.drew;go_wp2_with fail
          go_ret;exact ⟨by rw [HNo.out];rfl,HBd.out⟩
      · have hkI:¬ (k:Int)<(L.length:Int):=by omega
        have HYes:Hid (decide (L=M)=true):=decide_eq_true (take_all HBr.out.2 (by omega) (by have:=HLen.out;omega));go_wp2_with fail
        go_ret;exact ⟨by rw [HYes.out];rfl,HBr.out.1⟩
  · have hlI:¬ ((L.length:Int)=(M.length:Int)):=by omega
    have HNo:Hid (decide (L=M)=false):=decide_eq_false fun e=>hlen (by rw [e])
    clear hc hc';go_enter Tryz.func131,Tryz.ntmps131;go_wp2_with fail
    go_ret;exact ⟨by rw [HNo.out];rfl,Below.refl _ _⟩
end Go.Proofs.YtpcijhecaedkpaaGreatDoor

namespace Go.Proofs.YtpcijhecaedkpaaGreatDoor
open Go.RowKit
set_option maxRecDepth 10000
set_option maxHeartbeats 8000000
def sameB (d f:SL):Bool:=decide (d.k=f.k)&&decide (d.n=f.n)&&decide (d.ends=f.ends)&&decide (d.low=f.low)&&decide (d.high=f.high)&&decide (d.deg=f.deg)&&decide (d.pcs=f.pcs)&&decide (d.ops=f.ops)&&decide (d.lits=f.lits)&&decide (d.ids=f.ids)
theorem sameB_iff (d f:SL):sameB d f=true↔d=f:=by
  unfold sameB;simp only [Bool.and_eq_true,decide_eq_true_eq]
  constructor
  · rintro ⟨⟨⟨⟨⟨⟨⟨⟨⟨h1,h2⟩,h3⟩,h4⟩,h5⟩,h6⟩,h7⟩,h8⟩,h9⟩,h10⟩
    obtain ⟨a1,a2,a3,a4,a5,a6,a7,a8,a9,a10⟩:=d;obtain ⟨b1,b2,b3,b4,b5,b6,b7,b8,b9,b10⟩:=f;simp only [] at h1 h2 h3 h4 h5 h6 h7 h8 h9 h10;subst h1 h2 h3 h4 h5 h6 h7 h8 h9 h10;rfl
  · rintro rfl
    exact ⟨⟨⟨⟨⟨⟨⟨⟨⟨rfl,rfl⟩,rfl⟩,rfl⟩,rfl⟩,rfl⟩,rfl⟩,rfl⟩,rfl⟩,rfl⟩
theorem sameB_no {d f:SL} (h:d≠f):sameB d f=false:=by
  cases hs:sameB d f with
  | false=>rfl
  | true=>exact absurd ((sameB_iff d f).1 hs) h
theorem psame_any (d f:SL) (vo vp vl vi vo2 vp2 vl2 vi2:Value) (w:World) (h:SlR w d vo vp vl vi) (h':SlR w f vo2 vp2 vl2 vi2):Calls Tryz.prog 61 #[.agg (slC d vo vp vl vi),.agg (slC f vo2 vp2 vl2 vi2)] w fun e w'=>e=.returned (.bool (sameB d f))/\Below w.heap.size w w':=by
  obtain ⟨oa,oc,rfl,ho,_⟩:=id h.o;obtain ⟨oa2,oc2,rfl,_,_⟩:=id h'.o;obtain ⟨pa,pc,rfl,hp,_⟩:=id h.p;obtain ⟨pa2,pc2,rfl,_,_⟩:=id h'.p;obtain ⟨la,lc,rfl,hl,_⟩:=id h.l;obtain ⟨la2,lc2,rfl,_,_⟩:=id h'.l;obtain ⟨ia,ic,rfl,hi,_⟩:=id h.i;obtain ⟨ia2,ic2,rfl,_,_⟩:=id h'.i;unfold slC;have H62:Hid (∀ w',Below w.heap.size w w'->Calls Tryz.prog 128 #[.slice pa d.pcs.length pc,.slice pa2 f.pcs.length pc2] w' fun e w2=>e=.returned (.bool (decide (d.pcs=f.pcs)))/\Below w'.heap.size w' w2):=fun w' hb=>eq62g d.pcs f.pcs _ _ w' (h.below hb).p (h'.below hb).p
  have H63:Hid (∀ w',Below w.heap.size w w'->Calls Tryz.prog 129 #[.slice oa d.ops.length oc,.slice oa2 f.ops.length oc2] w' fun e w2=>e=.returned (.bool (decide (d.ops=f.ops)))/\Below w'.heap.size w' w2):=fun w' hb=>eq63g d.ops f.ops _ _ w' (h.below hb).o (h'.below hb).o
  have H64:Hid (∀ w',Below w.heap.size w w'->Calls Tryz.prog 130 #[.slice la d.lits.length lc,.slice la2 f.lits.length lc2] w' fun e w2=>e=.returned (.bool (decide (d.lits=f.lits)))/\Below w'.heap.size w' w2):=fun w' hb=>eq64g d.lits f.lits _ _ w' (h.below hb).l (h'.below hb).l
  have H65:Hid (∀ w',Below w.heap.size w w'->Calls Tryz.prog 131 #[.slice ia d.ids.length ic,.slice ia2 f.ids.length ic2] w' fun e w2=>e=.returned (.bool (decide (d.ids=f.ids)))/\Below w'.heap.size w' w2):=fun w' hb=>eq65g d.ids f.ids _ _ w' (h.below hb).i (h'.below hb).i
  have b1:=txt_beq d.n f.n;have b2:=txt_beq d.low f.low;have b3:=txt_beq d.high f.high;have b4:=txt_beq d.deg f.deg;obtain ⟨XN,hXN⟩:∃ N,txtOf d.n=N:=⟨_,rfl⟩;obtain ⟨XD,hXD⟩:∃ N,txtOf d.deg=N:=⟨_,rfl⟩;obtain ⟨XLo,hXLo⟩:∃ N,txtOf d.low=N:=⟨_,rfl⟩;obtain ⟨XHi,hXHi⟩:∃ N,txtOf d.high=N:=⟨_,rfl⟩;obtain ⟨YN,hYN⟩:∃ N,txtOf f.n=N:=⟨_,rfl⟩;obtain ⟨YD,hYD⟩:∃ N,txtOf f.deg=N:=⟨_,rfl⟩;obtain ⟨YLo,hYLo⟩:∃ N,txtOf f.low=N:=⟨_,rfl⟩;obtain ⟨YHi,hYHi⟩:∃ N,txtOf f.high=N:=⟨_,rfl⟩;rw [hXN,hYN] at b1;rw [hXLo,hYLo] at b2;rw [hXHi,hYHi] at b3;rw [hXD,hYD] at b4;rw [hXN,hXD,hXLo,hXHi,hYN,hYD,hYLo,hYHi]
  obtain ⟨W,hW⟩:∃ W,(w.alloc (.cells #[.int .i64 d.k,.string XN,.slice oa d.ops.length oc,.slice pa d.pcs.length pc,.string XD,.slice la d.lits.length lc,.slice ia d.ids.length ic,.int .i64 d.ends,.string XLo,.string XHi] 51)).alloc (.cells #[.int .i64 f.k,.string YN,.slice oa2 f.ops.length oc2,.slice pa2 f.pcs.length pc2,.string YD,.slice la2 f.lits.length lc2,.slice ia2 f.ids.length ic2,.int .i64 f.ends,.string YLo,.string YHi] 51)=W:=⟨_,rfl⟩;have hb0:Below w.heap.size w W:=by rw [<-hW];exact ((Below.refl _ _).alloc (Nat.le_refl _) _).alloc (by simp) _
  have g0:W.heap[w.heap.size]?=some (.cells #[.int .i64 d.k,.string XN,.slice oa d.ops.length oc,.slice pa d.pcs.length pc,.string XD,.slice la d.lits.length lc,.slice ia d.ids.length ic,.int .i64 d.ends,.string XLo,.string XHi] 51 (0,0)):=by rw [<-hW,heap_alloc_old (w.alloc _) _ (by simp)];exact heap_alloc_new w _
  have g1:W.heap[w.heap.size+1]?=some (.cells #[.int .i64 f.k,.string YN,.slice oa2 f.ops.length oc2,.slice pa2 f.pcs.length pc2,.string YD,.slice la2 f.lits.length lc2,.slice ia2 f.ids.length ic2,.int .i64 f.ends,.string YLo,.string YHi] 51 (0,0)):=by rw [<-hW];exact heap_alloc2_new w _ _
  have hl0:=(Array.getElem?_eq_some_iff.1 g0).1;have hl1:=(Array.getElem?_eq_some_iff.1 g1).1;have HB:Hid (Below w.heap.size w W):=hb0
  have HM:Hid (∀ w',Below W.heap.size W w'->(w'.cell? ⟨w.heap.size,0,none⟩=some (.int .i64 d.k)/\w'.cell? ⟨w.heap.size,1,none⟩=some (.string XN)/\w'.cell? ⟨w.heap.size,2,none⟩=some (.slice oa d.ops.length oc)/\w'.cell? ⟨w.heap.size,3,none⟩=some (.slice pa d.pcs.length pc)/\w'.cell? ⟨w.heap.size,4,none⟩=some (.string XD)/\w'.cell? ⟨w.heap.size,5,none⟩=some (.slice la d.lits.length lc)/\w'.cell? ⟨w.heap.size,6,none⟩=some (.slice ia d.ids.length ic)/\w'.cell? ⟨w.heap.size,7,none⟩=some (.int .i64 d.ends)/\w'.cell? ⟨w.heap.size,8,none⟩=some (.string XLo)/\w'.cell? ⟨w.heap.size,9,none⟩=some (.string XHi))/\(w'.cell? ⟨w.heap.size+1,0,none⟩=some (.int .i64 f.k)/\w'.cell? ⟨w.heap.size+1,1,none⟩=some (.string YN)/\w'.cell? ⟨w.heap.size+1,2,none⟩=some (.slice oa2 f.ops.length oc2)/\w'.cell? ⟨w.heap.size+1,3,none⟩=some (.slice pa2 f.pcs.length pc2)/\w'.cell? ⟨w.heap.size+1,4,none⟩=some (.string YD)/\w'.cell? ⟨w.heap.size+1,5,none⟩=some (.slice la2 f.lits.length lc2)/\w'.cell? ⟨w.heap.size+1,6,none⟩=some (.slice ia2 f.ids.length ic2)/\w'.cell? ⟨w.heap.size+1,7,none⟩=some (.int .i64 f.ends)/\w'.cell? ⟨w.heap.size+1,8,none⟩=some (.string YLo)/\w'.cell? ⟨w.heap.size+1,9,none⟩=some (.string YHi))):=fun w' hb=>by
    have f0:=(hb.block _ hl0).trans g0;have f1:=(hb.block _ hl1).trans g1;exact ⟨⟨cell_of f0 0,cell_of f0 1,cell_of f0 2,cell_of f0 3,cell_of f0 4,cell_of f0 5,cell_of f0 6,cell_of f0 7,cell_of f0 8,cell_of f0 9⟩,cell_of f1 0,cell_of f1 1,cell_of f1 2,cell_of f1 3,cell_of f1 4,cell_of f1 5,cell_of f1 6,cell_of f1 7,cell_of f1 8,cell_of f1 9⟩
  obtain ⟨⟨m0,m1,m2,m3,m4,m5,m6,m7,m8,m9⟩,n0,n1,n2,n3,n4,n5,n6,n7,n8,n9⟩:=HM.out W (Below.refl _ _);have HF:Hid (d≠f->sameB d f=false):=sameB_no;have HT:Hid (d=f->sameB d f=true):=(sameB_iff d f).2;clear hb0 g0 g1 hl0 hl1 h h' hXN hXD hXLo hXHi hYN hYD hYLo hYHi
  by_cases hk:d.k=f.k
  case neg=>
    have hkB:(d.k==f.k)=false:=by simpa using hk
    have HNo:Hid (sameB d f=false):=HF.out fun e=>hk (by rw [e])
    clear hk;go_enter Tryz.func61,Tryz.ntmps61;dsimp only [List.append];go_wp2_with fail
    go_ret;exact ⟨by rw [HNo.out];rfl,HB.out⟩
  have hkB:(d.k==f.k)=true:=by simpa using hk
  have Hhk:Hid (d.k=f.k):=hk;clear hk
  by_cases hn:d.n=f.n
  case neg=>
    rw [decide_eq_false hn] at b1;have HNo:Hid (sameB d f=false):=HF.out fun e=>hn (by rw [e])
    clear hn;go_enter Tryz.func61,Tryz.ntmps61;dsimp only [List.append];go_wp2_with fail
    go_ret;exact ⟨by rw [HNo.out];rfl,HB.out⟩
  rw [decide_eq_true hn] at b1;have Hhn:Hid (d.n=f.n):=hn;clear hn
  by_cases he:d.ends=f.ends
  case neg=>
    have heB:(d.ends==f.ends)=false:=by simpa using he
    have HNo:Hid (sameB d f=false):=HF.out fun e=>he (by rw [e])
    clear he;go_enter Tryz.func61,Tryz.ntmps61;dsimp only [List.append];go_wp2_with fail
    go_ret;exact ⟨by rw [HNo.out];rfl,HB.out⟩
  have heB:(d.ends==f.ends)=true:=by simpa using he
  have Hhe:Hid (d.ends=f.ends):=he;clear he
  by_cases hlo:d.low=f.low
  case neg=>
    rw [decide_eq_false hlo] at b2;have HNo:Hid (sameB d f=false):=HF.out fun e=>hlo (by rw [e])
    clear hlo;go_enter Tryz.func61,Tryz.ntmps61;dsimp only [List.append];go_wp2_with fail
    go_ret;exact ⟨by rw [HNo.out];rfl,HB.out⟩
  rw [decide_eq_true hlo] at b2;have Hhlo:Hid (d.low=f.low):=hlo;clear hlo
  by_cases hhi:d.high=f.high
  case neg=>
    rw [decide_eq_false hhi] at b3;have HNo:Hid (sameB d f=false):=HF.out fun e=>hhi (by rw [e])
    clear hhi;go_enter Tryz.func61,Tryz.ntmps61;dsimp only [List.append];go_wp2_with fail
    go_ret;exact ⟨by rw [HNo.out];rfl,HB.out⟩
  rw [decide_eq_true hhi] at b3;have Hhhi:Hid (d.high=f.high):=hhi;clear hhi
  by_cases hdg:d.deg=f.deg
  case neg=>
    rw [decide_eq_false hdg] at b4;have HNo:Hid (sameB d f=false):=HF.out fun e=>hdg (by rw [e])
    clear hdg;go_enter Tryz.func61,Tryz.ntmps61;dsimp only [List.append];go_wp2_with fail
    go_ret;exact ⟨by rw [HNo.out];rfl,HB.out⟩
  rw [decide_eq_true hdg] at b4;have Hhdg:Hid (d.deg=f.deg):=hdg;clear hdg;go_enter Tryz.func61,Tryz.ntmps61;dsimp only [List.append];go_wp2_with fail
  refine calls_at (H62.out W HB.out) (by with_reducible rfl) (by with_reducible rfl) ?_;rintro e w1 ⟨rfl,hb1⟩;have HB1:Hid (Below W.heap.size W w1):=hb1;clear hb1 m0 m1 m2 m3 m4 m5 m6 m7 m8 m9 n0 n1 n2 n3 n4 n5 n6 n7 n8 n9
  by_cases hpcs:d.pcs=f.pcs
  case neg=>
    rw [decide_eq_false hpcs];have HNo:Hid (sameB d f=false):=HF.out fun e=>hpcs (by rw [e])
    clear hpcs;go_wp2_with fail
    go_ret;exact ⟨by rw [HNo.out];rfl,HB.out.trans (HB1.out.mono HB.out.size)⟩
  rw [decide_eq_true hpcs];have Hhpcs:Hid (d.pcs=f.pcs):=hpcs;clear hpcs;obtain ⟨⟨_,_,ma,_,_,_,_,_,_,_⟩,_,_,mb,_,_,_,_,_,_,_⟩:=HM.out w1 HB1.out;go_wp2_with fail
  refine calls_at (H63.out w1 (HB.out.trans (HB1.out.mono HB.out.size))) (by with_reducible rfl) (by with_reducible rfl) ?_;rintro e w2 ⟨rfl,hb2⟩;have HB2:Hid (Below W.heap.size W w2):=bl_next HB1.out hb2;clear hb2;clear ma mb
  by_cases hops:d.ops=f.ops
  case neg=>
    rw [decide_eq_false hops];have HNo:Hid (sameB d f=false):=HF.out fun e=>hops (by rw [e])
    clear hops;go_wp2_with fail
    go_ret;exact ⟨by rw [HNo.out];rfl,HB.out.trans (HB2.out.mono HB.out.size)⟩
  rw [decide_eq_true hops];have Hhops:Hid (d.ops=f.ops):=hops;clear hops;obtain ⟨⟨_,_,_,_,_,ma,_,_,_,_⟩,_,_,_,_,_,mb,_,_,_,_⟩:=HM.out w2 HB2.out;go_wp2_with fail
  refine calls_at (H64.out w2 (HB.out.trans (HB2.out.mono HB.out.size))) (by with_reducible rfl) (by with_reducible rfl) ?_;rintro e w3 ⟨rfl,hb3⟩;have HB3:Hid (Below W.heap.size W w3):=bl_next HB2.out hb3;clear hb3;clear ma mb
  by_cases hlits:d.lits=f.lits
  case neg=>
    rw [decide_eq_false hlits];have HNo:Hid (sameB d f=false):=HF.out fun e=>hlits (by rw [e])
    clear hlits;go_wp2_with fail
    go_ret;exact ⟨by rw [HNo.out];rfl,HB.out.trans (HB3.out.mono HB.out.size)⟩
  rw [decide_eq_true hlits];have Hhlits:Hid (d.lits=f.lits):=hlits;clear hlits;obtain ⟨⟨_,_,_,_,_,_,ma,_,_,_⟩,_,_,_,_,_,_,mb,_,_,_⟩:=HM.out w3 HB3.out;go_wp2_with fail
  refine calls_at (H65.out w3 (HB.out.trans (HB3.out.mono HB.out.size))) (by with_reducible rfl) (by with_reducible rfl) ?_;rintro e w4 ⟨rfl,hb4⟩;have HB4:Hid (Below W.heap.size W w4):=bl_next HB3.out hb4;clear hb4;clear ma mb
  by_cases hids:d.ids=f.ids
  case neg=>
    rw [decide_eq_false hids];have HNo:Hid (sameB d f=false):=HF.out fun e=>hids (by rw [e])
    clear hids;go_wp2_with fail
    go_ret;exact ⟨by rw [HNo.out];rfl,HB.out.trans (HB4.out.mono HB.out.size)⟩
  rw [decide_eq_true hids];have Hhids:Hid (d.ids=f.ids):=hids;clear hids;go_wp2_with fail
  have HYes:Hid (sameB d f=true):=HT.out (by
    obtain ⟨a1,a2,a3,a4,a5,a6,a7,a8,a9,a10⟩:=d;obtain ⟨b1,b2,b3,b4,b5,b6,b7,b8,b9,b10⟩:=f;have e1:=Hhk.out;have e2:=Hhn.out;have e3:=Hhe.out;have e4:=Hhlo.out;have e5:=Hhhi.out;have e6:=Hhdg.out;have e7:=Hhpcs.out;have e8:=Hhops.out;have e9:=Hhlits.out;have e10:=Hhids.out;simp only [] at e1 e2 e3 e4 e5 e6 e7 e8 e9 e10
    rw [e1,e2,e3,e4,e5,e6,e7,e8,e9,e10])
  go_ret;exact ⟨by rw [HYes.out];rfl,HB.out.trans (HB4.out.mono HB.out.size)⟩
end Go.Proofs.YtpcijhecaedkpaaGreatDoor

namespace Go.Proofs.YtpcijhecaedkpaaGreatDoor
open Go.RowKit
set_option maxRecDepth 10000
set_option maxHeartbeats 8000000
theorem wrt_nothing:Wrt 155 fun _=>[]:=by
  intro B b l d vo vp vl vi w h hs hi hl hBw hg hB;have hbW:Below w.heap.size w (w.alloc (.cells (slC d vo vp vl vi) 51)):=(Below.refl _ _).alloc (Nat.le_refl _) _;have HE:Hid (PageAt B b l (w.alloc (.cells (slC d vo vp vl vi) 51))/\Kq B w (w.alloc (.cells (slC d vo vp vl vi) 51))):=⟨page_below h hbW,Kq.of_below hbW hBw⟩;have HE2:Hid (PageAt B b l w/\Kq B w w):=⟨h,Kq.refl _ _⟩;obtain ⟨ao,co,rfl,_,_⟩:=hs.o;obtain ⟨ap,cp,rfl,_,_⟩:=hs.p;obtain ⟨al,cl,rfl,_,_⟩:=hs.l;obtain ⟨ai,ci,rfl,_,_⟩:=hs.i;unfold slC at HE;unfold WrO slC;clear h hs hi hl hg hbW;go_enter Tryz.func155,Tryz.ntmps155;go_wp2_with fail
  go_end0
  first | exact ⟨rfl,HE.out⟩ | exact ⟨rfl,HE2.out⟩
theorem wrt_size:Wrt 157 fun d=>[d.n]:=by
  intro B b l d vo vp vl vi w h hs hi hl hBw hg hB;obtain ⟨W,hW⟩:∃ W,w.alloc (.cells (slC d vo vp vl vi) 51)=W:=⟨_,rfl⟩;have hbW:Below w.heap.size w W:=by rw [<-hW];exact (Below.refl _ _).alloc (Nat.le_refl _) _
  have kW:Kq B w W:=Kq.of_below hbW hBw;have hBW:B<=W.heap.size:=Nat.le_trans hBw hbW.size;have gW:W.heap[w.heap.size]?=some (.cells (slC d vo vp vl vi) 51 (0,0)):=by rw [<-hW];exact heap_alloc_new w _
  have HKW:Hid (Kq B w W):=kW;have c0:=cell_of gW 1;have HC:Hid (Calls Tryz.prog 212 #[.pointer (some ⟨b,0,none⟩),.slice (some ⟨W.heap.size,0,none⟩) 1 1] (W.alloc (.cells #[.string (txtOf d.n)] 9)) fun e w'=>e=.returned (.pointer (some ⟨b,0,none⟩))/\PageAt B b (wordsP [d.n] l) w'/\Kq B W w'):=words_one d.n W (page_below h hbW) (by simpa [tot] using hl) hBW;obtain ⟨ao,co,rfl,_,_⟩:=hs.o;obtain ⟨ap,cp,rfl,_,_⟩:=hs.p;obtain ⟨al,cl,rfl,_,_⟩:=hs.l;obtain ⟨ai,ci,rfl,_,_⟩:=hs.i;unfold slC at hW;unfold WrO slC;simp only [slC] at c0;dsimp at c0;clear h hs hi hl hg hbW kW gW;go_enter Tryz.func157,Tryz.ntmps157;go_wp2_with fail
  refine calls_at HC.out (by with_reducible rfl) (by with_reducible rfl) ?_;rintro e w2 ⟨rfl,hp2,hk2⟩;have H2:Hid (PageAt B b (wordsP ([d.n]) l) w2/\Kq B w w2):=⟨hp2,HKW.out.trans hk2⟩;clear hp2 hk2;go_wp2_with fail
  go_end0;exact ⟨rfl,H2.out⟩
theorem wrt_lits:Wrt 165 fun d=>d.lits.map litT:=by
  intro B b l d vo vp vl vi w h hs hi hl hBw hg hB;obtain ⟨W,hW⟩:∃ W,w.alloc (.cells (slC d vo vp vl vi) 51)=W:=⟨_,rfl⟩;have hbW:Below w.heap.size w W:=by rw [<-hW];exact (Below.refl _ _).alloc (Nat.le_refl _) _
  have kW:Kq B w W:=Kq.of_below hbW hBw;have hBW:B<=W.heap.size:=Nat.le_trans hBw hbW.size;have gW:W.heap[w.heap.size]?=some (.cells (slC d vo vp vl vi) 51 (0,0)):=by rw [<-hW];exact heap_alloc_new w _
  have HKW:Hid (Kq B w W):=kW;have c0:=cell_of gW 5;have HC:Hid (Calls Tryz.prog 238 #[.pointer (some ⟨b,0,none⟩),vl] W fun e w'=>e=.returned (.pointer (some ⟨b,0,none⟩))/\PageAt B b (wordsP (d.lits.map litT) l) w'/\Kq B W w'):=literals_any d.lits vl W (page_below h hbW) (hs.l.next kW) hl hi.l hBW (hg.kq kW hB) hB;obtain ⟨ao,co,rfl,_,_⟩:=hs.o;obtain ⟨ap,cp,rfl,_,_⟩:=hs.p;obtain ⟨al,cl,rfl,_,_⟩:=hs.l;obtain ⟨ai,ci,rfl,_,_⟩:=hs.i;unfold slC at hW;unfold WrO slC;simp only [slC] at c0;dsimp at c0;clear h hs hi hl hg hbW kW gW;go_enter Tryz.func165,Tryz.ntmps165;go_wp2_with fail
  refine calls_at HC.out (by with_reducible rfl) (by with_reducible rfl) ?_;rintro e w2 ⟨rfl,hp2,hk2⟩;have H2:Hid (PageAt B b (wordsP (d.lits.map litT) l) w2/\Kq B w w2):=⟨hp2,HKW.out.trans hk2⟩;clear hp2 hk2;go_wp2_with fail
  go_end0;exact ⟨rfl,H2.out⟩
theorem wrt_del:Wrt 167 fun d=>d.ids:=by
  intro B b l d vo vp vl vi w h hs hi hl hBw hg hB;obtain ⟨W,hW⟩:∃ W,w.alloc (.cells (slC d vo vp vl vi) 51)=W:=⟨_,rfl⟩;have hbW:Below w.heap.size w W:=by rw [<-hW];exact (Below.refl _ _).alloc (Nat.le_refl _) _
  have kW:Kq B w W:=Kq.of_below hbW hBw;have hBW:B<=W.heap.size:=Nat.le_trans hBw hbW.size;have gW:W.heap[w.heap.size]?=some (.cells (slC d vo vp vl vi) 51 (0,0)):=by rw [<-hW];exact heap_alloc_new w _
  have HKW:Hid (Kq B w W):=kW;have c0:=cell_of gW 6;have HC:Hid (Calls Tryz.prog 212 #[.pointer (some ⟨b,0,none⟩),vi] W fun e w'=>e=.returned (.pointer (some ⟨b,0,none⟩))/\PageAt B b (wordsP d.ids l) w'/\Kq B W w'):=words_any d.ids vi W (page_below h hbW) (hs.i.next kW) hl hBW;obtain ⟨ao,co,rfl,_,_⟩:=hs.o;obtain ⟨ap,cp,rfl,_,_⟩:=hs.p;obtain ⟨al,cl,rfl,_,_⟩:=hs.l;obtain ⟨ai,ci,rfl,_,_⟩:=hs.i;unfold slC at hW;unfold WrO slC;simp only [slC] at c0;dsimp at c0;clear h hs hi hl hg hbW kW gW;go_enter Tryz.func167,Tryz.ntmps167;go_wp2_with fail
  refine calls_at HC.out (by with_reducible rfl) (by with_reducible rfl) ?_;rintro e w2 ⟨rfl,hp2,hk2⟩;have H2:Hid (PageAt B b (wordsP (d.ids) l) w2/\Kq B w w2):=⟨hp2,HKW.out.trans hk2⟩;clear hp2 hk2;go_wp2_with fail
  go_end0;exact ⟨rfl,H2.out⟩
end Go.Proofs.YtpcijhecaedkpaaGreatDoor

namespace Go.Proofs.YtpcijhecaedkpaaGreatDoor
open Go.RowKit
set_option maxRecDepth 10000
set_option maxHeartbeats 8000000
theorem wrt_equal:Wrt 163 fun d=>d.ids++rowT d.pcs d.deg:=by
  intro B b l d vo vp vl vi w h hs hi hl hBw hg hB;have hl1:l.length+tot d.ids+tot (rowT d.pcs d.deg)<=900000000:=by rw [tot_app] at hl;omega
  obtain ⟨W,hW⟩:∃ W,w.alloc (.cells (slC d vo vp vl vi) 51)=W:=⟨_,rfl⟩;have hbW:Below w.heap.size w W:=by rw [<-hW];exact (Below.refl _ _).alloc (Nat.le_refl _) _
  have kW:Kq B w W.drew:=Kq.of_below hbW.drew hBw;have hBW:B<=W.drew.heap.size:=Nat.le_trans hBw hbW.drew.size;have HK:Hid (∀ w',Kq B W.drew w'->w'.cell? ⟨w.heap.size,3,none⟩=some vp/\w'.cell? ⟨w.heap.size,4,none⟩=some (.string (txtOf d.deg))/\w'.cell? ⟨w.heap.size,6,none⟩=some vi):=fun w' k=>by
    have:=k.other _ _ _ _ (show W.drew.heap[w.heap.size]?=some (.cells (slC d vo vp vl vi) 51 (0,0)) by show W.heap[w.heap.size]?=_;rw [<-hW];exact heap_alloc_new w _) (by decide) (by decide);exact ⟨cell_of this 3,cell_of this 4,cell_of this 6⟩
  have HR:Hid (Calls Tryz.prog 212 #[.pointer (some ⟨b,0,none⟩),vi] W.drew fun e w'=>e=.returned (.pointer (some ⟨b,0,none⟩))/\PageAt B b (wordsP d.ids l) w'/\Kq B W.drew w'):=words_any d.ids vi W.drew (page_below h hbW.drew) (hs.i.next kW) (by omega) hBW;have HI:Hid (∀ w',Kq B W.drew w'->PageAt B b (wordsP d.ids l) w'->Calls Tryz.prog 235 #[.pointer (some ⟨b,0,none⟩),.agg #[vp,.string (txtOf d.deg)]] w' fun e w2=>e=.returned (.pointer (some ⟨b,0,none⟩))/\PageAt B b (wordsP (d.ids++rowT d.pcs d.deg) l) w2/\Kq B w' w2):=fun w' k hp=>by
    refine (prow_any d.pcs d.deg vp w' hp (hs.p.next (kW.trans k)) ?_ hi.p (Nat.le_trans hBW k.low.size) (hg.kq (kW.trans k) hB) hB).mono fun e w2 hq=>⟨hq.1,?_,hq.2.2⟩
    · have:=words_len d.ids l
      omega
    · rw [words_app];exact hq.2.1
  have HKW:Hid (Kq B w W.drew):=kW;unfold WrO;obtain ⟨Z,hZ⟩:∃ Z,wordsP (d.ids++rowT d.pcs d.deg) l=Z:=⟨_,rfl⟩;rw [hZ] at HI;show Calls _ _ _ _ fun e w'=>e=_/\PageAt B b (wordsP (d.ids++rowT d.pcs d.deg) l) w'/\Kq B w w'
  rw [hZ];have HC:=hs.o;unfold slC at hW;unfold slC;obtain ⟨ao,co,rfl,_,_⟩:=hs.o;obtain ⟨ap,cp,rfl,_,_⟩:=hs.p;obtain ⟨al,cl,rfl,_,_⟩:=hs.l;obtain ⟨ai,ci,rfl,_,_⟩:=hs.i;obtain ⟨dk,dn,do_,dp,dg,dl,di,de,dw,dh⟩:=d;dsimp only at hW HK HR HI hZ ⊢;clear h hs hi hl hg hl1 hbW kW HC hZ;go_enter Tryz.func163,Tryz.ntmps163;go_wp2_with fail
  refine wp_region_T (fun w'=>w'.cell? ⟨w.heap.size,3,none⟩=some (.slice ap dp.length cp)/\w'.cell? ⟨w.heap.size,4,none⟩=some (.string (txtOf dg))/\w'.cell? ⟨w.heap.size,6,none⟩=some (.slice ai di.length ci)) (fun _=>True) [] (by kernel_rfl) ⟨HK.out _ (Kq.refl _ _),trivial⟩ (fun hHeld=>?_);clear hW;generalize W.drew=U at hHeld HK HR HI HKW hBW ⊢
  refine wpAnyT_takeB (i:=0) (oi:=⟨some 4,.move (.tmp 0),_,_,_,_⟩) (v:=?v0) rfl (by kernel_rfl) (by kernel_rfl) (by kernel_rfl) (by kernel_rfl) (fun _ _ _ h=>h) (Or.inl ⟨by rfl,?hy0⟩) (by assumption) ?rest0
  case hy0=>(intro w hSw;(try dsimp only at hSw);obtain ⟨s0,s1,s2⟩:=hSw;go_simp;try (with_reducible rfl))
  try simp only [Act.put,List.setIfInBounds_toArray,List.set_cons_zero,List.set_cons_succ]
  refine wpAnyT_takeB (i:=1) (oi:=⟨some 5,.fieldAddr 51 (.tmp 3) 5,_,_,_,_⟩) (v:=?v1) rfl (by kernel_rfl) (by kernel_rfl) (by kernel_rfl) (by kernel_rfl) (fun _ _ _ h=>h) (Or.inl ⟨by rfl,?hy1⟩) (by assumption) ?rest1
  case hy1=>(intro w hSw;(try dsimp only at hSw);obtain ⟨s0,s1,s2⟩:=hSw;go_simp;try (with_reducible rfl))
  try simp only [Act.put,List.setIfInBounds_toArray,List.set_cons_zero,List.set_cons_succ]
  refine wpAnyT_takeB (i:=2) (oi:=⟨some 6,.load 22 (.tmp 5),_,_,_,_⟩) (v:=?v2) rfl (by kernel_rfl) (by kernel_rfl) (by kernel_rfl) (by kernel_rfl) (fun _ _ _ h=>h) (Or.inl ⟨by rfl,?hy2⟩) (by assumption) ?rest2
  case hy2=>(intro w hSw;(try dsimp only at hSw);obtain ⟨s0,s1,s2⟩:=hSw;go_simp;try (with_reducible rfl))
  try simp only [Act.put,List.setIfInBounds_toArray,List.set_cons_zero,List.set_cons_succ]
  refine wpAnyT_takeB (i:=4) (oi:=⟨some 8,.fieldAddr 51 (.tmp 3) 3,_,_,_,_⟩) (v:=?v4) rfl (by kernel_rfl) (by kernel_rfl) (by kernel_rfl) (by kernel_rfl) (fun _ _ _ h=>h) (Or.inl ⟨by rfl,?hy4⟩) (by assumption) ?rest4
  case hy4=>(intro w hSw;(try dsimp only at hSw);obtain ⟨s0,s1,s2⟩:=hSw;go_simp;try (with_reducible rfl))
  try simp only [Act.put,List.setIfInBounds_toArray,List.set_cons_zero,List.set_cons_succ]
  refine wpAnyT_takeB (i:=5) (oi:=⟨some 9,.load 49 (.tmp 8),_,_,_,_⟩) (v:=?v5) rfl (by kernel_rfl) (by kernel_rfl) (by kernel_rfl) (by kernel_rfl) (fun _ _ _ h=>h) (Or.inl ⟨by rfl,?hy5⟩) (by assumption) ?rest5
  case hy5=>(intro w hSw;(try dsimp only at hSw);obtain ⟨s0,s1,s2⟩:=hSw;go_simp;try (with_reducible rfl))
  try simp only [Act.put,List.setIfInBounds_toArray,List.set_cons_zero,List.set_cons_succ]
  clear hHeld;refine wpAnyT_one (i:=3) (o:=⟨some 7,.call { callee:=.value (.func 212),args:=#[(.tmp 4),(.tmp 6)],argTypes:=#[189,22] },_,_,_,_⟩) (by kernel_rfl) rfl (fun K hK=>?_);go_simp;refine calls_at HR.out (by with_reducible rfl) (by with_reducible rfl) ?_;rintro e w1 ⟨rfl,hp1,hk1⟩;have H1:Hid (PageAt B b (wordsP di l) w1/\Kq B U w1):=⟨hp1,hk1⟩;clear hp1 hk1;go_wp2_with fail
  refine hK.out _ _ ⟨HK.out _ H1.out.2,fun _=>trivial⟩ ?_;clear hK K;try simp only [Act.put,List.setIfInBounds_toArray,List.set_cons_zero,List.set_cons_succ]
  refine wpAnyT_one (i:=6) (o:=⟨some 10,.call { callee:=.value (.func 235),args:=#[(.tmp 7),(.tmp 9)],argTypes:=#[189,49] },_,_,_,_⟩) (by kernel_rfl) rfl (fun K hK=>?_);go_simp;refine calls_at (HI.out w1 H1.out.2 H1.out.1) (by with_reducible rfl) (by with_reducible rfl) ?_;rintro e w2 ⟨rfl,hp2,hk2⟩;have H2:Hid (PageAt B b Z w2/\Kq B U w2):=⟨hp2,H1.out.2.trans hk2⟩;clear hp2 hk2;go_wp2_with fail
  refine hK.out _ _ ⟨HK.out _ H2.out.2,fun _=>trivial⟩ ?_;clear hK K;try simp only [Act.put,List.setIfInBounds_toArray,List.set_cons_zero,List.set_cons_succ]
  refine wpAnyT_done (by kernel_rfl) ?_ _;go_wp2_with fail
  go_end0;exact ⟨rfl,H2.out.1,HKW.out.trans H2.out.2⟩
def leanT (ids:List (List UInt8)):List (List UInt8):=if ids=[] then [] else [58] :: ids
theorem leaning_any {B b:Nat} {l:List UInt8} (L:List (List UInt8)) (v:Value) (w:World) (h:PageAt B b l w) (hR:RdE B w v L.length (L.map fun x=>.string (txtOf x))) (hl:l.length+tot (leanT L)<=900000000) (hBw:B<=w.heap.size):Calls Tryz.prog 283 #[.pointer (some ⟨b,0,none⟩),v] w fun e w'=>e=.returned (.pointer (some ⟨b,0,none⟩))/\PageAt B b (wordsP (leanT L) l) w'/\Kq B w w':=by
  by_cases hL:L=[]
  · subst hL
    have HE:Hid (PageAt B b l w/\Kq B w w):=⟨h,Kq.refl _ _⟩;obtain ⟨a,cap,rfl,_,_⟩:=hR;clear h hl;go_enter Tryz.func283,Tryz.ntmps283;go_wp2_with fail
    go_ret;exact ⟨rfl,HE.out⟩
  · have hn:0<L.length:=List.length_pos_iff.2 hL
    have hnI:(0:Int)<(L.length:Int):=by omega
    have hlt:leanT L=[58] :: L:=if_neg hL;rw [hlt,show tot ([58] :: L)=2+tot L by simp [tot]] at hl;have HA:Hid (Calls Tryz.prog 212 #[.pointer (some ⟨b,0,none⟩),.slice (some ⟨w.heap.size,0,none⟩) 1 1] (w.alloc (.cells #[.string ⟨#[58]⟩] 9)) fun e w'=>e=.returned (.pointer (some ⟨b,0,none⟩))/\PageAt B b (wordP l [58]) w'/\Kq B w w'):=words_one [58] w h (by simp;omega) hBw;have HB:Hid (∀ w',Kq B w w'->PageAt B b (wordP l [58]) w'->Calls Tryz.prog 212 #[.pointer (some ⟨b,0,none⟩),v] w' fun e w2=>e=.returned (.pointer (some ⟨b,0,none⟩))/\PageAt B b (wordsP (leanT L) l) w2/\Kq B w' w2):=fun w' k hp=>by
      refine (words_any L v w' hp (hR.next k) ?_ (Nat.le_trans hBw k.low.size)).mono fun e w2 hq=>⟨hq.1,?_,hq.2.2⟩
      · have:=word_len l [58]
        simp at this;omega
      · rw [hlt];exact hq.2.1
    obtain ⟨a,cap,rfl,_,_⟩:=hR;clear h hl hlt;go_enter Tryz.func283,Tryz.ntmps283;go_wp2_with fail
    refine calls_at HA.out (by with_reducible rfl) (by with_reducible rfl) ?_;rintro e w1 ⟨rfl,hp1,hk1⟩;have H1:Hid (PageAt B b (wordP l [58]) w1/\Kq B w w1):=⟨hp1,hk1⟩;clear hp1 hk1;go_wp2_with fail
    refine calls_at (HB.out w1 H1.out.2 H1.out.1) (by with_reducible rfl) (by with_reducible rfl) ?_;rintro e w2 ⟨rfl,hp2,hk2⟩;have H2:Hid (PageAt B b (wordsP (leanT L) l) w2/\Kq B w w2):=⟨hp2,H1.out.2.trans hk2⟩;clear hp2 hk2;go_wp2_with fail
    go_ret;exact ⟨rfl,H2.out⟩
theorem wrt_unsat:Wrt 263 fun d=>leanT d.ids:=by
  intro B b l d vo vp vl vi w h hs hi hl hBw hg hB;obtain ⟨W,hW⟩:∃ W,w.alloc (.cells (slC d vo vp vl vi) 51)=W:=⟨_,rfl⟩;have hbW:Below w.heap.size w W:=by rw [<-hW];exact (Below.refl _ _).alloc (Nat.le_refl _) _
  have kW:Kq B w W:=Kq.of_below hbW hBw;have hBW:B<=W.heap.size:=Nat.le_trans hBw hbW.size;have gW:W.heap[w.heap.size]?=some (.cells (slC d vo vp vl vi) 51 (0,0)):=by rw [<-hW];exact heap_alloc_new w _
  have HKW:Hid (Kq B w W):=kW;have c0:=cell_of gW 6;have HC:Hid (Calls Tryz.prog 283 #[.pointer (some ⟨b,0,none⟩),vi] W fun e w'=>e=.returned (.pointer (some ⟨b,0,none⟩))/\PageAt B b (wordsP (leanT d.ids) l) w'/\Kq B W w'):=leaning_any d.ids vi W (page_below h hbW) (hs.i.next kW) hl hBW;obtain ⟨ao,co,rfl,_,_⟩:=hs.o;obtain ⟨ap,cp,rfl,_,_⟩:=hs.p;obtain ⟨al,cl,rfl,_,_⟩:=hs.l;obtain ⟨ai,ci,rfl,_,_⟩:=hs.i;unfold slC at hW;unfold WrO slC;simp only [slC] at c0;dsimp at c0;clear h hs hi hl hg hbW kW gW;go_enter Tryz.func263,Tryz.ntmps263;go_wp2_with fail
  refine calls_at HC.out (by with_reducible rfl) (by with_reducible rfl) ?_;rintro e w2 ⟨rfl,hp2,hk2⟩;have H2:Hid (PageAt B b (wordsP (leanT d.ids) l) w2/\Kq B w w2):=⟨hp2,HKW.out.trans hk2⟩;clear hp2 hk2;go_wp2_with fail
  go_end0;exact ⟨rfl,H2.out⟩
end Go.Proofs.YtpcijhecaedkpaaGreatDoor

namespace Go.Proofs.YtpcijhecaedkpaaGreatDoor
open Go.RowKit
set_option maxRecDepth 10000
set_option maxHeartbeats 8000000
theorem wrt_all:Wrt 267 fun d=>d.high :: leanT d.ids:=by
  intro B b l d vo vp vl vi w h hs hi hl hBw hg hB;obtain ⟨W,hW⟩:∃ W,w.alloc (.cells (slC d vo vp vl vi) 51)=W:=⟨_,rfl⟩;have hbW:Below w.heap.size w W:=by rw [<-hW];exact (Below.refl _ _).alloc (Nat.le_refl _) _
  have kW:Kq B w W.drew:=Kq.of_below hbW.drew hBw;have hBW:B<=W.drew.heap.size:=Nat.le_trans hBw hbW.drew.size;have HK:Hid (∀ w',Kq B W.drew w'->w'.cell? ⟨w.heap.size,9,none⟩=some (.string (txtOf d.high))/\w'.cell? ⟨w.heap.size,6,none⟩=some (vi)):=fun w' k=>by
    have:=k.other _ _ _ _ (show W.drew.heap[w.heap.size]?=some (.cells (slC d vo vp vl vi) 51 (0,0)) by show W.heap[w.heap.size]?=_;rw [<-hW];exact heap_alloc_new w _) (by decide) (by decide);exact ⟨cell_of this 9,cell_of this 6⟩
  have hlen:l.length+(d.high.length+1)+tot (leanT d.ids)<=900000000:=by
    dsimp only at hl;have:tot (d.high :: leanT d.ids)=d.high.length+1+tot (leanT d.ids):=by simp [tot]
    omega
  have HC0:Hid (∀ U' v,Kq B W.drew U'->PageAt B b l U'->RdE B U' v 1 ([d.high].map fun x=>.string (txtOf x))->Calls Tryz.prog 212 #[.pointer (some ⟨b,0,none⟩),v] U' fun e w'=>e=.returned (.pointer (some ⟨b,0,none⟩))/\PageAt B b (wordP l d.high) w'/\Kq B U' w'):=fun U' v k hp hv=>words_any [d.high] v U' hp hv (by show _+tot [d.high]<=_;simp [tot];omega) (Nat.le_trans hBW k.low.size)
  have HC1:Hid (∀ U',Kq B W.drew U'->PageAt B b (wordP l d.high) U'->Calls Tryz.prog 283 #[.pointer (some ⟨b,0,none⟩),vi] U' fun e w'=>e=.returned (.pointer (some ⟨b,0,none⟩))/\PageAt B b (wordsP (d.high :: leanT d.ids) l) w'/\Kq B U' w'):=fun U' k hp=>leaning_any d.ids vi U' hp (hs.i.next (kW.trans k)) (by have:=word_len l d.high;omega) (Nat.le_trans hBW k.low.size)
  have HKW:Hid (Kq B w W.drew):=kW;have HP0:Hid (PageAt B b l W.drew):=page_below h hbW.drew;unfold slC at hW;unfold WrO slC;obtain ⟨ao,co,rfl,_,_⟩:=hs.o;obtain ⟨ap,cp,rfl,_,_⟩:=hs.p;obtain ⟨al,cl,rfl,_,_⟩:=hs.l;obtain ⟨ai,ci,rfl,_,_⟩:=hs.i;clear h hs hi hl hg hbW kW;go_enter Tryz.func267,Tryz.ntmps267;go_wp2_with fail
  refine wp_region_T (fun w'=>w'.cell? ⟨w.heap.size,9,none⟩=some (.string (txtOf d.high))/\w'.cell? ⟨w.heap.size,6,none⟩=some (.slice ai d.ids.length ci)) (fun _=>True) [] (by kernel_rfl) ⟨HK.out _ (Kq.refl _ _),trivial⟩ (fun hHeld=>?_);clear hW;have HKU:Hid (Kq B W.drew W.drew):=Kq.refl _ _;generalize W.drew=U at hHeld HK HKW hBW HP0 HKU HC0 HC1  ⊢
  have HPgU:Hid (PageAt B b (l) U):=HP0;refine wpAnyT_takeB (i:=0) (oi:=⟨some 4,.move (.tmp 0),_,_,_,_⟩) (v:=?v0) rfl (by kernel_rfl) (by kernel_rfl) (by kernel_rfl) (by kernel_rfl) (fun _ _ _ h=>h) (Or.inl ⟨by rfl,?hy0⟩) (by assumption) ?rest0
  case hy0=>(intro w hSw;(try dsimp only at hSw);obtain ⟨s0,s1⟩:=hSw;go_simp;try (with_reducible rfl))
  try simp only [Act.put,List.setIfInBounds_toArray,List.set_cons_zero,List.set_cons_succ]
  refine wpAnyT_takeB (i:=1) (oi:=⟨some 5,.fieldAddr 51 (.tmp 3) 8,_,_,_,_⟩) (v:=?v1) rfl (by kernel_rfl) (by kernel_rfl) (by kernel_rfl) (by kernel_rfl) (fun _ _ _ h=>h) (Or.inl ⟨by rfl,?hy1⟩) (by assumption) ?rest1
  case hy1=>(intro w hSw;(try dsimp only at hSw);obtain ⟨s0,s1⟩:=hSw;go_simp;try (with_reducible rfl))
  try simp only [Act.put,List.setIfInBounds_toArray,List.set_cons_zero,List.set_cons_succ]
  refine wpAnyT_takeB (i:=2) (oi:=⟨some 6,.load 9 (.tmp 5),_,_,_,_⟩) (v:=?v2) rfl (by kernel_rfl) (by kernel_rfl) (by kernel_rfl) (by kernel_rfl) (fun _ _ _ h=>h) (Or.inl ⟨by rfl,?hy2⟩) (by assumption) ?rest2
  case hy2=>(intro w hSw;(try dsimp only at hSw);obtain ⟨s0,s1⟩:=hSw;go_simp;try (with_reducible rfl))
  try simp only [Act.put,List.setIfInBounds_toArray,List.set_cons_zero,List.set_cons_succ]
  refine wpAnyT_takeB (i:=5) (oi:=⟨some 9,.fieldAddr 51 (.tmp 3) 5,_,_,_,_⟩) (v:=?v5) rfl (by kernel_rfl) (by kernel_rfl) (by kernel_rfl) (by kernel_rfl) (fun _ _ _ h=>h) (Or.inl ⟨by rfl,?hy5⟩) (by assumption) ?rest5
  case hy5=>(intro w hSw;(try dsimp only at hSw);obtain ⟨s0,s1⟩:=hSw;go_simp;try (with_reducible rfl))
  try simp only [Act.put,List.setIfInBounds_toArray,List.set_cons_zero,List.set_cons_succ]
  refine wpAnyT_takeB (i:=6) (oi:=⟨some 10,.load 22 (.tmp 9),_,_,_,_⟩) (v:=?v6) rfl (by kernel_rfl) (by kernel_rfl) (by kernel_rfl) (by kernel_rfl) (fun _ _ _ h=>h) (Or.inl ⟨by rfl,?hy6⟩) (by assumption) ?rest6
  case hy6=>(intro w hSw;(try dsimp only at hSw);obtain ⟨s0,s1⟩:=hSw;go_simp;try (with_reducible rfl))
  try simp only [Act.put,List.setIfInBounds_toArray,List.set_cons_zero,List.set_cons_succ]
  clear hHeld;refine wpAnyT_one (i:=3) (o:=⟨some 7,.buildSlice 22 1 #[(0,(.tmp 6))],_,_,_,_⟩) (by kernel_rfl) rfl (fun K hK=>?_);go_simp;obtain ⟨Ux3,hUx3⟩:∃ X,U.alloc (.cells #[.string (txtOf d.high)] 9)=X:=⟨_,rfl⟩;have hbUx3:Below U.heap.size U Ux3:=by rw [<-hUx3];exact (Below.refl _ _).alloc (Nat.le_refl _) _
  have HKUx3:Hid (Kq B U Ux3):=HKU.out.trans (Kq.of_below hbUx3 (Nat.le_trans hBW HKU.out.low.size));have HPgUx3:Hid (PageAt B b (l) Ux3):=page_below HPgU.out hbUx3;have HR3Ux3:Hid (RdE B Ux3 (.slice (some ⟨U.heap.size,0,none⟩) 1 1) 1 ([d.high].map fun x=>.string (txtOf x))):=by rw [<-hUx3];exact one_text U d.high
  rw [hUx3];clear hUx3 hbUx3;refine hK.out _ _ ⟨HK.out _ HKUx3.out,fun _=>trivial⟩ ?_;clear hK K;try simp only [Act.put,List.setIfInBounds_toArray,List.set_cons_zero,List.set_cons_succ]
  refine wpAnyT_one (i:=4) (o:=⟨some 8,.call { callee:=.value (.func 212),args:=#[(.tmp 4),(.tmp 7)],argTypes:=#[189,22] },_,_,_,_⟩) (by kernel_rfl) rfl (fun K hK=>?_);go_simp;refine calls_at (HC0.out Ux3 _ HKUx3.out HPgUx3.out HR3Ux3.out) (by with_reducible rfl) (by with_reducible rfl) ?_;rintro e Ux3x4 ⟨rfl,hp,hk⟩;have HKUx3x4:Hid (Kq B U Ux3x4):=HKUx3.out.trans hk;have HPgUx3x4:Hid (PageAt B b (wordP l d.high) Ux3x4):=hp;have HR3Ux3x4:Hid (RdE B Ux3x4 (.slice (some ⟨U.heap.size,0,none⟩) 1 1) 1 ([d.high].map fun x=>.string (txtOf x))):=HR3Ux3.out.next hk;clear hp hk;go_wp2_with fail
  refine hK.out _ _ ⟨HK.out _ HKUx3x4.out,fun _=>trivial⟩ ?_;clear hK K;try simp only [Act.put,List.setIfInBounds_toArray,List.set_cons_zero,List.set_cons_succ]
  refine wpAnyT_one (i:=7) (o:=⟨some 11,.call { callee:=.value (.func 283),args:=#[(.tmp 8),(.tmp 10)],argTypes:=#[189,22] },_,_,_,_⟩) (by kernel_rfl) rfl (fun K hK=>?_);go_simp;refine calls_at (HC1.out Ux3x4 HKUx3x4.out HPgUx3x4.out ) (by with_reducible rfl) (by with_reducible rfl) ?_;rintro e Ux3x4x7 ⟨rfl,hp,hk⟩;have HKUx3x4x7:Hid (Kq B U Ux3x4x7):=HKUx3x4.out.trans hk;have HPgUx3x4x7:Hid (PageAt B b (wordsP (d.high :: leanT d.ids) l) Ux3x4x7):=hp;have HR3Ux3x4x7:Hid (RdE B Ux3x4x7 (.slice (some ⟨U.heap.size,0,none⟩) 1 1) 1 ([d.high].map fun x=>.string (txtOf x))):=HR3Ux3x4.out.next hk;clear hp hk;go_wp2_with fail
  refine hK.out _ _ ⟨HK.out _ HKUx3x4x7.out,fun _=>trivial⟩ ?_;clear hK K;try simp only [Act.put,List.setIfInBounds_toArray,List.set_cons_zero,List.set_cons_succ]
  refine wpAnyT_done (by kernel_rfl) ?_ _;have H9:Hid (PageAt B b (wordsP (d.high :: leanT d.ids) l) Ux3x4x7/\Kq B w Ux3x4x7):=⟨HPgUx3x4x7.out,HKW.out.trans HKUx3x4x7.out⟩;go_wp2_with fail
  go_end0;exact ⟨rfl,H9.out⟩
theorem wrt_bounds:Wrt 265 fun d=>(d.low :: leanT d.ids)++[d.high]:=by
  intro B b l d vo vp vl vi w h hs hi hl hBw hg hB;obtain ⟨W,hW⟩:∃ W,w.alloc (.cells (slC d vo vp vl vi) 51)=W:=⟨_,rfl⟩;have hbW:Below w.heap.size w W:=by rw [<-hW];exact (Below.refl _ _).alloc (Nat.le_refl _) _
  have kW:Kq B w W.drew:=Kq.of_below hbW.drew hBw;have hBW:B<=W.drew.heap.size:=Nat.le_trans hBw hbW.drew.size;have HK:Hid (∀ w',Kq B W.drew w'->w'.cell? ⟨w.heap.size,8,none⟩=some (.string (txtOf d.low))/\w'.cell? ⟨w.heap.size,6,none⟩=some (vi)/\w'.cell? ⟨w.heap.size,9,none⟩=some (.string (txtOf d.high))):=fun w' k=>by
    have:=k.other _ _ _ _ (show W.drew.heap[w.heap.size]?=some (.cells (slC d vo vp vl vi) 51 (0,0)) by show W.heap[w.heap.size]?=_;rw [<-hW];exact heap_alloc_new w _) (by decide) (by decide);exact ⟨cell_of this 8,cell_of this 6,cell_of this 9⟩
  have hlen:l.length+(d.low.length+1)+tot (leanT d.ids)+(d.high.length+1)<=900000000:=by
    dsimp only at hl;have:tot ((d.low :: leanT d.ids)++[d.high])=d.low.length+1+tot (leanT d.ids)+(d.high.length+1):=by rw [tot_app];simp [tot]
    omega
  have HC0:Hid (∀ U' v,Kq B W.drew U'->PageAt B b l U'->RdE B U' v 1 ([d.low].map fun x=>.string (txtOf x))->Calls Tryz.prog 212 #[.pointer (some ⟨b,0,none⟩),v] U' fun e w'=>e=.returned (.pointer (some ⟨b,0,none⟩))/\PageAt B b (wordP l d.low) w'/\Kq B U' w'):=fun U' v k hp hv=>words_any [d.low] v U' hp hv (by show _+tot [d.low]<=_;simp [tot];omega) (Nat.le_trans hBW k.low.size)
  have HC1:Hid (∀ U',Kq B W.drew U'->PageAt B b (wordP l d.low) U'->Calls Tryz.prog 283 #[.pointer (some ⟨b,0,none⟩),vi] U' fun e w'=>e=.returned (.pointer (some ⟨b,0,none⟩))/\PageAt B b (wordsP (d.low :: leanT d.ids) l) w'/\Kq B U' w'):=fun U' k hp=>leaning_any d.ids vi U' hp (hs.i.next (kW.trans k)) (by have:=word_len l d.low;omega) (Nat.le_trans hBW k.low.size)
  have HC2:Hid (∀ U' v,Kq B W.drew U'->PageAt B b (wordsP (d.low :: leanT d.ids) l) U'->RdE B U' v 1 ([d.high].map fun x=>.string (txtOf x))->Calls Tryz.prog 212 #[.pointer (some ⟨b,0,none⟩),v] U' fun e w'=>e=.returned (.pointer (some ⟨b,0,none⟩))/\PageAt B b (wordsP ((d.low :: leanT d.ids)++[d.high]) l) w'/\Kq B U' w'):=fun U' v k hp hv=>by
    refine (words_any [d.high] v U' hp hv ?_ (Nat.le_trans hBW k.low.size)).mono fun e w2 hq=>⟨hq.1,?_,hq.2.2⟩
    · have h1:=words_len (d.low :: leanT d.ids) l
      have h2:tot (d.low :: leanT d.ids)=d.low.length+1+tot (leanT d.ids):=by simp [tot]
      have h3:tot [d.high]=d.high.length+1:=by simp [tot]
      omega
    · rw [words_app];exact hq.2.1
  have HKW:Hid (Kq B w W.drew):=kW;have HP0:Hid (PageAt B b l W.drew):=page_below h hbW.drew;unfold slC at hW;unfold WrO slC;obtain ⟨ao,co,rfl,_,_⟩:=hs.o;obtain ⟨ap,cp,rfl,_,_⟩:=hs.p;obtain ⟨al,cl,rfl,_,_⟩:=hs.l;obtain ⟨ai,ci,rfl,_,_⟩:=hs.i;clear h hs hi hl hg hbW kW;go_enter Tryz.func265,Tryz.ntmps265;go_wp2_with fail
  refine wp_region_T (fun w'=>w'.cell? ⟨w.heap.size,8,none⟩=some (.string (txtOf d.low))/\w'.cell? ⟨w.heap.size,6,none⟩=some (.slice ai d.ids.length ci)/\w'.cell? ⟨w.heap.size,9,none⟩=some (.string (txtOf d.high))) (fun _=>True) [] (by kernel_rfl) ⟨HK.out _ (Kq.refl _ _),trivial⟩ (fun hHeld=>?_);clear hW;have HKU:Hid (Kq B W.drew W.drew):=Kq.refl _ _;generalize W.drew=U at hHeld HK HKW hBW HP0 HKU HC0 HC1 HC2 ⊢
  have HPgU:Hid (PageAt B b (l) U):=HP0;refine wpAnyT_takeB (i:=0) (oi:=⟨some 4,.move (.tmp 0),_,_,_,_⟩) (v:=?v0) rfl (by kernel_rfl) (by kernel_rfl) (by kernel_rfl) (by kernel_rfl) (fun _ _ _ h=>h) (Or.inl ⟨by rfl,?hy0⟩) (by assumption) ?rest0
  case hy0=>(intro w hSw;(try dsimp only at hSw);obtain ⟨s0,s1,s2⟩:=hSw;go_simp;try (with_reducible rfl))
  try simp only [Act.put,List.setIfInBounds_toArray,List.set_cons_zero,List.set_cons_succ]
  refine wpAnyT_takeB (i:=1) (oi:=⟨some 5,.fieldAddr 51 (.tmp 3) 7,_,_,_,_⟩) (v:=?v1) rfl (by kernel_rfl) (by kernel_rfl) (by kernel_rfl) (by kernel_rfl) (fun _ _ _ h=>h) (Or.inl ⟨by rfl,?hy1⟩) (by assumption) ?rest1
  case hy1=>(intro w hSw;(try dsimp only at hSw);obtain ⟨s0,s1,s2⟩:=hSw;go_simp;try (with_reducible rfl))
  try simp only [Act.put,List.setIfInBounds_toArray,List.set_cons_zero,List.set_cons_succ]
  refine wpAnyT_takeB (i:=2) (oi:=⟨some 6,.load 9 (.tmp 5),_,_,_,_⟩) (v:=?v2) rfl (by kernel_rfl) (by kernel_rfl) (by kernel_rfl) (by kernel_rfl) (fun _ _ _ h=>h) (Or.inl ⟨by rfl,?hy2⟩) (by assumption) ?rest2
  case hy2=>(intro w hSw;(try dsimp only at hSw);obtain ⟨s0,s1,s2⟩:=hSw;go_simp;try (with_reducible rfl))
  try simp only [Act.put,List.setIfInBounds_toArray,List.set_cons_zero,List.set_cons_succ]
  refine wpAnyT_takeB (i:=5) (oi:=⟨some 9,.fieldAddr 51 (.tmp 3) 5,_,_,_,_⟩) (v:=?v5) rfl (by kernel_rfl) (by kernel_rfl) (by kernel_rfl) (by kernel_rfl) (fun _ _ _ h=>h) (Or.inl ⟨by rfl,?hy5⟩) (by assumption) ?rest5
  case hy5=>(intro w hSw;(try dsimp only at hSw);obtain ⟨s0,s1,s2⟩:=hSw;go_simp;try (with_reducible rfl))
  try simp only [Act.put,List.setIfInBounds_toArray,List.set_cons_zero,List.set_cons_succ]
  refine wpAnyT_takeB (i:=6) (oi:=⟨some 10,.load 22 (.tmp 9),_,_,_,_⟩) (v:=?v6) rfl (by kernel_rfl) (by kernel_rfl) (by kernel_rfl) (by kernel_rfl) (fun _ _ _ h=>h) (Or.inl ⟨by rfl,?hy6⟩) (by assumption) ?rest6
  case hy6=>(intro w hSw;(try dsimp only at hSw);obtain ⟨s0,s1,s2⟩:=hSw;go_simp;try (with_reducible rfl))
  try simp only [Act.put,List.setIfInBounds_toArray,List.set_cons_zero,List.set_cons_succ]
  refine wpAnyT_takeB (i:=8) (oi:=⟨some 12,.fieldAddr 51 (.tmp 3) 8,_,_,_,_⟩) (v:=?v8) rfl (by kernel_rfl) (by kernel_rfl) (by kernel_rfl) (by kernel_rfl) (fun _ _ _ h=>h) (Or.inl ⟨by rfl,?hy8⟩) (by assumption) ?rest8
  case hy8=>(intro w hSw;(try dsimp only at hSw);obtain ⟨s0,s1,s2⟩:=hSw;go_simp;try (with_reducible rfl))
  try simp only [Act.put,List.setIfInBounds_toArray,List.set_cons_zero,List.set_cons_succ]
  refine wpAnyT_takeB (i:=9) (oi:=⟨some 13,.load 9 (.tmp 12),_,_,_,_⟩) (v:=?v9) rfl (by kernel_rfl) (by kernel_rfl) (by kernel_rfl) (by kernel_rfl) (fun _ _ _ h=>h) (Or.inl ⟨by rfl,?hy9⟩) (by assumption) ?rest9
  case hy9=>(intro w hSw;(try dsimp only at hSw);obtain ⟨s0,s1,s2⟩:=hSw;go_simp;try (with_reducible rfl))
  try simp only [Act.put,List.setIfInBounds_toArray,List.set_cons_zero,List.set_cons_succ]
  clear hHeld;refine wpAnyT_two (i:=3) (j:=10) (o:=⟨some 7,.buildSlice 22 1 #[(0,(.tmp 6))],_,_,_,_⟩) (o':=⟨some 14,.buildSlice 22 1 #[(0,(.tmp 13))],_,_,_,_⟩) (by kernel_rfl) rfl rfl (fun K hK=>?_) (fun K hK=>?_)
  · skip
    go_simp;obtain ⟨Ux3,hUx3⟩:∃ X,U.alloc (.cells #[.string (txtOf d.low)] 9)=X:=⟨_,rfl⟩;have hbUx3:Below U.heap.size U Ux3:=by rw [<-hUx3];exact (Below.refl _ _).alloc (Nat.le_refl _) _
    have HKUx3:Hid (Kq B U Ux3):=HKU.out.trans (Kq.of_below hbUx3 (Nat.le_trans hBW HKU.out.low.size));have HPgUx3:Hid (PageAt B b (l) Ux3):=page_below HPgU.out hbUx3;have HR3Ux3:Hid (RdE B Ux3 (.slice (some ⟨U.heap.size,0,none⟩) 1 1) 1 ([d.low].map fun x=>.string (txtOf x))):=by rw [<-hUx3];exact one_text U d.low
    rw [hUx3];clear hUx3 hbUx3;refine hK.out _ _ ⟨HK.out _ HKUx3.out,fun _=>trivial⟩ ?_;clear hK K;try simp only [Act.put,List.setIfInBounds_toArray,List.set_cons_zero,List.set_cons_succ]
    refine wpAnyT_two (i:=4) (j:=10) (o:=⟨some 8,.call { callee:=.value (.func 212),args:=#[(.tmp 4),(.tmp 7)],argTypes:=#[189,22] },_,_,_,_⟩) (o':=⟨some 14,.buildSlice 22 1 #[(0,(.tmp 13))],_,_,_,_⟩) (by kernel_rfl) rfl rfl (fun K hK=>?_) (fun K hK=>?_)
    · skip
      go_simp;refine calls_at (HC0.out Ux3 _ HKUx3.out HPgUx3.out HR3Ux3.out) (by with_reducible rfl) (by with_reducible rfl) ?_;rintro e Ux3x4 ⟨rfl,hp,hk⟩;have HKUx3x4:Hid (Kq B U Ux3x4):=HKUx3.out.trans hk;have HPgUx3x4:Hid (PageAt B b (wordP l d.low) Ux3x4):=hp;have HR3Ux3x4:Hid (RdE B Ux3x4 (.slice (some ⟨U.heap.size,0,none⟩) 1 1) 1 ([d.low].map fun x=>.string (txtOf x))):=HR3Ux3.out.next hk;clear hp hk;go_wp2_with fail
      refine hK.out _ _ ⟨HK.out _ HKUx3x4.out,fun _=>trivial⟩ ?_;clear hK K;try simp only [Act.put,List.setIfInBounds_toArray,List.set_cons_zero,List.set_cons_succ]
      refine wpAnyT_two (i:=7) (j:=10) (o:=⟨some 11,.call { callee:=.value (.func 283),args:=#[(.tmp 8),(.tmp 10)],argTypes:=#[189,22] },_,_,_,_⟩) (o':=⟨some 14,.buildSlice 22 1 #[(0,(.tmp 13))],_,_,_,_⟩) (by kernel_rfl) rfl rfl (fun K hK=>?_) (fun K hK=>?_)
      · skip
        go_simp;refine calls_at (HC1.out Ux3x4 HKUx3x4.out HPgUx3x4.out ) (by with_reducible rfl) (by with_reducible rfl) ?_;rintro e Ux3x4x7 ⟨rfl,hp,hk⟩;have HKUx3x4x7:Hid (Kq B U Ux3x4x7):=HKUx3x4.out.trans hk;have HPgUx3x4x7:Hid (PageAt B b (wordsP (d.low :: leanT d.ids) l) Ux3x4x7):=hp;have HR3Ux3x4x7:Hid (RdE B Ux3x4x7 (.slice (some ⟨U.heap.size,0,none⟩) 1 1) 1 ([d.low].map fun x=>.string (txtOf x))):=HR3Ux3x4.out.next hk;clear hp hk;go_wp2_with fail
        refine hK.out _ _ ⟨HK.out _ HKUx3x4x7.out,fun _=>trivial⟩ ?_;clear hK K;try simp only [Act.put,List.setIfInBounds_toArray,List.set_cons_zero,List.set_cons_succ]
        refine wpAnyT_one (i:=10) (o:=⟨some 14,.buildSlice 22 1 #[(0,(.tmp 13))],_,_,_,_⟩) (by kernel_rfl) rfl (fun K hK=>?_);go_simp;obtain ⟨Ux3x4x7x10,hUx3x4x7x10⟩:∃ X,Ux3x4x7.alloc (.cells #[.string (txtOf d.high)] 9)=X:=⟨_,rfl⟩;have hbUx3x4x7x10:Below Ux3x4x7.heap.size Ux3x4x7 Ux3x4x7x10:=by rw [<-hUx3x4x7x10];exact (Below.refl _ _).alloc (Nat.le_refl _) _
        have HKUx3x4x7x10:Hid (Kq B U Ux3x4x7x10):=HKUx3x4x7.out.trans (Kq.of_below hbUx3x4x7x10 (Nat.le_trans hBW HKUx3x4x7.out.low.size));have HPgUx3x4x7x10:Hid (PageAt B b (wordsP (d.low :: leanT d.ids) l) Ux3x4x7x10):=page_below HPgUx3x4x7.out hbUx3x4x7x10;have HR3Ux3x4x7x10:Hid (RdE B Ux3x4x7x10 (.slice (some ⟨U.heap.size,0,none⟩) 1 1) 1 ([d.low].map fun x=>.string (txtOf x))):=HR3Ux3x4x7.out.next (Kq.of_below hbUx3x4x7x10 (Nat.le_trans hBW HKUx3x4x7.out.low.size));have HR10Ux3x4x7x10:Hid (RdE B Ux3x4x7x10 (.slice (some ⟨Ux3x4x7.heap.size,0,none⟩) 1 1) 1 ([d.high].map fun x=>.string (txtOf x))):=by rw [<-hUx3x4x7x10];exact one_text Ux3x4x7 d.high
        rw [hUx3x4x7x10];clear hUx3x4x7x10 hbUx3x4x7x10;refine hK.out _ _ ⟨HK.out _ HKUx3x4x7x10.out,fun _=>trivial⟩ ?_;clear hK K;try simp only [Act.put,List.setIfInBounds_toArray,List.set_cons_zero,List.set_cons_succ]
        refine wpAnyT_one (i:=11) (o:=⟨some 15,.call { callee:=.value (.func 212),args:=#[(.tmp 11),(.tmp 14)],argTypes:=#[189,22] },_,_,_,_⟩) (by kernel_rfl) rfl (fun K hK=>?_);go_simp;refine calls_at (HC2.out Ux3x4x7x10 _ HKUx3x4x7x10.out HPgUx3x4x7x10.out HR10Ux3x4x7x10.out) (by with_reducible rfl) (by with_reducible rfl) ?_;rintro e Ux3x4x7x10x11 ⟨rfl,hp,hk⟩;have HKUx3x4x7x10x11:Hid (Kq B U Ux3x4x7x10x11):=HKUx3x4x7x10.out.trans hk;have HPgUx3x4x7x10x11:Hid (PageAt B b (wordsP ((d.low :: leanT d.ids)++[d.high]) l) Ux3x4x7x10x11):=hp;have HR3Ux3x4x7x10x11:Hid (RdE B Ux3x4x7x10x11 (.slice (some ⟨U.heap.size,0,none⟩) 1 1) 1 ([d.low].map fun x=>.string (txtOf x))):=HR3Ux3x4x7x10.out.next hk
        have HR10Ux3x4x7x10x11:Hid (RdE B Ux3x4x7x10x11 (.slice (some ⟨Ux3x4x7.heap.size,0,none⟩) 1 1) 1 ([d.high].map fun x=>.string (txtOf x))):=HR10Ux3x4x7x10.out.next hk;clear hp hk;go_wp2_with fail
        refine hK.out _ _ ⟨HK.out _ HKUx3x4x7x10x11.out,fun _=>trivial⟩ ?_;clear hK K;try simp only [Act.put,List.setIfInBounds_toArray,List.set_cons_zero,List.set_cons_succ]
        refine wpAnyT_done (by kernel_rfl) ?_ _;have H9:Hid (PageAt B b (wordsP ((d.low :: leanT d.ids)++[d.high]) l) Ux3x4x7x10x11/\Kq B w Ux3x4x7x10x11):=⟨HPgUx3x4x7x10x11.out,HKW.out.trans HKUx3x4x7x10x11.out⟩;go_wp2_with fail
        go_end0;exact ⟨rfl,H9.out⟩
      · skip
        go_simp;obtain ⟨Ux3x4x10,hUx3x4x10⟩:∃ X,Ux3x4.alloc (.cells #[.string (txtOf d.high)] 9)=X:=⟨_,rfl⟩;have hbUx3x4x10:Below Ux3x4.heap.size Ux3x4 Ux3x4x10:=by rw [<-hUx3x4x10];exact (Below.refl _ _).alloc (Nat.le_refl _) _
        have HKUx3x4x10:Hid (Kq B U Ux3x4x10):=HKUx3x4.out.trans (Kq.of_below hbUx3x4x10 (Nat.le_trans hBW HKUx3x4.out.low.size));have HPgUx3x4x10:Hid (PageAt B b (wordP l d.low) Ux3x4x10):=page_below HPgUx3x4.out hbUx3x4x10;have HR3Ux3x4x10:Hid (RdE B Ux3x4x10 (.slice (some ⟨U.heap.size,0,none⟩) 1 1) 1 ([d.low].map fun x=>.string (txtOf x))):=HR3Ux3x4.out.next (Kq.of_below hbUx3x4x10 (Nat.le_trans hBW HKUx3x4.out.low.size));have HR10Ux3x4x10:Hid (RdE B Ux3x4x10 (.slice (some ⟨Ux3x4.heap.size,0,none⟩) 1 1) 1 ([d.high].map fun x=>.string (txtOf x))):=by rw [<-hUx3x4x10];exact one_text Ux3x4 d.high
        rw [hUx3x4x10];clear hUx3x4x10 hbUx3x4x10;refine hK.out _ _ ⟨HK.out _ HKUx3x4x10.out,fun _=>trivial⟩ ?_;clear hK K;try simp only [Act.put,List.setIfInBounds_toArray,List.set_cons_zero,List.set_cons_succ]
        refine wpAnyT_one (i:=7) (o:=⟨some 11,.call { callee:=.value (.func 283),args:=#[(.tmp 8),(.tmp 10)],argTypes:=#[189,22] },_,_,_,_⟩) (by kernel_rfl) rfl (fun K hK=>?_);go_simp;refine calls_at (HC1.out Ux3x4x10 HKUx3x4x10.out HPgUx3x4x10.out ) (by with_reducible rfl) (by with_reducible rfl) ?_;rintro e Ux3x4x10x7 ⟨rfl,hp,hk⟩;have HKUx3x4x10x7:Hid (Kq B U Ux3x4x10x7):=HKUx3x4x10.out.trans hk;have HPgUx3x4x10x7:Hid (PageAt B b (wordsP (d.low :: leanT d.ids) l) Ux3x4x10x7):=hp;have HR3Ux3x4x10x7:Hid (RdE B Ux3x4x10x7 (.slice (some ⟨U.heap.size,0,none⟩) 1 1) 1 ([d.low].map fun x=>.string (txtOf x))):=HR3Ux3x4x10.out.next hk;have HR10Ux3x4x10x7:Hid (RdE B Ux3x4x10x7 (.slice (some ⟨Ux3x4.heap.size,0,none⟩) 1 1) 1 ([d.high].map fun x=>.string (txtOf x))):=HR10Ux3x4x10.out.next hk;clear hp hk;go_wp2_with fail
        refine hK.out _ _ ⟨HK.out _ HKUx3x4x10x7.out,fun _=>trivial⟩ ?_;clear hK K;try simp only [Act.put,List.setIfInBounds_toArray,List.set_cons_zero,List.set_cons_succ]
        refine wpAnyT_one (i:=11) (o:=⟨some 15,.call { callee:=.value (.func 212),args:=#[(.tmp 11),(.tmp 14)],argTypes:=#[189,22] },_,_,_,_⟩) (by kernel_rfl) rfl (fun K hK=>?_);go_simp;refine calls_at (HC2.out Ux3x4x10x7 _ HKUx3x4x10x7.out HPgUx3x4x10x7.out HR10Ux3x4x10x7.out) (by with_reducible rfl) (by with_reducible rfl) ?_;rintro e Ux3x4x10x7x11 ⟨rfl,hp,hk⟩;have HKUx3x4x10x7x11:Hid (Kq B U Ux3x4x10x7x11):=HKUx3x4x10x7.out.trans hk;have HPgUx3x4x10x7x11:Hid (PageAt B b (wordsP ((d.low :: leanT d.ids)++[d.high]) l) Ux3x4x10x7x11):=hp;have HR3Ux3x4x10x7x11:Hid (RdE B Ux3x4x10x7x11 (.slice (some ⟨U.heap.size,0,none⟩) 1 1) 1 ([d.low].map fun x=>.string (txtOf x))):=HR3Ux3x4x10x7.out.next hk
        have HR10Ux3x4x10x7x11:Hid (RdE B Ux3x4x10x7x11 (.slice (some ⟨Ux3x4.heap.size,0,none⟩) 1 1) 1 ([d.high].map fun x=>.string (txtOf x))):=HR10Ux3x4x10x7.out.next hk;clear hp hk;go_wp2_with fail
        refine hK.out _ _ ⟨HK.out _ HKUx3x4x10x7x11.out,fun _=>trivial⟩ ?_;clear hK K;try simp only [Act.put,List.setIfInBounds_toArray,List.set_cons_zero,List.set_cons_succ]
        refine wpAnyT_done (by kernel_rfl) ?_ _;have H9:Hid (PageAt B b (wordsP ((d.low :: leanT d.ids)++[d.high]) l) Ux3x4x10x7x11/\Kq B w Ux3x4x10x7x11):=⟨HPgUx3x4x10x7x11.out,HKW.out.trans HKUx3x4x10x7x11.out⟩;go_wp2_with fail
        go_end0;exact ⟨rfl,H9.out⟩
    · skip
      go_simp;obtain ⟨Ux3x10,hUx3x10⟩:∃ X,Ux3.alloc (.cells #[.string (txtOf d.high)] 9)=X:=⟨_,rfl⟩;have hbUx3x10:Below Ux3.heap.size Ux3 Ux3x10:=by rw [<-hUx3x10];exact (Below.refl _ _).alloc (Nat.le_refl _) _
      have HKUx3x10:Hid (Kq B U Ux3x10):=HKUx3.out.trans (Kq.of_below hbUx3x10 (Nat.le_trans hBW HKUx3.out.low.size));have HPgUx3x10:Hid (PageAt B b (l) Ux3x10):=page_below HPgUx3.out hbUx3x10;have HR3Ux3x10:Hid (RdE B Ux3x10 (.slice (some ⟨U.heap.size,0,none⟩) 1 1) 1 ([d.low].map fun x=>.string (txtOf x))):=HR3Ux3.out.next (Kq.of_below hbUx3x10 (Nat.le_trans hBW HKUx3.out.low.size));have HR10Ux3x10:Hid (RdE B Ux3x10 (.slice (some ⟨Ux3.heap.size,0,none⟩) 1 1) 1 ([d.high].map fun x=>.string (txtOf x))):=by rw [<-hUx3x10];exact one_text Ux3 d.high
      rw [hUx3x10];clear hUx3x10 hbUx3x10;refine hK.out _ _ ⟨HK.out _ HKUx3x10.out,fun _=>trivial⟩ ?_;clear hK K;try simp only [Act.put,List.setIfInBounds_toArray,List.set_cons_zero,List.set_cons_succ]
      refine wpAnyT_one (i:=4) (o:=⟨some 8,.call { callee:=.value (.func 212),args:=#[(.tmp 4),(.tmp 7)],argTypes:=#[189,22] },_,_,_,_⟩) (by kernel_rfl) rfl (fun K hK=>?_);go_simp;refine calls_at (HC0.out Ux3x10 _ HKUx3x10.out HPgUx3x10.out HR3Ux3x10.out) (by with_reducible rfl) (by with_reducible rfl) ?_;rintro e Ux3x10x4 ⟨rfl,hp,hk⟩;have HKUx3x10x4:Hid (Kq B U Ux3x10x4):=HKUx3x10.out.trans hk;have HPgUx3x10x4:Hid (PageAt B b (wordP l d.low) Ux3x10x4):=hp;have HR3Ux3x10x4:Hid (RdE B Ux3x10x4 (.slice (some ⟨U.heap.size,0,none⟩) 1 1) 1 ([d.low].map fun x=>.string (txtOf x))):=HR3Ux3x10.out.next hk;have HR10Ux3x10x4:Hid (RdE B Ux3x10x4 (.slice (some ⟨Ux3.heap.size,0,none⟩) 1 1) 1 ([d.high].map fun x=>.string (txtOf x))):=HR10Ux3x10.out.next hk;clear hp hk;go_wp2_with fail
      refine hK.out _ _ ⟨HK.out _ HKUx3x10x4.out,fun _=>trivial⟩ ?_;clear hK K;try simp only [Act.put,List.setIfInBounds_toArray,List.set_cons_zero,List.set_cons_succ]
      refine wpAnyT_one (i:=7) (o:=⟨some 11,.call { callee:=.value (.func 283),args:=#[(.tmp 8),(.tmp 10)],argTypes:=#[189,22] },_,_,_,_⟩) (by kernel_rfl) rfl (fun K hK=>?_);go_simp;refine calls_at (HC1.out Ux3x10x4 HKUx3x10x4.out HPgUx3x10x4.out ) (by with_reducible rfl) (by with_reducible rfl) ?_;rintro e Ux3x10x4x7 ⟨rfl,hp,hk⟩;have HKUx3x10x4x7:Hid (Kq B U Ux3x10x4x7):=HKUx3x10x4.out.trans hk;have HPgUx3x10x4x7:Hid (PageAt B b (wordsP (d.low :: leanT d.ids) l) Ux3x10x4x7):=hp;have HR3Ux3x10x4x7:Hid (RdE B Ux3x10x4x7 (.slice (some ⟨U.heap.size,0,none⟩) 1 1) 1 ([d.low].map fun x=>.string (txtOf x))):=HR3Ux3x10x4.out.next hk;have HR10Ux3x10x4x7:Hid (RdE B Ux3x10x4x7 (.slice (some ⟨Ux3.heap.size,0,none⟩) 1 1) 1 ([d.high].map fun x=>.string (txtOf x))):=HR10Ux3x10x4.out.next hk;clear hp hk;go_wp2_with fail
      refine hK.out _ _ ⟨HK.out _ HKUx3x10x4x7.out,fun _=>trivial⟩ ?_;clear hK K;try simp only [Act.put,List.setIfInBounds_toArray,List.set_cons_zero,List.set_cons_succ]
      refine wpAnyT_one (i:=11) (o:=⟨some 15,.call { callee:=.value (.func 212),args:=#[(.tmp 11),(.tmp 14)],argTypes:=#[189,22] },_,_,_,_⟩) (by kernel_rfl) rfl (fun K hK=>?_);go_simp;refine calls_at (HC2.out Ux3x10x4x7 _ HKUx3x10x4x7.out HPgUx3x10x4x7.out HR10Ux3x10x4x7.out) (by with_reducible rfl) (by with_reducible rfl) ?_;rintro e Ux3x10x4x7x11 ⟨rfl,hp,hk⟩;have HKUx3x10x4x7x11:Hid (Kq B U Ux3x10x4x7x11):=HKUx3x10x4x7.out.trans hk;have HPgUx3x10x4x7x11:Hid (PageAt B b (wordsP ((d.low :: leanT d.ids)++[d.high]) l) Ux3x10x4x7x11):=hp;have HR3Ux3x10x4x7x11:Hid (RdE B Ux3x10x4x7x11 (.slice (some ⟨U.heap.size,0,none⟩) 1 1) 1 ([d.low].map fun x=>.string (txtOf x))):=HR3Ux3x10x4x7.out.next hk
      have HR10Ux3x10x4x7x11:Hid (RdE B Ux3x10x4x7x11 (.slice (some ⟨Ux3.heap.size,0,none⟩) 1 1) 1 ([d.high].map fun x=>.string (txtOf x))):=HR10Ux3x10x4x7.out.next hk;clear hp hk;go_wp2_with fail
      refine hK.out _ _ ⟨HK.out _ HKUx3x10x4x7x11.out,fun _=>trivial⟩ ?_;clear hK K;try simp only [Act.put,List.setIfInBounds_toArray,List.set_cons_zero,List.set_cons_succ]
      refine wpAnyT_done (by kernel_rfl) ?_ _;have H9:Hid (PageAt B b (wordsP ((d.low :: leanT d.ids)++[d.high]) l) Ux3x10x4x7x11/\Kq B w Ux3x10x4x7x11):=⟨HPgUx3x10x4x7x11.out,HKW.out.trans HKUx3x10x4x7x11.out⟩;go_wp2_with fail
      go_end0;exact ⟨rfl,H9.out⟩
  · skip
    go_simp;obtain ⟨Ux10,hUx10⟩:∃ X,U.alloc (.cells #[.string (txtOf d.high)] 9)=X:=⟨_,rfl⟩;have hbUx10:Below U.heap.size U Ux10:=by rw [<-hUx10];exact (Below.refl _ _).alloc (Nat.le_refl _) _
    have HKUx10:Hid (Kq B U Ux10):=HKU.out.trans (Kq.of_below hbUx10 (Nat.le_trans hBW HKU.out.low.size));have HPgUx10:Hid (PageAt B b (l) Ux10):=page_below HPgU.out hbUx10;have HR10Ux10:Hid (RdE B Ux10 (.slice (some ⟨U.heap.size,0,none⟩) 1 1) 1 ([d.high].map fun x=>.string (txtOf x))):=by rw [<-hUx10];exact one_text U d.high
    rw [hUx10];clear hUx10 hbUx10;refine hK.out _ _ ⟨HK.out _ HKUx10.out,fun _=>trivial⟩ ?_;clear hK K;try simp only [Act.put,List.setIfInBounds_toArray,List.set_cons_zero,List.set_cons_succ]
    refine wpAnyT_one (i:=3) (o:=⟨some 7,.buildSlice 22 1 #[(0,(.tmp 6))],_,_,_,_⟩) (by kernel_rfl) rfl (fun K hK=>?_);go_simp;obtain ⟨Ux10x3,hUx10x3⟩:∃ X,Ux10.alloc (.cells #[.string (txtOf d.low)] 9)=X:=⟨_,rfl⟩;have hbUx10x3:Below Ux10.heap.size Ux10 Ux10x3:=by rw [<-hUx10x3];exact (Below.refl _ _).alloc (Nat.le_refl _) _
    have HKUx10x3:Hid (Kq B U Ux10x3):=HKUx10.out.trans (Kq.of_below hbUx10x3 (Nat.le_trans hBW HKUx10.out.low.size));have HPgUx10x3:Hid (PageAt B b (l) Ux10x3):=page_below HPgUx10.out hbUx10x3;have HR10Ux10x3:Hid (RdE B Ux10x3 (.slice (some ⟨U.heap.size,0,none⟩) 1 1) 1 ([d.high].map fun x=>.string (txtOf x))):=HR10Ux10.out.next (Kq.of_below hbUx10x3 (Nat.le_trans hBW HKUx10.out.low.size));have HR3Ux10x3:Hid (RdE B Ux10x3 (.slice (some ⟨Ux10.heap.size,0,none⟩) 1 1) 1 ([d.low].map fun x=>.string (txtOf x))):=by rw [<-hUx10x3];exact one_text Ux10 d.low
    rw [hUx10x3];clear hUx10x3 hbUx10x3;refine hK.out _ _ ⟨HK.out _ HKUx10x3.out,fun _=>trivial⟩ ?_;clear hK K;try simp only [Act.put,List.setIfInBounds_toArray,List.set_cons_zero,List.set_cons_succ]
    refine wpAnyT_one (i:=4) (o:=⟨some 8,.call { callee:=.value (.func 212),args:=#[(.tmp 4),(.tmp 7)],argTypes:=#[189,22] },_,_,_,_⟩) (by kernel_rfl) rfl (fun K hK=>?_);go_simp;refine calls_at (HC0.out Ux10x3 _ HKUx10x3.out HPgUx10x3.out HR3Ux10x3.out) (by with_reducible rfl) (by with_reducible rfl) ?_;rintro e Ux10x3x4 ⟨rfl,hp,hk⟩;have HKUx10x3x4:Hid (Kq B U Ux10x3x4):=HKUx10x3.out.trans hk;have HPgUx10x3x4:Hid (PageAt B b (wordP l d.low) Ux10x3x4):=hp;have HR10Ux10x3x4:Hid (RdE B Ux10x3x4 (.slice (some ⟨U.heap.size,0,none⟩) 1 1) 1 ([d.high].map fun x=>.string (txtOf x))):=HR10Ux10x3.out.next hk;have HR3Ux10x3x4:Hid (RdE B Ux10x3x4 (.slice (some ⟨Ux10.heap.size,0,none⟩) 1 1) 1 ([d.low].map fun x=>.string (txtOf x))):=HR3Ux10x3.out.next hk;clear hp hk;go_wp2_with fail
    refine hK.out _ _ ⟨HK.out _ HKUx10x3x4.out,fun _=>trivial⟩ ?_;clear hK K;try simp only [Act.put,List.setIfInBounds_toArray,List.set_cons_zero,List.set_cons_succ]
    refine wpAnyT_one (i:=7) (o:=⟨some 11,.call { callee:=.value (.func 283),args:=#[(.tmp 8),(.tmp 10)],argTypes:=#[189,22] },_,_,_,_⟩) (by kernel_rfl) rfl (fun K hK=>?_);go_simp;refine calls_at (HC1.out Ux10x3x4 HKUx10x3x4.out HPgUx10x3x4.out ) (by with_reducible rfl) (by with_reducible rfl) ?_;rintro e Ux10x3x4x7 ⟨rfl,hp,hk⟩;have HKUx10x3x4x7:Hid (Kq B U Ux10x3x4x7):=HKUx10x3x4.out.trans hk;have HPgUx10x3x4x7:Hid (PageAt B b (wordsP (d.low :: leanT d.ids) l) Ux10x3x4x7):=hp;have HR10Ux10x3x4x7:Hid (RdE B Ux10x3x4x7 (.slice (some ⟨U.heap.size,0,none⟩) 1 1) 1 ([d.high].map fun x=>.string (txtOf x))):=HR10Ux10x3x4.out.next hk;have HR3Ux10x3x4x7:Hid (RdE B Ux10x3x4x7 (.slice (some ⟨Ux10.heap.size,0,none⟩) 1 1) 1 ([d.low].map fun x=>.string (txtOf x))):=HR3Ux10x3x4.out.next hk;clear hp hk;go_wp2_with fail
    refine hK.out _ _ ⟨HK.out _ HKUx10x3x4x7.out,fun _=>trivial⟩ ?_;clear hK K;try simp only [Act.put,List.setIfInBounds_toArray,List.set_cons_zero,List.set_cons_succ]
    refine wpAnyT_one (i:=11) (o:=⟨some 15,.call { callee:=.value (.func 212),args:=#[(.tmp 11),(.tmp 14)],argTypes:=#[189,22] },_,_,_,_⟩) (by kernel_rfl) rfl (fun K hK=>?_);go_simp;refine calls_at (HC2.out Ux10x3x4x7 _ HKUx10x3x4x7.out HPgUx10x3x4x7.out HR10Ux10x3x4x7.out) (by with_reducible rfl) (by with_reducible rfl) ?_;rintro e Ux10x3x4x7x11 ⟨rfl,hp,hk⟩;have HKUx10x3x4x7x11:Hid (Kq B U Ux10x3x4x7x11):=HKUx10x3x4x7.out.trans hk;have HPgUx10x3x4x7x11:Hid (PageAt B b (wordsP ((d.low :: leanT d.ids)++[d.high]) l) Ux10x3x4x7x11):=hp;have HR10Ux10x3x4x7x11:Hid (RdE B Ux10x3x4x7x11 (.slice (some ⟨U.heap.size,0,none⟩) 1 1) 1 ([d.high].map fun x=>.string (txtOf x))):=HR10Ux10x3x4x7.out.next hk
    have HR3Ux10x3x4x7x11:Hid (RdE B Ux10x3x4x7x11 (.slice (some ⟨Ux10.heap.size,0,none⟩) 1 1) 1 ([d.low].map fun x=>.string (txtOf x))):=HR3Ux10x3x4x7.out.next hk;clear hp hk;go_wp2_with fail
    refine hK.out _ _ ⟨HK.out _ HKUx10x3x4x7x11.out,fun _=>trivial⟩ ?_;clear hK K;try simp only [Act.put,List.setIfInBounds_toArray,List.set_cons_zero,List.set_cons_succ]
    refine wpAnyT_done (by kernel_rfl) ?_ _;have H9:Hid (PageAt B b (wordsP ((d.low :: leanT d.ids)++[d.high]) l) Ux10x3x4x7x11/\Kq B w Ux10x3x4x7x11):=⟨HPgUx10x3x4x7x11.out,HKW.out.trans HKUx10x3x4x7x11.out⟩;go_wp2_with fail
    go_end0;exact ⟨rfl,H9.out⟩
end Go.Proofs.YtpcijhecaedkpaaGreatDoor

namespace Go.Proofs.YtpcijhecaedkpaaGreatDoor
open Go.RowKit
set_option maxRecDepth 10000
set_option maxHeartbeats 8000000
def opT (o:OpL):List (List UInt8):=if o.1=1 then [o.2.1] else if o.1=2 then [litT o.2.2] else if o.1=3 then [[43]] else if o.1=4 then [o.2.1,[42]] else if o.1=5 then [o.2.1,[100]] else if o.1=6 then [[115]] else if o.1=7 then [litT o.2.2,[119]] else []
theorem two_texts {B:Nat} (w:World) (x y:List UInt8):RdE B (w.alloc (.cells #[.string (txtOf x),.string (txtOf y)] 9)) (.slice (some ⟨w.heap.size,0,none⟩) 2 2) 2 ([x,y].map fun x=>.string (txtOf x)):=by
  have hg:=heap_alloc_new w (.cells #[.string (txtOf x),.string (txtOf y)] 9);refine ⟨_,_,rfl,by omega,fun _=>⟨w.heap.size,0,rfl,.inr ⟨_,_,_,hg,by decide,by decide⟩,(Array.getElem?_eq_some_iff.1 hg).1,fun j u hu=>?_⟩⟩;rw [Nat.zero_add,cell_of hg];simpa using hu
theorem words_two {B b:Nat} {l:List UInt8} (x y:List UInt8) (w:World) (h:PageAt B b l w) (hl:l.length+tot [x,y]<=900000000) (hBw:B<=w.heap.size):Calls Tryz.prog 212 #[.pointer (some ⟨b,0,none⟩),.slice (some ⟨w.heap.size,0,none⟩) 2 2] (w.alloc (.cells #[.string (txtOf x),.string (txtOf y)] 9)) fun e w'=>e=.returned (.pointer (some ⟨b,0,none⟩))/\PageAt B b (wordsP [x,y] l) w'/\Kq B w w':=by
  have hb:Below w.heap.size w (w.alloc (.cells #[.string (txtOf x),.string (txtOf y)] 9)):=(Below.refl _ _).alloc (Nat.le_refl _) _;refine (words_any [x,y] _ _ (page_below h hb) (two_texts w x y) hl (Nat.le_trans hBw hb.size)).mono fun e w' hq=>?_
  exact ⟨hq.1,hq.2.1,(Kq.of_below hb hBw).trans hq.2.2⟩
theorem op_wr {B b:Nat} {l:List UInt8} (k:Int) (n:List UInt8) (z:Int) (w:World) (h:PageAt B b l w) (hl:l.length+tot (opT (k,n,z))<=900000000) (hr:-9223372036854775808<=z/\z<=9223372036854775807) (hBw:B<=w.heap.size) (hg:Gl w) (hB:12<=B):Calls Tryz.prog 231 #[.pointer (some ⟨b,0,none⟩),.agg #[.int .i64 k,.string (txtOf n),.int .i64 z]] w (WrO B b (wordsP (opT (k,n,z)) l) w):=by
  obtain ⟨W,hW⟩:∃ W,w.alloc (.cells #[.int .i64 k,.string (txtOf n),.int .i64 z] 106)=W:=⟨_,rfl⟩;have hbW:Below w.heap.size w W:=by rw [<-hW];exact (Below.refl _ _).alloc (Nat.le_refl _) _
  have kW:Kq B w W:=Kq.of_below hbW hBw;have hBW:B<=W.heap.size:=Nat.le_trans hBw hbW.size;have gW:W.heap[w.heap.size]?=some (.cells #[.int .i64 k,.string (txtOf n),.int .i64 z] 106 (0,0)):=by rw [<-hW];exact heap_alloc_new w _
  have HKW:Hid (Kq B w W):=kW;have HP:Hid (PageAt B b l W):=page_below h hbW;have HG:Hid (Gl W):=hg.kq kW hB;have c0:=cell_of gW 0;have c1:=cell_of gW 1;have c2:=cell_of gW 2;dsimp at c0 c1 c2;have HgW:Hid (W.heap[w.heap.size]?=some (.cells #[.int .i64 k,.string (txtOf n),.int .i64 z] 106 (0,0))):=gW;clear h hg hbW kW gW;unfold WrO
  by_cases h1:k=1
  · subst h1
    have hT:opT (1,n,z)=[n]:=rfl;rw [hT] at hl;rw [hT];have HC:Hid (Calls Tryz.prog 212 #[.pointer (some ⟨b,0,none⟩),.slice (some ⟨W.heap.size,0,none⟩) 1 1] (W.alloc (.cells #[.string (txtOf n)] 9)) fun e w'=>e=.returned (.pointer (some ⟨b,0,none⟩))/\PageAt B b (wordsP [n] l) w'/\Kq B W w'):=words_one n W HP.out (by simpa [tot] using hl) hBW;clear hl hT;go_enter Tryz.func231,Tryz.ntmps231;go_wp2_with fail
    refine calls_at HC.out (by with_reducible rfl) (by with_reducible rfl) ?_;rintro e w2 ⟨rfl,hp2,hk2⟩;have H2:Hid (PageAt B b (wordsP [n] l) w2/\Kq B w w2):=⟨hp2,HKW.out.trans hk2⟩;clear hp2 hk2;go_wp2_with fail
    go_end0;exact ⟨rfl,H2.out⟩
  by_cases h2:k=2
  · subst h2
    have hT:opT (2,n,z)=[litT z]:=rfl;rw [hT] at hl;rw [hT];have HC:Hid (Calls Tryz.prog 238 #[.pointer (some ⟨b,0,none⟩),.slice (some ⟨W.heap.size,0,none⟩) 1 1] (W.alloc (.cells #[.int .i64 z] 3)) fun e w'=>e=.returned (.pointer (some ⟨b,0,none⟩))/\PageAt B b (wordsP [litT z] l) w'/\Kq B W w'):=lits_one z W HP.out (by simpa [tot] using hl) hr hBW HG.out hB;clear hl hT;go_enter Tryz.func231,Tryz.ntmps231;go_wp2_with fail
    refine calls_at HC.out (by with_reducible rfl) (by with_reducible rfl) ?_;rintro e w2 ⟨rfl,hp2,hk2⟩;have H2:Hid (PageAt B b (wordsP [litT z] l) w2/\Kq B w w2):=⟨hp2,HKW.out.trans hk2⟩;clear hp2 hk2;go_wp2_with fail
    go_end0;exact ⟨rfl,H2.out⟩
  by_cases h3:k=3
  · subst h3
    have hT:opT (3,n,z)=[[43]]:=rfl;rw [hT] at hl;rw [hT];have HC:Hid (Calls Tryz.prog 212 #[.pointer (some ⟨b,0,none⟩),.slice (some ⟨W.heap.size,0,none⟩) 1 1] (W.alloc (.cells #[.string ⟨#[43]⟩] 9)) fun e w'=>e=.returned (.pointer (some ⟨b,0,none⟩))/\PageAt B b (wordsP [[43]] l) w'/\Kq B W w'):=words_one [43] W HP.out (by simpa [tot] using hl) hBW;clear hl hT;go_enter Tryz.func231,Tryz.ntmps231;go_wp2_with fail
    refine calls_at HC.out (by with_reducible rfl) (by with_reducible rfl) ?_;rintro e w2 ⟨rfl,hp2,hk2⟩;have H2:Hid (PageAt B b (wordsP [[43]] l) w2/\Kq B w w2):=⟨hp2,HKW.out.trans hk2⟩;clear hp2 hk2;go_wp2_with fail
    go_end0;exact ⟨rfl,H2.out⟩
  by_cases h4:k=4
  · subst h4
    have hT:opT (4,n,z)=[n,[42]]:=rfl;rw [hT] at hl;rw [hT];have HC:Hid (Calls Tryz.prog 212 #[.pointer (some ⟨b,0,none⟩),.slice (some ⟨W.heap.size,0,none⟩) 2 2] (W.alloc (.cells #[.string (txtOf n),.string ⟨#[42]⟩] 9)) fun e w'=>e=.returned (.pointer (some ⟨b,0,none⟩))/\PageAt B b (wordsP [n,[42]] l) w'/\Kq B W w'):=words_two n [42] W HP.out hl hBW;clear hl hT;go_enter Tryz.func231,Tryz.ntmps231;go_wp2_with fail
    refine calls_at HC.out (by with_reducible rfl) (by with_reducible rfl) ?_;rintro e w2 ⟨rfl,hp2,hk2⟩;have H2:Hid (PageAt B b (wordsP [n,[42]] l) w2/\Kq B w w2):=⟨hp2,HKW.out.trans hk2⟩;clear hp2 hk2;go_wp2_with fail
    go_end0;exact ⟨rfl,H2.out⟩
  by_cases h5:k=5
  · subst h5
    have hT:opT (5,n,z)=[n,[100]]:=rfl;rw [hT] at hl;rw [hT];have HC:Hid (Calls Tryz.prog 212 #[.pointer (some ⟨b,0,none⟩),.slice (some ⟨W.heap.size,0,none⟩) 2 2] (W.alloc (.cells #[.string (txtOf n),.string ⟨#[100]⟩] 9)) fun e w'=>e=.returned (.pointer (some ⟨b,0,none⟩))/\PageAt B b (wordsP [n,[100]] l) w'/\Kq B W w'):=words_two n [100] W HP.out hl hBW;clear hl hT;go_enter Tryz.func231,Tryz.ntmps231;go_wp2_with fail
    refine calls_at HC.out (by with_reducible rfl) (by with_reducible rfl) ?_;rintro e w2 ⟨rfl,hp2,hk2⟩;have H2:Hid (PageAt B b (wordsP [n,[100]] l) w2/\Kq B w w2):=⟨hp2,HKW.out.trans hk2⟩;clear hp2 hk2;go_wp2_with fail
    go_end0;exact ⟨rfl,H2.out⟩
  by_cases h6:k=6
  · subst h6
    have hT:opT (6,n,z)=[[115]]:=rfl;rw [hT] at hl;rw [hT];have HC:Hid (Calls Tryz.prog 212 #[.pointer (some ⟨b,0,none⟩),.slice (some ⟨W.heap.size,0,none⟩) 1 1] (W.alloc (.cells #[.string ⟨#[115]⟩] 9)) fun e w'=>e=.returned (.pointer (some ⟨b,0,none⟩))/\PageAt B b (wordsP [[115]] l) w'/\Kq B W w'):=words_one [115] W HP.out (by simpa [tot] using hl) hBW;clear hl hT;go_enter Tryz.func231,Tryz.ntmps231;go_wp2_with fail
    refine calls_at HC.out (by with_reducible rfl) (by with_reducible rfl) ?_;rintro e w2 ⟨rfl,hp2,hk2⟩;have H2:Hid (PageAt B b (wordsP [[115]] l) w2/\Kq B w w2):=⟨hp2,HKW.out.trans hk2⟩;clear hp2 hk2;go_wp2_with fail
    go_end0;exact ⟨rfl,H2.out⟩
  by_cases h7:k=7
  · subst h7
    have hT:opT (7,n,z)=[litT z,[119]]:=rfl;rw [hT] at hl;rw [hT];have hl2:l.length+((litT z).length+1)+2<=900000000:=by simp [tot] at hl;omega
    have HC:Hid (Calls Tryz.prog 238 #[.pointer (some ⟨b,0,none⟩),.slice (some ⟨W.heap.size,0,none⟩) 1 1] (W.alloc (.cells #[.int .i64 z] 3)) fun e w'=>e=.returned (.pointer (some ⟨b,0,none⟩))/\PageAt B b (wordP l (litT z)) w'/\Kq B W w'):=lits_one z W HP.out (by omega) hr hBW HG.out hB;have HD:Hid (∀ w',Kq B W w'->PageAt B b (wordP l (litT z)) w'->Calls Tryz.prog 212 #[.pointer (some ⟨b,0,none⟩),.slice (some ⟨w'.heap.size,0,none⟩) 1 1] (w'.alloc (.cells #[.string ⟨#[119]⟩] 9)) fun e w2=>e=.returned (.pointer (some ⟨b,0,none⟩))/\PageAt B b (wordsP [litT z,[119]] l) w2/\Kq B w' w2):=fun w' k hp=>words_one [119] w' hp (by have:=word_len l (litT z);simp;omega) (Nat.le_trans hBW k.low.size)
    clear hl hl2 hT;go_enter Tryz.func231,Tryz.ntmps231;go_wp2_with fail
    refine calls_at HC.out (by with_reducible rfl) (by with_reducible rfl) ?_;rintro e w2 ⟨rfl,hp2,hk2⟩;have H2:Hid (PageAt B b (wordP l (litT z)) w2/\Kq B W w2):=⟨hp2,hk2⟩;clear hp2 hk2;go_wp2_with fail
    refine calls_at (HD.out w2 H2.out.2 H2.out.1) (by with_reducible rfl) (by with_reducible rfl) ?_;rintro e w3 ⟨rfl,hp3,hk3⟩;have H3:Hid (PageAt B b (wordsP [litT z,[119]] l) w3/\Kq B w w3):=⟨hp3,HKW.out.trans (H2.out.2.trans hk3)⟩;clear hp3 hk3;go_wp2_with fail
    go_end0;exact ⟨rfl,H3.out⟩
  have hT:opT (k,n,z)=[]:=by simp [opT,h1,h2,h3,h4,h5,h6,h7]
  rw [hT];have HE:Hid (PageAt B b l W/\Kq B w W):=⟨HP.out,HKW.out⟩;clear hl hT;go_enter Tryz.func231,Tryz.ntmps231;go_wp2_with fail
  go_end0;exact ⟨rfl,HE.out⟩
def opsT (L:List OpL):List (List UInt8):=L.flatMap opT
end Go.Proofs.YtpcijhecaedkpaaGreatDoor

namespace Go.Proofs.YtpcijhecaedkpaaGreatDoor
open Go.RowKit
set_option maxRecDepth 10000
set_option maxHeartbeats 8000000
theorem sameTexts_any (L M:List (List UInt8)) (v v':Value) (w:World) (h:RdAt w v L.length (L.map fun x=>.string (txtOf x))) (h':RdAt w v' M.length (M.map fun x=>.string (txtOf x))):Calls Tryz.prog 35 #[v,v'] w fun e w'=>e=.returned (.bool (decide (L=M)))/\Below w.heap.size w w':=by
  obtain ⟨a,cap,rfl,hn,hc⟩:=h;obtain ⟨a',cap',rfl,hn',hc'⟩:=h'
  by_cases hlen:L.length=M.length
  · have HC:Hid (∀ w',Below w.heap.size w w'->∀ j (hj:j<L.length),∃ g off,a=some ⟨g,off,none⟩/\w'.cell? ⟨g,off+j,none⟩=some (.string (txtOf L[j]))):=fun w' hb j hj=>by
      obtain ⟨g,off,e1,e2,e3⟩:=hc (by omega);have p1:(L.map fun x=>Value.string (txtOf x))[j]?=some (.string (txtOf L[j])):=by simp [hj]
      exact ⟨g,off,e1,(hb.cell (p:=⟨g,off+j,none⟩) e2).trans (e3 _ _ p1)⟩
    have HC':Hid (∀ w',Below w.heap.size w w'->∀ j (hj:j<M.length),∃ g off,a'=some ⟨g,off,none⟩/\w'.cell? ⟨g,off+j,none⟩=some (.string (txtOf M[j]))):=fun w' hb j hj=>by
      obtain ⟨g,off,e1,e2,e3⟩:=hc' (by omega);have p1:(M.map fun x=>Value.string (txtOf x))[j]?=some (.string (txtOf M[j])):=by simp [hj]
      exact ⟨g,off,e1,(hb.cell (p:=⟨g,off+j,none⟩) e2).trans (e3 _ _ p1)⟩
    have HLen:Hid (L.length=M.length):=hlen;rw [<-hlen];clear hc hc' hlen hn';go_enter Tryz.func35,Tryz.ntmps35;go_wp2_with fail
    go_loopw [5] (fun iv wr=>∃ k:Nat,iv=.int .i64 (k:Int)/\k<=L.length/\Hid (Below w.heap.size w wr/\L.take k=M.take k)) (fun iv _=>L.length-(intOf iv).toNat)
    case atStart=>exact ⟨0,rfl,Nat.zero_le _,Below.refl _ _,rfl⟩
    case round=>
      obtain ⟨k,rfl,hk,HBr⟩:=hrel
      by_cases hkn:k<L.length
      · have hkI:(k:Int)<(L.length:Int):=by omega
        have hkm:k<M.length:=by have:=HLen.out;omega
        obtain ⟨g,off,rfl,x0⟩:=HC.out wr HBr.out.1 k hkn;obtain ⟨g',off',rfl,y0⟩:=HC'.out wr HBr.out.1 k hkm
        by_cases hel:L[k]=M[k]
        · have HNx:Hid (L.take (k+1)=M.take (k+1)):=take_grow HBr.out.2 hkn hkm hel
          rw [<-hel] at y0;have hq:=txt_beq L[k] L[k];rw [decide_eq_true rfl] at hq;obtain ⟨T,hT⟩:∃ T,txtOf L[k]=T:=⟨_,rfl⟩;rw [hT] at x0 y0 hq;clear hT hel;go_wp2_with fail
          go_region;have HBd:Hid (Below w.heap.size w wr.drew):=HBr.out.1.drew;go_wp2_with fail
          go_roundw
          case rel=>exact ⟨k+1,by go_num,hkn,HBd.out,HNx.out⟩
          case measure=>simp [intOf];omega
        · have HNo:Hid (decide (L=M)=false):=decide_eq_false (get_ne hkn hkm hel)
          have hq:=txt_beq L[k] M[k];rw [decide_eq_false hel] at hq;obtain ⟨T,hT⟩:∃ T,txtOf L[k]=T:=⟨_,rfl⟩;obtain ⟨T',hT'⟩:∃ T,txtOf M[k]=T:=⟨_,rfl⟩;rw [hT] at x0 hq;rw [hT'] at y0 hq;clear hT hT' hel;go_wp2_with fail
          go_region;have HBd:Hid (Below w.heap.size w wr.drew):=HBr.out.1.drew;go_wp2_with fail
          go_ret;exact ⟨by rw [HNo.out];rfl,HBd.out⟩
      · have hkI:¬ (k:Int)<(L.length:Int):=by omega
        have HYes:Hid (decide (L=M)=true):=decide_eq_true (take_all HBr.out.2 (by omega) (by have:=HLen.out;omega));go_wp2_with fail
        go_ret;exact ⟨by rw [HYes.out];rfl,HBr.out.1⟩
  · have hlI:¬ ((L.length:Int)=(M.length:Int)):=by omega
    have HNo:Hid (decide (L=M)=false):=decide_eq_false fun e=>hlen (by rw [e])
    clear hc hc';go_enter Tryz.func35,Tryz.ntmps35;go_wp2_with fail
    go_ret;exact ⟨by rw [HNo.out];rfl,Below.refl _ _⟩
end Go.Proofs.YtpcijhecaedkpaaGreatDoor
