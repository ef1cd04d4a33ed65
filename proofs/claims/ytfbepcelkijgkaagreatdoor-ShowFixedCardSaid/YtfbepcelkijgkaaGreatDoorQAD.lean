import Derived.OneCell
import Derived.StillTailTactics
import Derived.BigRegion
import Derived.Deep.RegionHeld3
import Derived.Deep.Cut
import Derived.Test.YtfbepcelkijgkaaGreatDoorQAC
set_option maxRecDepth 100000
set_option maxHeartbeats 8000000
open Go.Value renaming int → Yd
open Go.IntKind renaming i64 → Yf
open Go renaming World → Yh
namespace Go.Proofs.YtfbepcelkijgkaaGreatDoor
section
open Go.RowKit
theorem ZaI.grown {w w':Yh} {g:Nat} {l:List (List UInt8)} {row:Option Nat} (h:ZaI w g l) (c:w.grownBy w' row) (a:row≠some g):ZaI w' g l:=by obtain⟨t,b,e⟩:=h;exact⟨t,b,(c.block g (lt_of_block e) (fun q=>a q.symm)).trans e⟩
theorem ZlL {a b c:Yh} {row:Option Nat} (h:a.grownBy b row) (k:b.grownBy c row):a.grownBy c row:=
 ⟨k.os.trans h.os,k.tape.trans h.tape,k.output.trans h.output,Nat.le_trans h.size k.size,fun i e d=>(k.block i (Nat.lt_of_lt_of_le e h.size) d).trans (h.block i e d)⟩
end
section
open Go.RowKit
def isKey (l:List UInt8):Bool:=ZG.any fun k=>k==l
def ZN (l:List UInt8):Bool:=(match l with|[]=>false|c::_=>ZbP c)&&decide (l.length<=16)&&decide (Zao Za2 l=l.length)&&!isKey l
theorem ZiK {l:List (List UInt8)} {k:Nat} {c:List UInt8} (h:l[k]? = some c):l.drop k=c::l.drop (k+1):=by obtain⟨hk,rfl⟩:=List.getElem?_eq_some_iff.1 h;exact List.drop_eq_getElem_cons hk
theorem ZoJ:(Tryz.prog.info? 130).map (·.size)=some (ZG.map txt).toArray.size:=by kernel_rfl
theorem Zsa (k:Nat) (g:List UInt8) (h:ZG[k]? = some g) (w:Yh):(Instr.index 130 (.agg (ZG.map txt).toArray) (Yd Yf k)).run Tryz.prog w=.ok (txt g) w:=by
 have hk:k<24:=by
  rcases Nat.lt_or_ge k 24 with q|q
  ·exact q
  ·rw[List.getElem?_eq_none (by exact q)]at h;cases h
 obtain rfl|s:=Nat.eq_or_lt_of_le (show 0<=k by omega)
 ·obtain rfl:ZG.getD 0 []=g:=by rw[List.getD_eq_getElem?_getD,h];rfl
  exact(show ∀w:Yh,(Instr.index 130 (.agg (ZG.map txt).toArray) (Yd Yf (0:Nat))).run Tryz.prog w=.ok (txt (ZG.getD 0 [])) w from fun _=>by kernel_rfl) w
 obtain rfl|t:=Nat.eq_or_lt_of_le (show 1<=k by omega)
 ·obtain rfl:ZG.getD 1 []=g:=by rw[List.getD_eq_getElem?_getD,h];rfl
  exact(show ∀w:Yh,(Instr.index 130 (.agg (ZG.map txt).toArray) (Yd Yf (1:Nat))).run Tryz.prog w=.ok (txt (ZG.getD 1 [])) w from fun _=>by kernel_rfl) w
 obtain rfl|u:=Nat.eq_or_lt_of_le (show 2<=k by omega)
 ·obtain rfl:ZG.getD 2 []=g:=by rw[List.getD_eq_getElem?_getD,h];rfl
  exact(show ∀w:Yh,(Instr.index 130 (.agg (ZG.map txt).toArray) (Yd Yf (2:Nat))).run Tryz.prog w=.ok (txt (ZG.getD 2 [])) w from fun _=>by kernel_rfl) w
 obtain rfl|v:=Nat.eq_or_lt_of_le (show 3<=k by omega)
 ·obtain rfl:ZG.getD 3 []=g:=by rw[List.getD_eq_getElem?_getD,h];rfl
  exact(show ∀w:Yh,(Instr.index 130 (.agg (ZG.map txt).toArray) (Yd Yf (3:Nat))).run Tryz.prog w=.ok (txt (ZG.getD 3 [])) w from fun _=>by kernel_rfl) w
 obtain rfl|y:=Nat.eq_or_lt_of_le (show 4<=k by omega)
 ·obtain rfl:ZG.getD 4 []=g:=by rw[List.getD_eq_getElem?_getD,h];rfl
  exact(show ∀w:Yh,(Instr.index 130 (.agg (ZG.map txt).toArray) (Yd Yf (4:Nat))).run Tryz.prog w=.ok (txt (ZG.getD 4 [])) w from fun _=>by kernel_rfl) w
 obtain rfl|z:=Nat.eq_or_lt_of_le (show 5<=k by omega)
 ·obtain rfl:ZG.getD 5 []=g:=by rw[List.getD_eq_getElem?_getD,h];rfl
  exact(show ∀w:Yh,(Instr.index 130 (.agg (ZG.map txt).toArray) (Yd Yf (5:Nat))).run Tryz.prog w=.ok (txt (ZG.getD 5 [])) w from fun _=>by kernel_rfl) w
 obtain rfl|A:=Nat.eq_or_lt_of_le (show 6<=k by omega)
 ·obtain rfl:ZG.getD 6 []=g:=by rw[List.getD_eq_getElem?_getD,h];rfl
  exact(show ∀w:Yh,(Instr.index 130 (.agg (ZG.map txt).toArray) (Yd Yf (6:Nat))).run Tryz.prog w=.ok (txt (ZG.getD 6 [])) w from fun _=>by kernel_rfl) w
 obtain rfl|B:=Nat.eq_or_lt_of_le (show 7<=k by omega)
 ·obtain rfl:ZG.getD 7 []=g:=by rw[List.getD_eq_getElem?_getD,h];rfl
  exact(show ∀w:Yh,(Instr.index 130 (.agg (ZG.map txt).toArray) (Yd Yf (7:Nat))).run Tryz.prog w=.ok (txt (ZG.getD 7 [])) w from fun _=>by kernel_rfl) w
 obtain rfl|C:=Nat.eq_or_lt_of_le (show 8<=k by omega)
 ·obtain rfl:ZG.getD 8 []=g:=by rw[List.getD_eq_getElem?_getD,h];rfl
  exact(show ∀w:Yh,(Instr.index 130 (.agg (ZG.map txt).toArray) (Yd Yf (8:Nat))).run Tryz.prog w=.ok (txt (ZG.getD 8 [])) w from fun _=>by kernel_rfl) w
 obtain rfl|D:=Nat.eq_or_lt_of_le (show 9<=k by omega)
 ·obtain rfl:ZG.getD 9 []=g:=by rw[List.getD_eq_getElem?_getD,h];rfl
  exact(show ∀w:Yh,(Instr.index 130 (.agg (ZG.map txt).toArray) (Yd Yf (9:Nat))).run Tryz.prog w=.ok (txt (ZG.getD 9 [])) w from fun _=>by kernel_rfl) w
 obtain rfl|a:=Nat.eq_or_lt_of_le (show 10<=k by omega)
 ·obtain rfl:ZG.getD 10 []=g:=by rw[List.getD_eq_getElem?_getD,h];rfl
  exact(show ∀w:Yh,(Instr.index 130 (.agg (ZG.map txt).toArray) (Yd Yf (10:Nat))).run Tryz.prog w=.ok (txt (ZG.getD 10 [])) w from fun _=>by kernel_rfl) w
 obtain rfl|b:=Nat.eq_or_lt_of_le (show 11<=k by omega)
 ·obtain rfl:ZG.getD 11 []=g:=by rw[List.getD_eq_getElem?_getD,h];rfl
  exact(show ∀w:Yh,(Instr.index 130 (.agg (ZG.map txt).toArray) (Yd Yf (11:Nat))).run Tryz.prog w=.ok (txt (ZG.getD 11 [])) w from fun _=>by kernel_rfl) w
 obtain rfl|c:=Nat.eq_or_lt_of_le (show 12<=k by omega)
 ·obtain rfl:ZG.getD 12 []=g:=by rw[List.getD_eq_getElem?_getD,h];rfl
  exact(show ∀w:Yh,(Instr.index 130 (.agg (ZG.map txt).toArray) (Yd Yf (12:Nat))).run Tryz.prog w=.ok (txt (ZG.getD 12 [])) w from fun _=>by kernel_rfl) w
 obtain rfl|d:=Nat.eq_or_lt_of_le (show 13<=k by omega)
 ·obtain rfl:ZG.getD 13 []=g:=by rw[List.getD_eq_getElem?_getD,h];rfl
  exact(show ∀w:Yh,(Instr.index 130 (.agg (ZG.map txt).toArray) (Yd Yf (13:Nat))).run Tryz.prog w=.ok (txt (ZG.getD 13 [])) w from fun _=>by kernel_rfl) w
 obtain rfl|e:=Nat.eq_or_lt_of_le (show 14<=k by omega)
 ·obtain rfl:ZG.getD 14 []=g:=by rw[List.getD_eq_getElem?_getD,h];rfl
  exact(show ∀w:Yh,(Instr.index 130 (.agg (ZG.map txt).toArray) (Yd Yf (14:Nat))).run Tryz.prog w=.ok (txt (ZG.getD 14 [])) w from fun _=>by kernel_rfl) w
 obtain rfl|f:=Nat.eq_or_lt_of_le (show 15<=k by omega)
 ·obtain rfl:ZG.getD 15 []=g:=by rw[List.getD_eq_getElem?_getD,h];rfl
  exact(show ∀w:Yh,(Instr.index 130 (.agg (ZG.map txt).toArray) (Yd Yf (15:Nat))).run Tryz.prog w=.ok (txt (ZG.getD 15 [])) w from fun _=>by kernel_rfl) w
 obtain rfl|i:=Nat.eq_or_lt_of_le (show 16<=k by omega)
 ·obtain rfl:ZG.getD 16 []=g:=by rw[List.getD_eq_getElem?_getD,h];rfl
  exact(show ∀w:Yh,(Instr.index 130 (.agg (ZG.map txt).toArray) (Yd Yf (16:Nat))).run Tryz.prog w=.ok (txt (ZG.getD 16 [])) w from fun _=>by kernel_rfl) w
 obtain rfl|j:=Nat.eq_or_lt_of_le (show 17<=k by omega)
 ·obtain rfl:ZG.getD 17 []=g:=by rw[List.getD_eq_getElem?_getD,h];rfl
  exact(show ∀w:Yh,(Instr.index 130 (.agg (ZG.map txt).toArray) (Yd Yf (17:Nat))).run Tryz.prog w=.ok (txt (ZG.getD 17 [])) w from fun _=>by kernel_rfl) w
 obtain rfl|l:=Nat.eq_or_lt_of_le (show 18<=k by omega)
 ·obtain rfl:ZG.getD 18 []=g:=by rw[List.getD_eq_getElem?_getD,h];rfl
  exact(show ∀w:Yh,(Instr.index 130 (.agg (ZG.map txt).toArray) (Yd Yf (18:Nat))).run Tryz.prog w=.ok (txt (ZG.getD 18 [])) w from fun _=>by kernel_rfl) w
 obtain rfl|m:=Nat.eq_or_lt_of_le (show 19<=k by omega)
 ·obtain rfl:ZG.getD 19 []=g:=by rw[List.getD_eq_getElem?_getD,h];rfl
  exact(show ∀w:Yh,(Instr.index 130 (.agg (ZG.map txt).toArray) (Yd Yf (19:Nat))).run Tryz.prog w=.ok (txt (ZG.getD 19 [])) w from fun _=>by kernel_rfl) w
 obtain rfl|n:=Nat.eq_or_lt_of_le (show 20<=k by omega)
 ·obtain rfl:ZG.getD 20 []=g:=by rw[List.getD_eq_getElem?_getD,h];rfl
  exact(show ∀w:Yh,(Instr.index 130 (.agg (ZG.map txt).toArray) (Yd Yf (20:Nat))).run Tryz.prog w=.ok (txt (ZG.getD 20 [])) w from fun _=>by kernel_rfl) w
 obtain rfl|o:=Nat.eq_or_lt_of_le (show 21<=k by omega)
 ·obtain rfl:ZG.getD 21 []=g:=by rw[List.getD_eq_getElem?_getD,h];rfl
  exact(show ∀w:Yh,(Instr.index 130 (.agg (ZG.map txt).toArray) (Yd Yf (21:Nat))).run Tryz.prog w=.ok (txt (ZG.getD 21 [])) w from fun _=>by kernel_rfl) w
 obtain rfl|p:=Nat.eq_or_lt_of_le (show 22<=k by omega)
 ·obtain rfl:ZG.getD 22 []=g:=by rw[List.getD_eq_getElem?_getD,h];rfl
  exact(show ∀w:Yh,(Instr.index 130 (.agg (ZG.map txt).toArray) (Yd Yf (22:Nat))).run Tryz.prog w=.ok (txt (ZG.getD 22 [])) w from fun _=>by kernel_rfl) w
 obtain rfl|r:=Nat.eq_or_lt_of_le (show 23<=k by omega)
 ·obtain rfl:ZG.getD 23 []=g:=by rw[List.getD_eq_getElem?_getD,h];rfl
  exact(show ∀w:Yh,(Instr.index 130 (.agg (ZG.map txt).toArray) (Yd Yf (23:Nat))).run Tryz.prog w=.ok (txt (ZG.getD 23 [])) w from fun _=>by kernel_rfl) w
 omega
theorem Zrx (s:ByteArray) (w:Yh) (q:ZaI w 3 ZG) :
  Calls Tryz.prog 108 #[.string s] w (ZeP w (.bool (isKey s.data.toList))):=by
 obtain⟨z,l⟩:∃z,z=isKey s.data.toList:=⟨_,rfl⟩
 rw[<-l];obtain⟨A,u,c⟩:=q;have b:=ZoJ;have h:=Zsa;generalize(ZG.map txt).toArray=p at *;have d:=zh (zi c (zi b h));have n:=zh l;clear l c b h;go_enter Tryz.func108,Tryz.ntmps108;go_wp2_with (refine wpList_load_row rfl 130 _ rfl 3 rfl _ p _ _ d.out.1 Tryz.underlying130 rfl d.out.2.1 ?_);go_loopg [6] 24 (fun g r wr=>∃k:Nat,r=Yd Yf k/\k<=24/\g=24-k/\z=((ZG.drop k).any fun k=>k==s.data.toList)/\wr=w)
 case atStart=>exact⟨0,rfl,Nat.zero_le _,rfl,by rw[n.out];rfl,rfl⟩
 case round=>
  obtain⟨k,rfl,hk,j,a,rfl⟩:=hrel;by_cases f:k<24
  ·obtain⟨g,e⟩:∃g,ZG[k]? = some g:=⟨_,Ym (by exact f)⟩
   have y:=d.out.2.2 k g e;rw[ZiK e,List.any_cons]at a;have v:(k:Int)<24:=by omega
   have i2:(0:Int)<=(k:Int):=by omega
   have B:IntKind.i64.wrap ((k:Int)+1)=(k:Int)+1:=IntWalk.i64_in _ (by omega);have m:=zh (zi f j);have i:=zh a;clear a j e;by_cases R:g=s.data.toList
   ·go_wp2_with fail;go_ret;exact⟨Zb6 (by rw[i.out,beq_iff_eq.2 R];rfl),rfl⟩
   ·have t:(g==s.toList)=false:=by rw[Lib.toList_data];simpa using R
    have o:=zh R;clear R;go_wp2_with fail;go_roundg (24-(k+1))
    case measure=>have:=m.out;omega
    case rel=>exact⟨k+1,by push_cast;rfl,by have:=m.out;omega,rfl,by rw[i.out,beq_eq_false_iff_ne.2 o.out,Bool.false_or],rfl⟩
  ·obtain rfl:k=24:=by omega
   have i:=zh a;clear j hk f a;go_wp2_with fail;go_ret;exact⟨Zb6 (by rw[i.out];rfl),rfl⟩
theorem Zpi (w:Yh):Calls Tryz.prog 95 #[] w fun e w'=>e=.returned (.slice (some ⟨w.heap.size,0,none⟩) 24 24)/\Below w.heap.size w w'/\Blk w' w.heap.size (ZG.map txt).toArray:=by go_enter Tryz.func95,Tryz.ntmps95;go_wp2_with fail;go_ret;exact⟨rfl,below_alloc1 _ _,Blk.start _ _ _⟩
theorem Zlh (s:ByteArray) (w:Yh) :
  Calls Tryz.prog 70 #[.string s] w fun e w'=>e=.returned (.bool (isKey s.data.toList))/\Below w.heap.size w w':=by
 obtain⟨z,l⟩:∃z,z=isKey s.data.toList:=⟨_,rfl⟩
 rw[<-l];have q:=zh l;have p:=Zpi w;have r:=zh p;clear l p;go_enter Tryz.func70,Tryz.ntmps70;go_wp2_with (go_at_call 95;(with_reducible refine r.out.mono ?_);rintro e u ⟨rfl,o,n⟩);have f:=zh (zi o n);clear o n;go_loopg [4] 24 (fun g t wr=>∃k:Nat,t=Yd Yf k/\k<=24/\g=24-k/\z=((ZG.drop k).any fun k=>k==s.data.toList)/\wr=u)
 case atStart=>exact⟨0,rfl,Nat.zero_le _,rfl,by rw[q.out];rfl,rfl⟩
 case round=>
  obtain⟨k,rfl,hk,j,a,rfl⟩:=hrel;by_cases c:k<24
  ·obtain⟨g,b⟩:∃g,ZG[k]? = some g:=⟨_,Ym (by exact c)⟩
   have i:=f.out.2.cell k;rw[List.getElem?_toArray,List.getElem?_map,b]at i;have A:wr.cell? ⟨w.heap.size,k,none⟩=some (txt g):=i;rw[ZiK b,List.any_cons]at a;have B:(k:Int)<24:=by omega
   have i2:(0:Int)<=(k:Int):=by omega
   have C:IntKind.i64.wrap ((k:Int)+1)=(k:Int)+1:=IntWalk.i64_in _ (by omega);have m:=zh (zi c j);have d:=zh a;clear a j b i;by_cases R:g=s.data.toList
   ·have v:(g==s.toList)=true:=by rw[Lib.toList_data];simpa using R
    have h:=zh R;clear R;go_wp2_with fail;go_ret;exact⟨Zb6 (by rw[d.out,beq_iff_eq.2 h.out];rfl),f.out.1⟩
   ·have y:(g==s.toList)=false:=by rw[Lib.toList_data];simpa using R
    have h:=zh R;clear R;go_wp2_with fail;go_roundg (24-(k+1))
    case measure=>have:=m.out;omega
    case rel=>exact⟨k+1,by push_cast;rfl,by have:=m.out;omega,rfl,by rw[d.out,beq_eq_false_iff_ne.2 h.out,Bool.false_or],rfl⟩
  ·obtain rfl:k=24:=by omega
   have d:=zh a;clear j hk c a;go_wp2_with fail;go_ret;exact⟨Zb6 (by rw[d.out];rfl),f.out.1⟩
theorem Zqn (s:ByteArray) (w:Yh) (h:s.data.toList=[]):Calls Tryz.prog 79 #[.string s] w (ZeP w (.bool (ZN s.data.toList))):=by
 have hs:s=⟨#[]⟩:=by apply ByteArray.ext;apply Array.ext';exact h
 subst hs;clear h;go_enter Tryz.func79,Tryz.ntmps79;go_wp2_with fail;go_ret;exact⟨rfl,rfl⟩
theorem Zqm (s:ByteArray) (w:Yh) (hs:s.size<=maxLen) (p:ZaI w 3 ZG) :
  Calls Tryz.prog 79 #[.string s] w (ZeP w (.bool (ZN s.data.toList))):=by
 cases h:s.data.toList with
 |nil=>rw[<-h];exact Zqn s w h
 |cons c r=>
  have l:=fun w (h:ZaI w 3 ZG)=>Zrx s w h;have o:=fun w=>ZrN s w hs;have n:=fun w=>Zi0 c.toNat w;rw[Zf3]at n;have u:0<s.size:=by rw[<-Zdj,h];simp
  have hc:=Zmo h u;have m:=congrArg UInt8.toNat hc;have y:=ZoZ h;have b:(c::r).length=s.size:=by rw[<-h,Zdj]
  have hn:ZN (c::r)=(ZbP c&&decide (s.size<=16)&&decide (Zao Za2 (c::r)=s.size)&&!isKey (c::r)):=by unfold ZN;rw[b]
  rw[h]at l o;rw[hn];generalize Zao Za2 (c::r)=q at *;generalize isKey (c::r)=K at *;generalize ZbP c=L at *;have g:=zh (l w p);have j:=zh o;have i:=zh n;generalize c.toNat=v at *;clear l o n p h hc hn b hs;by_cases a:s.size<=16
  ·have k:(s.size:Int)<=16:=by omega
   by_cases hq:q=s.size
   ·have t:((q:Int)==(s.size:Int))=true:=by rw[hq];exact beq_self_eq_true _
    have f:=zh (zi hq a);clear hq;cases L<;>cases K
    all_goals
     go_enter Tryz.func79,Tryz.ntmps79;go_wp2_with (first|(go_at_call 105;(with_reducible refine(i.out _).mono ?_);rintro e d ⟨rfl,rfl⟩)|(go_at_call 106;(with_reducible refine(j.out _).mono ?_);rintro e d ⟨rfl,rfl⟩)|(go_at_call 108;(with_reducible refine g.out.mono ?_);rintro e d ⟨rfl,rfl⟩));go_ret;exact⟨Zb6 (by rw[decide_eq_true f.out.1,decide_eq_true f.out.2];rfl),rfl⟩
   ·have t:((q:Int)==(s.size:Int))=false:=by simpa using fun e=>hq (by omega)
    have f:=zh (zi hq a);clear hq;cases L<;>cases K
    all_goals
     go_enter Tryz.func79,Tryz.ntmps79;go_wp2_with (first|(go_at_call 105;(with_reducible refine(i.out _).mono ?_);rintro e d ⟨rfl,rfl⟩)|(go_at_call 106;(with_reducible refine(j.out _).mono ?_);rintro e d ⟨rfl,rfl⟩)|(go_at_call 108;(with_reducible refine g.out.mono ?_);rintro e d ⟨rfl,rfl⟩));go_ret;exact⟨Zb6 (by rw[decide_eq_false f.out.1,decide_eq_true f.out.2];rfl),rfl⟩
  ·have k:¬(s.size:Int)<=16:=by omega
   have f:=zh a;clear a;go_enter Tryz.func79,Tryz.ntmps79;go_wp2_with (first|(go_at_call 105;(with_reducible refine(i.out _).mono ?_);rintro e d ⟨rfl,rfl⟩)|(go_at_call 106;(with_reducible refine(j.out _).mono ?_);rintro e d ⟨rfl,rfl⟩)|(go_at_call 108;(with_reducible refine g.out.mono ?_);rintro e d ⟨rfl,rfl⟩));go_ret;exact⟨Zb6 (by rw[decide_eq_false f.out];simp),rfl⟩
theorem Zpk (s:ByteArray) (w:Yh) (h:s.data.toList=[]):Calls Tryz.prog 56 #[.string s] w fun e w'=>e=.returned (.bool (ZN s.data.toList))/\Below w.heap.size w w':=by
 have hs:s=⟨#[]⟩:=by apply ByteArray.ext;apply Array.ext';exact h
 subst hs;clear h;go_enter Tryz.func56,Tryz.ntmps56;go_wp2_with fail;go_ret;exact⟨rfl,Below.refl _ _⟩
theorem Zpj (s:ByteArray) (w:Yh) (hs:s.size<=maxLen) :
  Calls Tryz.prog 56 #[.string s] w fun e w'=>e=.returned (.bool (ZN s.data.toList))/\Below w.heap.size w w':=by
 cases h:s.data.toList with
 |nil=>rw[<-h];exact Zpk s w h
 |cons c r=>
  have Q:=fun w=>Zlh s w;have N:=fun w=>Zfj c.toNat w;rw[Zf3]at N;have E:0<s.size:=by rw[<-Zdj,h];simp
  have hc:=Zmo h E;have m:=congrArg UInt8.toNat hc;have z0:((s.size:Int)==0)=false:=by simpa using fun e=>by rw[e]at E;cases E
  have l:(c::r).length=s.size:=by rw[<-h,Zdj]
  have hn:ZN (c::r)=(ZbP c&&decide (s.size<=16)&&decide (Zao Za2 (c::r)=s.size)&&!isKey (c::r)):=by unfold ZN;rw[l]
  have n:ZbP c=true->Zao Za2 s.data.toList=1+Zao Za2 (s.data.toList.drop 1):=fun q=>by
   rw[h,ZcF,Yo (Zk6 q)];show _=1+Zao Za2 r;omega
  rw[hn,<-h];rw[<-h]at hn;generalize S:ZN s.data.toList=z at *;obtain⟨p,P⟩:∃p,p=Zao Za2 s.data.toList:=⟨_,rfl⟩
  rw[<-P]at n hn⊢;rw[<-hn];generalize isKey s.data.toList=K at *;generalize ZbP c=L at *;have R:=zh Q;have H:=zh N;have y:=zh (zi hn n);generalize c.toNat=T at *;unfold maxLen at hs;clear Q N h hc hn l S P n;by_cases b:s.size<=16
  ·have J:(s.size:Int)<=16:=by omega
   have G:=zh b;cases L
   ·clear b;go_enter Tryz.func56,Tryz.ntmps56;go_wp2_with (go_at_call 44;(with_reducible refine(H.out _).mono ?_);rintro e o ⟨rfl,rfl⟩);go_ret;exact⟨Zb6 (by rw[y.out.1];rfl),Below.refl _ _⟩
   ·clear b;go_enter Tryz.func56,Tryz.ntmps56;go_wp2_with (go_at_call 44;(with_reducible refine(H.out _).mono ?_);rintro e o ⟨rfl,rfl⟩);clear m H;go_loopg [3] (s.size-1) (fun g v3 wr=>∃k:Nat,v3=Yd Yf k/\k<=s.size/\g=s.size-k/\p=k+Zao Za2 (s.data.toList.drop k)/\wr=w)
    case atStart=>exact⟨1,rfl,E,rfl,y.out.2 trivial,rfl⟩
    case round=>
     obtain⟨k,rfl,hk,t,j,rfl⟩:=hrel;have D:=zh j;clear j;by_cases f:k<s.size
     ·have B:=byte_at f;have d:=fun w=>Zfj s[k].toNat w;have i:=fun w=>Zea s[k].toNat w;rw[Zf3]at d;rw[Ze5]at i;have U:(k:Int)<(s.size:Int):=by omega
      have i2:(0:Int)<=(k:Int):=by omega
      have V:IntKind.i64.wrap ((k:Int)+1)=(k:Int)+1:=IntWalk.i64_in _ (by omega);by_cases a:Za2 s[k]=true
      ·have O:=zh (ZdC (p:=Za2) B a);rcases Zk5 a with q|⟨q,C⟩
       ·rw[q]at d;have A:=zh d;have v:=zh (zi f t);clear d i a q B t;go_wp2_with (go_at_call 44;(with_reducible refine(A.out _).mono ?_);rintro e o ⟨rfl,rfl⟩);go_roundg (s.size-(k+1))
        case measure=>have:=v.out;omega
        case rel=>exact⟨k+1,by push_cast;rfl,by have:=v.out;omega,rfl,by have:=O.out;have:=D.out;omega,rfl⟩
       ·rw[q]at d;rw[C]at i;have A:=zh d;have F:=zh i;have v:=zh (zi f t);clear d i a q C B t;go_wp2_with (first|(go_at_call 44;(with_reducible refine(A.out _).mono ?_);rintro e o ⟨rfl,rfl⟩)|(go_at_call 45;(with_reducible refine(F.out _).mono ?_);rintro e o ⟨rfl,rfl⟩));go_roundg (s.size-(k+1))
        case measure=>have:=v.out;omega
        case rel=>exact⟨k+1,by push_cast;rfl,by have:=v.out;omega,rfl,by have:=O.out;have:=D.out;omega,rfl⟩
      ·have a:Za2 s[k]=false:=by simpa using a
       have I:=Zgg (p:=Za2) B a;obtain⟨q,C⟩:=ZoO a;rw[q]at d;rw[C]at i;have A:=zh d;have F:=zh i
       have u:=zh (show z=false from by
        have:=D.out;rw[y.out.1,decide_eq_false (show ¬p=s.size by omega)]
        simp)
       clear d i a q C B t I;go_wp2_with (first|(go_at_call 44;(with_reducible refine(A.out _).mono ?_);rintro e o ⟨rfl,rfl⟩)|(go_at_call 45;(with_reducible refine(F.out _).mono ?_);rintro e o ⟨rfl,rfl⟩));go_ret;exact⟨Zb6 u.out.symm,Below.refl _ _⟩
     ·obtain rfl:k=s.size:=by omega
      have I:=Zfs (p:=Za2) (Nat.le_of_eq (Zdj s))
      have u:=zh (show z=!K from by
       have:=D.out;rw[y.out.1,decide_eq_true (show p=s.size by omega),decide_eq_true G.out]
       rfl)
      clear I f hk t;go_wp2_with (go_at_call 70;(with_reducible refine(R.out _).mono ?_);rintro e o ⟨rfl,M⟩);go_ret;exact⟨Zb6 u.out.symm,M⟩
  ·have J:¬(s.size:Int)<=16:=by omega
   have u:=zh (show z=false from by rw[y.out.1,decide_eq_false b];simp);clear b;go_enter Tryz.func56,Tryz.ntmps56;go_wp2_with fail;go_ret;exact⟨Zb6 u.out.symm,Below.refl _ _⟩
end
end Go.Proofs.YtfbepcelkijgkaaGreatDoor
