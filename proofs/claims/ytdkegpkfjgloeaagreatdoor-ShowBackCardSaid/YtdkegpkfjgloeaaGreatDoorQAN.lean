import Derived.Deep.DeepFit
import Derived.Test.YtdkegpkfjgloeaaGreatDoorQAC
set_option maxRecDepth 100000
set_option maxHeartbeats 8000000
open Option renaming some → Ya, none → Yb
open Go.Value renaming slice → Yc, int → Yd
open Go.IntKind renaming i64 → Yf
open Go renaming World → Yh, Value → Yi
namespace Go.Proofs.YtdkegpkfjgloeaaGreatDoor
section
open Go.RowKit
def Zbs:List Tok->List Yi
 |[]=>[]
 |t::r=>Yd Yf t.1::txt t.2.1::Yd Yf t.2.2::Zbs r
theorem Zh1:∀(l:List Tok) (k:Nat) (x:Tok),l[k]? = Ya x->(Zbs l)[k*3]? = Ya (Yd Yf x.1)/\(Zbs l)[k*3+1]? = Ya (txt x.2.1)/\(Zbs l)[k*3+2]? = Ya (Yd Yf x.2.2)
 |[],k,x,h=>by simp at h
 |y::r,0,x,h=>by
  obtain rfl:y=x:=by simpa using h
  exact⟨rfl,rfl,rfl⟩
 |y::r,k+1,x,h=>by
  rw[List.getElem?_cons_succ]at h;obtain⟨a,b,c⟩:=Zh1 r k x h;exact⟨by rw[show(k+1)*3=k*3+1+1+1 by omega];exact a,by rw[show(k+1)*3+1=k*3+1+1+1+1 by omega];exact b,by rw[show(k+1)*3+2=k*3+2+1+1+1 by omega];exact c⟩
theorem Zgj:∀(l m:List Tok),Zbs (l++m)=Zbs l++Zbs m
 |[],m=>rfl
 |x::r,m=>by rw[List.cons_append,Zbs,Zbs,Zgj r m];rfl
def Zck (w:Yh) (v:Yi) (l:List Tok):Prop:=∃A c,v=Yc A l.length c/\l.length<=c/\c<=maxLen/\ZO w w.heap.size 3 A l.length (Zbs l)
theorem Zck.below {w w':Yh} {v:Yi} {l:List Tok} (h:Zck w v l) (a:Below w.heap.size w w'):Zck w' v l:=by obtain⟨A,c,b,d,e,f⟩:=h;exact⟨A,c,b,d,e,(f.below a).more a.size⟩
theorem Zck.nil (w:Yh):Zck w (Yc Yb 0 0) []:=⟨Yb,0,rfl,Nat.le_refl _,by decide,ZO.none_⟩
theorem Zck.own {w:Yh} {b:Nat} {v:Yi} {ts:List Tok} (h:w.ownsRow b 72 3 v ts.length (Zbs ts)):Zck w v ts:=by
 have i:=h;rcases h.2 with⟨rfl,hn⟩|⟨g,c,f,rfl,_,j,d,a⟩
 ·have e:ts=[]:=List.eq_nil_of_length_eq_zero hn;subst e;exact Zck.nil w
 ·exact⟨Ya _,c,rfl,d,a.1,ZO.of_own i⟩
theorem ZrB:(Tryz.prog.info? 72).map (fun i=>(i.zero,i.size,i.bytes))=Ya (Ya (.agg #[Yd Yf 0,.string ⟨#[]⟩,Yd Yf 0]),3,32):=by kernel_rfl
def Zog (w:Yh):LexAns->Ending->Yh->Prop
 |.bad a,e,w'=>e=.returned (.tuple #[Yc Yb 0 0,.agg #[Yd Yf 10,Yd Yf a]])/\Below w.heap.size w w'
 |.ok ts,e,w'=>∃A c,e=.returned (.tuple #[Yc A ts.length c,.agg #[Yd Yf 0,Yd Yf 0]])/\Zck w' (Yc A ts.length c) ts/\Below w.heap.size w w'
theorem Zfo {s:ByteArray} {l:List UInt8} (h:s.data.toList=l):Value.string s=txt l:=by subst h;rfl
end
section
open Go.RowKit
theorem Zdk (w:Yh) (x y z:Yi) (ty:TypeId):ZO (w.alloc (.cells #[x,y,z] ty)) (w.heap.size+1) 3 (Ya ⟨w.heap.size,0,Yb⟩) 1 [x,y,z]:=by
 refine⟨rfl,fun _=>⟨_,rfl,by simp,fun j u a=>?_⟩⟩;have e:(⟨w.heap.size,0,Yb⟩:Addr).add j=⟨w.heap.size,j,Yb⟩:=by unfold Addr.add;split<;>simp_all
 rw[e,(Blk.start w #[x,y,z] ty).cell j];simpa using a
end
section
open Go.RowKit
structure RefS (W wr:Yh) (v:Yi) (ts:List Tok):Prop where
 F:Blk wr W.heap.size #[Yd Yf 0,Yd Yf 0]
 own:wr.ownsRow (W.heap.size+1) 72 3 v ts.length (Zbs ts)
 below:Below W.heap.size W wr
section
variable {W wr w':Yh} {v:Yi} {ts:List Tok}
theorem RefS.keep (h:RefS W wr v ts) (a:Below wr.heap.size wr w'):RefS W w' v ts:=
 ⟨h.F.keep a,h.own.kept (Zd7 a Yb) (by cases hv:v.ownBlock<;>simp),h.below.trans (a.mono h.below.size)⟩
theorem RefS.push {t:Tok} {x:Yi} {c:Yi} (h:RefS W wr v ts) (hx:x=txt t.2.1) (a:w'.ownsRow (W.heap.size+1) 72 3 c (ts.length+1) (Zbs ts++[Yd Yf t.1,x,Yd Yf t.2.2])) (b:wr.grownBy w' v.ownBlock):RefS W w' c (ts++[t]):=by
 subst hx;have d:v.ownBlock≠Ya W.heap.size:=fun e=>by have:=(h.own.lt _ e).1;omega
 refine⟨h.F.grown b d,?_,h.below.grown b h.below.size (fun k hk=>by have:=(h.own.lt _ hk).1;omega)⟩;rw[Yj,Zgj];exact a
end
theorem Zsu {s:ByteArray} {i:Nat} (a:i+1<s.size):(s.extract i (i+2)).toList=[s[i],s[i+1]]:=by rw[Lib.extract_toList,ZeA (byte_at (show i<s.size by omega)),ZeA (byte_at a),Nat.add_sub_cancel_left];rfl
theorem Zsg (c:UInt8):inL c.toNat [32,9,10,13]=ZdV c:=by
 have e:∀d:UInt8,decide (d.toNat=c.toNat)=(c==d):=fun d=>by rw[Zmm d c,Bool.eq_iff_iff,beq_iff_eq,beq_iff_eq];exact eq_comm
 simp only[inL,List.any_cons,List.any_nil,e,ZdV,Bool.or_false,Bool.or_assoc]
theorem ZpL (c:UInt8):inL c.toNat [123,125,40,41,59,44,46,58,61,60,43,45,42,47,124,38]=decide (c∈Zb3):=by
 have e:∀d:UInt8,decide (d.toNat=c.toNat)=decide (c=d):=fun d=>by rw[Zmm d c,Bool.eq_iff_iff,beq_iff_eq,decide_eq_true_eq];exact eq_comm
 simp only[inL,List.any_cons,List.any_nil,e,Zb3,List.mem_cons,List.not_mem_nil,or_false,Bool.or_false,Bool.decide_or]
theorem ZeP (k a:Int) (s:ByteArray):∀u∈[Value.int Yf k,.string s,Yd Yf a],u.oneCell'=true:=fun u b=>by
 simp at b;rcases b with rfl|rfl|rfl<;>rfl
theorem Zl6 (s:ByteArray) (w:Yh) (h:6000<s.size):Calls Tryz.prog 16 #[.string s] w fun e w'=>e=.returned (.tuple #[Yc Yb 0 0,.agg #[Yd Yf 13,Yd Yf 0]])/\Below w.heap.size w w':=by have b:=below_alloc1 w (.cells #[Yd Yf 0,Yd Yf 0] 28);have a:=Blk.start w #[Yd Yf 0,Yd Yf 0] 28;go_enter Tryz.func16,Tryz.ntmps16;go_wp2_with fail;exact bodyPost_ret (v:=.tuple #[Yc Yb 0 0,.agg #[Yd Yf 13,Yd Yf 0]]) (by simp[results,Tryz.results16,go_sem]) rfl ⟨rfl,below_alloc1 _ _⟩
theorem Zl5 (s:ByteArray) (W:Yh) (h:s.size<=6000):Calls Tryz.prog 16 #[.string s] W (Zog W (ZbK s.data.toList 0)):=by
 obtain⟨iT,U,Y,Z,aa⟩:=info_parts ZrB;obtain⟨ak,I⟩:∃ak,ak=ZbK s.data.toList 0:=⟨_,rfl⟩
 rw[<-I];have HA:=zh I;clear I;have cn:¬(6000:Int)<(s.size:Int):=by omega
 have bu:=below_alloc1 W (.cells #[Yd Yf 0,Yd Yf 0] 28);have F0:=Blk.start W #[Yd Yf 0,Yd Yf 0] 28;have SS:=zh (show RefS W (W.alloc (.cells #[Yd Yf 0,Yd Yf 0] 28)) (Yc Yb 0 0) []from⟨F0,World.ownsRow_nil _ _ _ _,bu⟩);have H6:=zh h;clear F0 bu;go_enter Tryz.func16,Tryz.ntmps16;go_upto_region 4 with fail;generalize W.alloc (.cells #[Yd Yf 0,Yd Yf 0] 28)=G at *;go_wp2_with fail;go_loopg [4,5] s.size (fun g v4 v5 wr=>∃(i:Nat) (E:List Tok) (v:Yi),v=v4/\v5=Yd Yf i/\i<=s.size/\g=s.size-i/\ak=(ZbK (s.data.toList.drop i) i).pre E/\E.length<=i/\RefS W wr v E)
 case atStart=>exact⟨0,[],_,rfl,rfl,Nat.zero_le _,rfl,by rw[HA.out,List.drop_zero,LexAns.pre_nil],Nat.le_refl _,SS.out⟩
 case round=>
  clear SS;obtain⟨i,E,v,rfl,rfl,hi,hg,I,bh,D⟩:=hrel;obtain⟨X,rfl⟩:∃X:Yh,X=wr:=⟨_,rfl⟩
  by_cases bv:i<s.size
  ·have hb:=byte_at bv;have J:=ZeA hb;rw[J]at I;have i1:(i:Int)<(s.size:Int):=by omega
   have i2:(0:Int)<=(i:Int):=by omega
   have wi:IntKind.i64.wrap ((i:Int)+1)=(i:Int)+1:=IntWalk.i64_in _ (by omega);have ib:=fun w=>ZoM s[i].toNat ⟨#[32,9,10,13]⟩ w (by decide);have e1:inL s[i].toNat (⟨#[32,9,10,13]⟩:ByteArray).data.toList=ZdV s[i]:=Zsg _;rw[e1]at ib;have B:=zh (zi I (zi hi (zi hg (zi bh (zi D h)))));clear I hi hg bh D e1;by_cases S:ZdV s[i]=true
   ·rw[S]at ib;have IB:=zh ib;have y:=zh (ZkM (r:=s.data.toList.drop (i+1)) (a:=i) S);clear ib S hb J;go_wp2_with (go_at_call 39;go_fit (IB.out _);rintro e G ⟨rfl,rfl⟩);go_roundg (s.size-(i+1))
    case measure=>have:=B.out;omega
    case rel=>exact⟨i+1,E,v,rfl,by push_cast;rfl,by have:=B.out;omega,rfl,by rw[B.out.1,y.out],by have:=B.out;omega,B.out.2.2.2.2.1⟩
   ·have S:ZdV s[i]=false:=by simpa using S
    rw[S]at ib;have IB:=zh ib;clear ib;by_cases ag:s[i]=35
    ·have m:((s[i].toNat:Int)==35)=true:=by rw[ag];rfl
     have Q:Zav Zc5 (s.data.toList.drop i)=Zav Zc5 (s.data.toList.drop (i+1))+1:=ZdB hb (by rw[ag];rfl);have nx:ZbK (s[i]::s.data.toList.drop (i+1)) i=ZbK (s.data.toList.drop (i+Zav Zc5 (s.data.toList.drop i))) (i+Zav Zc5 (s.data.toList.drop i)):=by
      rw[ag,Zqy,List.drop_drop,Q]
      congr 2
      omega
     have K:=Ze3 Zc5 (s.data.toList.drop i);rw[List.length_drop,Zdg]at K;obtain⟨z,hz⟩:∃z,z=Zav Zc5 (s.data.toList.drop i):=⟨_,rfl⟩
     rw[<-hz]at nx Q K;have y:=zh (zi nx (zi Q (zi K hz)));clear nx Q K hz S ag hb J;go_wp2_with (go_at_call 39;go_fit (IB.out _);rintro e G ⟨rfl,rfl⟩);go_loopg [5] (s.size-i) (fun g v5 wr=>∃j:Nat,v5=Yd Yf j/\i<=j/\j<=s.size/\g=s.size-j/\z=(j-i)+Zav Zc5 (s.data.toList.drop j)/\wr=X)
     case atStart=>exact⟨i,rfl,Nat.le_refl _,by omega,rfl,by rw[Nat.sub_self,Nat.zero_add];exact y.out.2.2.2,rfl⟩
     case round=>
      obtain⟨j,rfl,H,hj,ac,O,rfl⟩:=hrel;have M:=zh (zi H (zi hj (zi ac O)));clear O ac m;by_cases C:j<s.size
      ·have N:=byte_at C;have j1:(j:Int)<(s.size:Int):=by omega
       have j2:(0:Int)<=(j:Int):=by omega
       have wj:IntKind.i64.wrap ((j:Int)+1)=(j:Int)+1:=IntWalk.i64_in _ (by omega);by_cases al:s[j]=10
       ·have m:=congrArg UInt8.toNat al;have S0:=zh (Zf8 (p:=Zc5) N (by rw[al];rfl));have HL:=zh C;clear al N H hj;go_wp2_with fail;go_roundg (s.size-j)
        case measure=>have:=S0.out;have:=M.out;have:=y.out;have:=B.out;omega
        case rel=>exact⟨j,E,v,rfl,rfl,by have:=M.out;omega,rfl,by rw[B.out.1,y.out.1,show i+z=j by have:=S0.out;have:=M.out;omega],by have:=M.out;have:=B.out;omega,B.out.2.2.2.2.1⟩
       ·have co:((s[j].toNat:Int) != 10)=true:=by have:s[j].toNat≠(10:UInt8).toNat:=fun q=>al (UInt8.toNat_inj.1 q);simpa using fun q=>this (by show s[j].toNat=10;omega)
        have S1:=zh (ZdB (p:=Zc5) N (by unfold Zc5;simp[al]));have HL:=zh C;clear al N H hj;go_wp2_with fail;go_roundg (s.size-(j+1))
        case measure=>have:=HL.out;have:=M.out;omega
        case rel=>exact⟨j+1,by push_cast;rfl,by have:=M.out;omega,by have:=HL.out;omega,rfl,by have:=S1.out;have:=M.out;omega,rfl⟩
      ·obtain rfl:j=s.size:=by omega
       have S0:=zh (Zfl (p:=Zc5) (Nat.le_of_eq (Zdg s)));clear H hj C;go_wp2_with fail;go_roundg (s.size-s.size)
       case measure=>have:=S0.out;have:=M.out;have:=y.out;have:=B.out;omega
       case rel=>exact⟨s.size,E,v,rfl,rfl,Nat.le_refl _,rfl,by rw[B.out.1,y.out.1,show i+z=s.size by have:=S0.out;have:=M.out;omega],by have:=M.out;have:=B.out;omega,B.out.2.2.2.2.1⟩
    ·have b0:((s[i].toNat:Int)==35)=false:=by have:s[i].toNat≠(35:UInt8).toNat:=fun q=>ag (UInt8.toNat_inj.1 q);simpa using fun q=>this (by show s[i].toNat=35;omega)
     have bj:(s[i]==35)=false:=by simpa using ag
     have n:=fun h2=>ZoW (a:=i) (r:=s.data.toList.drop (i+1)) S bj h2;have l:=fun h2=>Znl (a:=i) (r:=s.data.toList.drop (i+1)) S bj h2;have la:=fun w=>Zfc s[i].toNat w;have da:=fun w=>Zd9 s[i].toNat w;rw[ZfW]at la;rw[Ze1]at da;have kp:∀o:Obj,RefS W (X.alloc o) v E:=fun o=>B.out.2.2.2.2.1.keep (below_alloc1 _ _);have L:=zh (zi kp (show W.heap.size+1<=X.heap.size from B.out.2.2.2.2.1.F.lt));have T:=zh (show E.length<=6000 by have:=B.out;omega);have HB:=zh hb;have HD:=zh J;clear S ag kp hb bj;cases hl:ZbT s[i]
     rotate_left
     ·rw[hl]at la;have f:=Zb4 s[i] (s.data.toList.drop (i+1));rw[Yo hl]at f;rw[f]at n;have nx:=n rfl;dsimp only at nx;rw[<-J,List.drop_drop]at nx;have K:=Ze3 Za3 (s.data.toList.drop i);rw[List.length_drop,Zdg]at K;have Q:Zav Za3 (s.data.toList.drop i)=Zav Za3 (s.data.toList.drop (i+1))+1:=ZdB HB.out (ZkL hl);obtain⟨z,hz⟩:∃z,z=Zav Za3 (s.data.toList.drop i):=⟨_,rfl⟩
      rw[<-hz]at nx Q K;have y:=zh (zi nx (zi Q (zi K hz)));have LA:=zh la;clear nx Q K hz J f n l la da hl;go_wp2_with (first|(go_at_call 39;go_fit (IB.out _);rintro e G ⟨rfl,rfl⟩)|(go_at_call 40;go_fit (LA.out _);rintro e G ⟨rfl,rfl⟩));go_loopg [7] (s.size-i) (fun g v7 wr=>∃j:Nat,v7=Yd Yf j/\i<=j/\j<=s.size/\g=s.size-j/\z=(j-i)+Zav Za3 (s.data.toList.drop j)/\wr=X)
      case atStart=>exact⟨i,rfl,Nat.le_refl _,by omega,rfl,by rw[Nat.sub_self,Nat.zero_add];exact y.out.2.2.2,rfl⟩
      case round=>
       obtain⟨j,rfl,H,hj,ac,O,rfl⟩:=hrel;have M:=zh (zi H (zi hj (zi ac O)));have j3:(i:Int)<=(j:Int):=by omega
       have j4:(j:Int)<=(s.size:Int):=by omega
       clear O ac b0;by_cases C:j<s.size
       ·have N:=byte_at C;have j1:(j:Int)<(s.size:Int):=by omega
        have j2:(0:Int)<=(j:Int):=by omega
        have wj:IntKind.i64.wrap ((j:Int)+1)=(j:Int)+1:=IntWalk.i64_in _ (by omega);have lj:=fun w=>Zfc s[j].toNat w;have R:=fun w=>Zd9 s[j].toNat w;rw[ZfW]at lj;rw[Ze1]at R;by_cases V:Za3 s[j]=true
        ·have S1:=zh (ZdB (p:=Za3) N V);rcases ZkK V with q|⟨q,q2⟩
         ·have HL:=zh C;rw[q]at lj;have LJ:=zh lj;clear lj R V q N H hj;go_wp2_with (go_at_call 40;go_fit (LJ.out _);rintro e G ⟨rfl,rfl⟩);go_roundg (s.size-(j+1))
          case measure=>have:=HL.out;have:=M.out;omega
          case rel=>exact⟨j+1,by push_cast;rfl,by have:=M.out;omega,by have:=HL.out;omega,rfl,by have:=S1.out;have:=M.out;omega,rfl⟩
         ·have HL:=zh C;rw[q]at lj;rw[q2]at R;have LJ:=zh lj;have DJ:=zh R;clear lj R V q q2 N H hj;go_wp2_with (first|(go_at_call 40;go_fit (LJ.out _);rintro e G ⟨rfl,rfl⟩)|(go_at_call 41;go_fit (DJ.out _);rintro e G ⟨rfl,rfl⟩));go_roundg (s.size-(j+1))
          case measure=>have:=HL.out;have:=M.out;omega
          case rel=>exact⟨j+1,by push_cast;rfl,by have:=M.out;omega,by have:=HL.out;omega,rfl,by have:=S1.out;have:=M.out;omega,rfl⟩
        ·have V:Za3 s[j]=false:=by simpa using V
         have S0:=Zf8 (p:=Za3) N V;have zj:i+z=j/\z=j-i:=by have:=M.out;omega
         obtain⟨q,q2⟩:=ZoT V;rw[q]at lj;rw[q2]at R;have LJ:=zh lj;have DJ:=zh R;have nz:=y.out.1;rw[zj.1,zj.2]at nz;have y:=zh (zi nz (show i<j/\j<=s.size by have:=y.out;have:=M.out;omega));clear lj R V q q2 N H hj S0 zj nz;go_upto_region 29 with(first|(first|(go_at_call 40;go_fit (LJ.out _);rintro e G ⟨rfl,rfl⟩)|(go_at_call 41;go_fit (DJ.out _);rintro e G ⟨rfl,rfl⟩)))
         go_wp2_with ((at_builtin;refine ZaV _ rfl _ _ 47 rfl (W.heap.size+1) 72 iT (.agg #[Yd Yf 0,.string ⟨#[]⟩,Yd Yf 0]) 3 32 Tryz.underlying47 U Y Z aa rfl (by decide) _ E.length (Zbs E) rfl (L.out.1 _).own (wr.heap.size+1) (Ya ⟨wr.heap.size,0,Yb⟩) 1 1 [Yd Yf 0,.string (s.extract i j),Yd Yf i] rfl (Zdk _ _ _ _ _) (ZeP _ _ _) (by have:=T.out;unfold maxLen;omega) (by have:=T.out;omega) (by have:=L.out.2;simp;omega) ?_;intro v8 w8 k d _;have P:=zh ((L.out.1 _).push (t:=(0,(s.data.toList.drop i).take (j-i),i)) (Zfo (Lib.extract_data s i j)) k d);clear k d));go_roundg (s.size-j)
         case measure=>have:=y.out;have:=B.out;omega
         case rel=>exact⟨j,E++[(0,(s.data.toList.drop i).take (j-i),i)],v8,rfl,by first|rfl|(push_cast;rfl),by have:=y.out;omega,rfl,by rw[B.out.1,<-HD.out,y.out.1,LexAns.pre_push],by have:=y.out;have:=B.out;rw[Yj];simp;omega,P.out⟩
       ·obtain rfl:j=s.size:=by omega
        have S0:=Zfl (p:=Za3) (Nat.le_of_eq (Zdg s));have zj:i+z=s.size/\z=s.size-i:=by have:=M.out;omega
        have nz:=y.out.1;rw[zj.1,zj.2]at nz;have y:=zh (zi nz (show i<s.size/\s.size<=s.size by have:=y.out;have:=M.out;omega));clear H hj C S0 zj nz;go_wp2_with ((at_builtin;refine ZaV _ rfl _ _ 47 rfl (W.heap.size+1) 72 iT (.agg #[Yd Yf 0,.string ⟨#[]⟩,Yd Yf 0]) 3 32 Tryz.underlying47 U Y Z aa rfl (by decide) _ E.length (Zbs E) rfl (L.out.1 _).own (wr.heap.size+1) (Ya ⟨wr.heap.size,0,Yb⟩) 1 1 [Yd Yf 0,.string (s.extract i s.size),Yd Yf i] rfl (Zdk _ _ _ _ _) (ZeP _ _ _) (by have:=T.out;unfold maxLen;omega) (by have:=T.out;omega) (by have:=L.out.2;simp;omega) ?_;intro v8 w8 k d _;have P:=zh ((L.out.1 _).push (t:=(0,(s.data.toList.drop i).take (s.size-i),i)) (Zfo (Lib.extract_data s i s.size)) k d);clear k d));go_roundg (s.size-s.size)
        case measure=>have:=y.out;have:=B.out;omega
        case rel=>exact⟨s.size,E++[(0,(s.data.toList.drop i).take (s.size-i),i)],v8,rfl,by first|rfl|(push_cast;rfl),by have:=y.out;omega,rfl,by rw[B.out.1,<-HD.out,y.out.1,LexAns.pre_push],by have:=y.out;have:=B.out;rw[Yj];simp;omega,P.out⟩
     cases hd:Zbt s[i]
     rotate_left
     ·rw[hl]at la;rw[hd]at da;have f:=Zb4 s[i] (s.data.toList.drop (i+1));rw[Yn (by rw[hl];decide),Yo hd,<-J]at f;rw[<-J]at n l;rw[f]at n l;dsimp only at n l;rw[List.drop_drop]at n;have K:=Ze3 Zbt (s.data.toList.drop i);rw[List.length_drop,Zdg]at K;have Q:Zav Zbt (s.data.toList.drop i)=Zav Zbt (s.data.toList.drop (i+1))+1:=ZdB HB.out hd;obtain⟨z,hz⟩:∃z,z=Zav Zbt (s.data.toList.drop i):=⟨_,rfl⟩
      rw[<-hz]at n l Q K;have y:=zh (zi n (zi Q (zi K (zi hz l))));have LA:=zh la;have DA:=zh da;clear Q K hz J f n l la da hl hd;go_wp2_with (first|(go_at_call 39;go_fit (IB.out _);rintro e G ⟨rfl,rfl⟩)|(go_at_call 40;go_fit (LA.out _);rintro e G ⟨rfl,rfl⟩)|(go_at_call 41;go_fit (DA.out _);rintro e G ⟨rfl,rfl⟩));go_loopg [7] (s.size-i) (fun g v7 wr=>∃j:Nat,v7=Yd Yf j/\i<=j/\j<=s.size/\g=s.size-j/\z=(j-i)+Zav Zbt (s.data.toList.drop j)/\wr=X)
      case atStart=>exact⟨i,rfl,Nat.le_refl _,by omega,rfl,by rw[Nat.sub_self,Nat.zero_add];exact y.out.2.2.2.1,rfl⟩
      case round=>
       obtain⟨j,rfl,H,hj,ac,O,rfl⟩:=hrel;have M:=zh (zi H (zi hj (zi ac O)));have j3:(i:Int)<=(j:Int):=by omega
       have j4:(j:Int)<=(s.size:Int):=by omega
       have ws:IntKind.i64.wrap ((j:Int)-(i:Int))=(j:Int)-(i:Int):=IntWalk.i64_in _ (by omega);clear O ac b0;by_cases ad:∃C:j<s.size,Zbt s[j]=true
       ·obtain⟨C,q⟩:=ad;have N:=byte_at C;have j1:(j:Int)<(s.size:Int):=by omega
        have j2:(0:Int)<=(j:Int):=by omega
        have wj:IntKind.i64.wrap ((j:Int)+1)=(j:Int)+1:=IntWalk.i64_in _ (by omega);have R:=fun w=>Zd9 s[j].toNat w;rw[Ze1]at R;have S1:=zh (ZdB (p:=Zbt) N q);rw[q]at R;have DJ:=zh R;have HL:=zh C;clear R q N H hj ws;go_wp2_with (go_at_call 41;go_fit (DJ.out _);rintro e G ⟨rfl,rfl⟩);go_roundg (s.size-(j+1))
        case measure=>have:=HL.out;have:=M.out;omega
        case rel=>exact⟨j+1,by push_cast;rfl,by have:=M.out;omega,by have:=HL.out;omega,rfl,by have:=S1.out;have:=M.out;omega,rfl⟩
       ·have S0:Zav Zbt (s.data.toList.drop j)=0:=by
         by_cases C:j<s.size
         ·exact Zf8 (byte_at C) (by simpa using fun q=>ad ⟨C,q⟩)
         ·exact Zfl (by rw[Zdg];omega)
        have zj:i+z=j/\z=j-i:=by have:=M.out;omega
        have nb:=y.out.2.2.2.2;have nz:=y.out.1;rw[zj.1,zj.2]at nz;rw[zj.2]at nb;have bw:=y.out.2.1;have bx:=y.out.2.2.1;by_cases a6:j-i<=18
        ·have y:=zh (zi (nz (decide_eq_true a6)) (show i<j/\j<=s.size by have:=M.out;omega));have b9:(j:Int)-(i:Int)<=18:=by omega
         clear S0 zj nz nb bw bx a6;by_cases C:j<s.size
         ·have q:Zbt s[j]=false:=by simpa using fun q=>ad ⟨C,q⟩
          have R:=fun w=>Zd9 s[j].toNat w;rw[Ze1,q]at R;have DJ:=zh R;have j1:(j:Int)<(s.size:Int):=by omega
          have j2:(0:Int)<=(j:Int):=by omega
          clear R q ad H hj;go_upto_region 29 with(first|(go_at_call 41;go_fit (DJ.out _);rintro e G ⟨rfl,rfl⟩))
          go_wp2_with ((at_builtin;refine ZaV _ rfl _ _ 47 rfl (W.heap.size+1) 72 iT (.agg #[Yd Yf 0,.string ⟨#[]⟩,Yd Yf 0]) 3 32 Tryz.underlying47 U Y Z aa rfl (by decide) _ E.length (Zbs E) rfl (L.out.1 _).own (wr.heap.size+1) (Ya ⟨wr.heap.size,0,Yb⟩) 1 1 [Yd Yf 1,.string (s.extract i j),Yd Yf i] rfl (Zdk _ _ _ _ _) (ZeP _ _ _) (by have:=T.out;unfold maxLen;omega) (by have:=T.out;omega) (by have:=L.out.2;simp;omega) ?_;intro v8 w8 k d _;have P:=zh ((L.out.1 _).push (t:=(1,(s.data.toList.drop i).take (j-i),i)) (Zfo (Lib.extract_data s i j)) k d);clear k d));go_roundg (s.size-j)
          case measure=>have:=y.out;have:=B.out;omega
          case rel=>exact⟨j,E++[(1,(s.data.toList.drop i).take (j-i),i)],v8,rfl,by first|rfl|(push_cast;rfl),by have:=y.out;omega,rfl,by rw[B.out.1,<-HD.out,y.out.1,LexAns.pre_push],by have:=y.out;have:=B.out;rw[Yj];simp;omega,P.out⟩
         ·obtain rfl:j=s.size:=by omega
          clear ad H hj C;go_wp2_with ((at_builtin;refine ZaV _ rfl _ _ 47 rfl (W.heap.size+1) 72 iT (.agg #[Yd Yf 0,.string ⟨#[]⟩,Yd Yf 0]) 3 32 Tryz.underlying47 U Y Z aa rfl (by decide) _ E.length (Zbs E) rfl (L.out.1 _).own (wr.heap.size+1) (Ya ⟨wr.heap.size,0,Yb⟩) 1 1 [Yd Yf 1,.string (s.extract i s.size),Yd Yf i] rfl (Zdk _ _ _ _ _) (ZeP _ _ _) (by have:=T.out;unfold maxLen;omega) (by have:=T.out;omega) (by have:=L.out.2;simp;omega) ?_;intro v8 w8 k d _;have P:=zh ((L.out.1 _).push (t:=(1,(s.data.toList.drop i).take (s.size-i),i)) (Zfo (Lib.extract_data s i s.size)) k d);clear k d));go_roundg (s.size-s.size)
          case measure=>have:=y.out;have:=B.out;omega
          case rel=>exact⟨s.size,E++[(1,(s.data.toList.drop i).take (s.size-i),i)],v8,rfl,by first|rfl|(push_cast;rfl),by have:=y.out;omega,rfl,by rw[B.out.1,<-HD.out,y.out.1,LexAns.pre_push],by have:=y.out;have:=B.out;rw[Yj];simp;omega,P.out⟩
        ·have EA:=zh (show ak=.bad i by rw[B.out.1,<-HD.out,nb (decide_eq_false a6)];rfl);have b9:18<(j:Int)-(i:Int):=by omega
         have HF:=zh (zi B.out.2.2.2.2.1.F B.out.2.2.2.2.1.below);have f0:=HF.out.1.cell 0;have f1:=HF.out.1.cell 1;have f2:=HF.out.1.free 0;have f3:=HF.out.1.free 1;clear S0 zj nz nb bw bx a6;by_cases C:j<s.size
         ·have q:Zbt s[j]=false:=by simpa using fun q=>ad ⟨C,q⟩
          have R:=fun w=>Zd9 s[j].toNat w;rw[Ze1,q]at R;have DJ:=zh R;have j1:(j:Int)<(s.size:Int):=by omega
          have j2:(0:Int)<=(j:Int):=by omega
          clear R q ad H hj;go_wp2_with (go_at_call 41;go_fit (DJ.out _);rintro e G ⟨rfl,rfl⟩);have BF:=(HF.out.1.set 0 (Yd Yf 10)).set 1 (Yd Yf i);have z0:=BF.cell 0;have z1:=BF.cell 1;rw[EA.out];exact bodyPost_ret (v:=.tuple #[Yc Yb 0 0,.agg #[Yd Yf 10,Yd Yf i]]) (by simp[results,Tryz.results16,go_sem,z0,z1]) rfl ⟨rfl,(HF.out.2.setCell (p:=⟨W.heap.size,0,Yb⟩) (Nat.le_refl _) _).setCell (p:=⟨W.heap.size,1,Yb⟩) (Nat.le_refl _) _⟩
         ·obtain rfl:j=s.size:=by omega
          clear ad H hj C;go_wp2_with fail;have BF:=(HF.out.1.set 0 (Yd Yf 10)).set 1 (Yd Yf i);have z0:=BF.cell 0;have z1:=BF.cell 1;rw[EA.out];exact bodyPost_ret (v:=.tuple #[Yc Yb 0 0,.agg #[Yd Yf 10,Yd Yf i]]) (by simp[results,Tryz.results16,go_sem,z0,z1]) rfl ⟨rfl,(HF.out.2.setCell (p:=⟨W.heap.size,0,Yb⟩) (Nat.le_refl _) _).setCell (p:=⟨W.heap.size,1,Yb⟩) (Nat.le_refl _) _⟩
     ·rw[hl]at la;rw[hd]at da;have f:=Zb4 s[i] (s.data.toList.drop (i+1));rw[Yn (by rw[hl];decide),Yn (by rw[hd];decide),Zev]at f;have LA:=zh la;have DA:=zh da;have si:=fun w=>ZoM s[i].toNat ⟨#[123,125,40,41,59,44,46,58,61,60,43,45,42,47,124,38]⟩ w (by decide);have e1:inL s[i].toNat (⟨#[123,125,40,41,59,44,46,58,61,60,43,45,42,47,124,38]⟩:ByteArray).data.toList=decide (s[i]∈Zb3):=ZpL _;rw[e1]at si;have cv:IntKind.i64.wrap ((i:Int)+2)=(i:Int)+2:=IntWalk.i64_in _ (by omega);clear la da hl hd e1;have HF:=zh (zi B.out.2.2.2.2.1.F B.out.2.2.2.2.1.below);have f0:=HF.out.1.cell 0;have f1:=HF.out.1.cell 1;have f2:=HF.out.1.free 0;have f3:=HF.out.1.free 1
      have bp:=zh (fun(q:¬((s[i]=61/\(s.data.toList.drop (i+1)).head? = Ya 61)\/(s[i]=45/\(s.data.toList.drop (i+1)).head? = Ya 62))) (hm:s[i]∈Zb3)=>show ZbK (s.data.toList.drop i) i=(ZbK (s.data.toList.drop (i+1)) (i+1)).push (2,(s.data.toList.drop i).take (i+1-i),i)from by
       rw[Yn q,Yo hm]at f;rw[f]at n;have:=n rfl;rw[<-HD.out,List.drop_drop]at this;rw[Nat.add_sub_cancel_left]
       exact this)
      have bd:=zh (fun(q:¬((s[i]=61/\(s.data.toList.drop (i+1)).head? = Ya 61)\/(s[i]=45/\(s.data.toList.drop (i+1)).head? = Ya 62))) (hm:¬s[i]∈Zb3)=>show ak=.bad i from by
       rw[Yn q,Yn hm]at f;rw[f]at l;rw[B.out.1,l rfl]
       rfl)
      by_cases h1:i+1<s.size
      ·have m1:(i:Int)+1<(s.size:Int):=by omega
       have m2:(i:Int)+2<=(s.size:Int):=by omega
       have m3:(i:Int)<=(i:Int)+2:=by omega
       have m4:(i:Int)<=(i:Int)+1:=by omega
       have a7:=byte_at h1;have hh:(s.data.toList.drop (i+1)).head? = Ya s[i+1]:=by rw[List.head?_drop,a7]
       have tw:=Zsu h1;by_cases hP:(s[i]=61/\(s.data.toList.drop (i+1)).head? = Ya 61)\/(s[i]=45/\(s.data.toList.drop (i+1)).head? = Ya 62)
       ·rw[Yo hP]at f;rw[f]at n;have nx:=n rfl;rw[<-HD.out,List.drop_drop]at nx;have y:=zh (show ZbK (s.data.toList.drop i) i=(ZbK (s.data.toList.drop (i+2)) (i+2)).push (2,(s.data.toList.drop i).take (i+2-i),i)/\i<i+2/\i+2<=s.size from⟨by rw[Nat.add_sub_cancel_left];exact nx,by omega,by omega⟩);rw[hh]at hP;have hX:(s.extract i (i+2)).toList=[61,61]\/(s.extract i (i+2)).toList=[45,62]:=by
         rcases hP with⟨a,b⟩|⟨a,b⟩
         ·left;rw[tw,a,Option.some.inj b]
         ·right;rw[tw,a,Option.some.inj b]
        clear f n l nx hP hh a7 tw J f0 f1 f2 f3;rcases hX with hX|hX
        ·clear si;go_upto_region 29 with(first|(go_at_call 39;go_fit (IB.out _);rintro e G ⟨rfl,rfl⟩)|(go_at_call 40;go_fit (LA.out _);rintro e G ⟨rfl,rfl⟩)|(go_at_call 41;go_fit (DA.out _);rintro e G ⟨rfl,rfl⟩))
         go_wp2_with ((at_builtin;refine ZaV _ rfl _ _ 47 rfl (W.heap.size+1) 72 iT (.agg #[Yd Yf 0,.string ⟨#[]⟩,Yd Yf 0]) 3 32 Tryz.underlying47 U Y Z aa rfl (by decide) _ E.length (Zbs E) rfl (L.out.1 _).own (X.heap.size+1) (Ya ⟨X.heap.size,0,Yb⟩) 1 1 [Yd Yf 2,.string (s.extract i (i+2)),Yd Yf i] rfl (Zdk _ _ _ _ _) (ZeP _ _ _) (by have:=T.out;unfold maxLen;omega) (by have:=T.out;omega) (by have:=L.out.2;simp;omega) ?_;intro v8 w8 k d _;have P:=zh ((L.out.1 _).push (t:=(2,(s.data.toList.drop i).take ((i+2)-i),i)) (Zfo (Lib.extract_data s i (i+2))) k d);clear k d));go_roundg (s.size-(i+2))
         case measure=>have:=y.out;have:=B.out;omega
         case rel=>exact⟨(i+2),E++[(2,(s.data.toList.drop i).take ((i+2)-i),i)],v8,rfl,by first|rfl|(push_cast;rfl),by have:=y.out;omega,rfl,by rw[B.out.1,<-HD.out,y.out.1,LexAns.pre_push],by have:=y.out;have:=B.out;rw[Yj];simp;omega,P.out⟩
        ·clear si;go_upto_region 29 with(first|(go_at_call 39;go_fit (IB.out _);rintro e G ⟨rfl,rfl⟩)|(go_at_call 40;go_fit (LA.out _);rintro e G ⟨rfl,rfl⟩)|(go_at_call 41;go_fit (DA.out _);rintro e G ⟨rfl,rfl⟩))
         go_wp2_with ((at_builtin;refine ZaV _ rfl _ _ 47 rfl (W.heap.size+1) 72 iT (.agg #[Yd Yf 0,.string ⟨#[]⟩,Yd Yf 0]) 3 32 Tryz.underlying47 U Y Z aa rfl (by decide) _ E.length (Zbs E) rfl (L.out.1 _).own (X.heap.size+1) (Ya ⟨X.heap.size,0,Yb⟩) 1 1 [Yd Yf 2,.string (s.extract i (i+2)),Yd Yf i] rfl (Zdk _ _ _ _ _) (ZeP _ _ _) (by have:=T.out;unfold maxLen;omega) (by have:=T.out;omega) (by have:=L.out.2;simp;omega) ?_;intro v8 w8 k d _;have P:=zh ((L.out.1 _).push (t:=(2,(s.data.toList.drop i).take ((i+2)-i),i)) (Zfo (Lib.extract_data s i (i+2))) k d);clear k d));go_roundg (s.size-(i+2))
         case measure=>have:=y.out;have:=B.out;omega
         case rel=>exact⟨(i+2),E++[(2,(s.data.toList.drop i).take ((i+2)-i),i)],v8,rfl,by first|rfl|(push_cast;rfl),by have:=y.out;omega,rfl,by rw[B.out.1,<-HD.out,y.out.1,LexAns.pre_push],by have:=y.out;have:=B.out;rw[Yj];simp;omega,P.out⟩
       ·have n1:¬(s.extract i (i+2)).toList=[61,61]:=fun e=>by
         rw[tw]at e;simp at e;exact hP (.inl ⟨e.1,by rw[hh,e.2]⟩)
        have n2:¬(s.extract i (i+2)).toList=[45,62]:=fun e=>by
         rw[tw]at e;simp at e;exact hP (.inr ⟨e.1,by rw[hh,e.2]⟩)
        have n3:((s.extract i (i+2)).toList==[61,61])=false:=by simpa using n1
        have n4:((s.extract i (i+2)).toList==[45,62])=false:=by simpa using n2
        by_cases hm:s[i]∈Zb3
        ·rw[decide_eq_true hm]at si;have SI:=zh si;have y:=zh (zi (bp.out hP hm) (show i<i+1/\i+1<=s.size by omega));clear f n l hP hh a7 tw J f0 f1 f2 f3 si hm;go_upto_region 29 with(first|(go_at_call 39;go_fit (IB.out _);rintro e G ⟨rfl,rfl⟩)|(go_at_call 40;go_fit (LA.out _);rintro e G ⟨rfl,rfl⟩)|(go_at_call 41;go_fit (DA.out _);rintro e G ⟨rfl,rfl⟩)|(go_at_call 39;go_fit (SI.out _);rintro e G ⟨rfl,rfl⟩))
         go_wp2_with ((at_builtin;refine ZaV _ rfl _ _ 47 rfl (W.heap.size+1) 72 iT (.agg #[Yd Yf 0,.string ⟨#[]⟩,Yd Yf 0]) 3 32 Tryz.underlying47 U Y Z aa rfl (by decide) _ E.length (Zbs E) rfl (L.out.1 _).own (X.heap.size+1) (Ya ⟨X.heap.size,0,Yb⟩) 1 1 [Yd Yf 2,.string (s.extract i (i+1)),Yd Yf i] rfl (Zdk _ _ _ _ _) (ZeP _ _ _) (by have:=T.out;unfold maxLen;omega) (by have:=T.out;omega) (by have:=L.out.2;simp;omega) ?_;intro v8 w8 k d _;have P:=zh ((L.out.1 _).push (t:=(2,(s.data.toList.drop i).take ((i+1)-i),i)) (Zfo (Lib.extract_data s i (i+1))) k d);clear k d));go_roundg (s.size-(i+1))
         case measure=>have:=y.out;have:=B.out;omega
         case rel=>exact⟨(i+1),E++[(2,(s.data.toList.drop i).take ((i+1)-i),i)],v8,rfl,by first|rfl|(push_cast;rfl),by have:=y.out;omega,rfl,by rw[B.out.1,<-HD.out,y.out.1,LexAns.pre_push],by have:=y.out;have:=B.out;rw[Yj];simp;omega,P.out⟩
        ·rw[decide_eq_false hm]at si;have SI:=zh si;have EA:=zh (bd.out hP hm);clear f n l hP hh a7 tw J si hm;go_wp2_with (first|(go_at_call 39;go_fit (IB.out _);rintro e G ⟨rfl,rfl⟩)|(go_at_call 40;go_fit (LA.out _);rintro e G ⟨rfl,rfl⟩)|(go_at_call 41;go_fit (DA.out _);rintro e G ⟨rfl,rfl⟩)|(go_at_call 39;go_fit (SI.out _);rintro e G ⟨rfl,rfl⟩));have BF:=(HF.out.1.set 0 (Yd Yf 10)).set 1 (Yd Yf i);have z0:=BF.cell 0;have z1:=BF.cell 1;rw[EA.out];exact bodyPost_ret (v:=.tuple #[Yc Yb 0 0,.agg #[Yd Yf 10,Yd Yf i]]) (by simp[results,Tryz.results16,go_sem,z0,z1]) rfl ⟨rfl,(HF.out.2.setCell (p:=⟨W.heap.size,0,Yb⟩) (Nat.le_refl _) _).setCell (p:=⟨W.heap.size,1,Yb⟩) (Nat.le_refl _) _⟩
      ·have m1:¬(i:Int)+1<(s.size:Int):=by omega
       have m4:(i:Int)<=(i:Int)+1:=by omega
       have m5:(i:Int)+1<=(s.size:Int):=by omega
       have hh:(s.data.toList.drop (i+1)).head? = Yb:=by rw[Zh9 (by omega)];rfl
       have hP:¬((s[i]=61/\(s.data.toList.drop (i+1)).head? = Ya 61)\/(s[i]=45/\(s.data.toList.drop (i+1)).head? = Ya 62)):=by rw[hh];simp
       by_cases hm:s[i]∈Zb3
       ·rw[decide_eq_true hm]at si;have SI:=zh si;have y:=zh (zi (bp.out hP hm) (show i<i+1/\i+1<=s.size by omega));clear f n l hP hh J f0 f1 f2 f3 si hm;go_upto_region 29 with(first|(go_at_call 39;go_fit (IB.out _);rintro e G ⟨rfl,rfl⟩)|(go_at_call 40;go_fit (LA.out _);rintro e G ⟨rfl,rfl⟩)|(go_at_call 41;go_fit (DA.out _);rintro e G ⟨rfl,rfl⟩)|(go_at_call 39;go_fit (SI.out _);rintro e G ⟨rfl,rfl⟩))
        go_wp2_with ((at_builtin;refine ZaV _ rfl _ _ 47 rfl (W.heap.size+1) 72 iT (.agg #[Yd Yf 0,.string ⟨#[]⟩,Yd Yf 0]) 3 32 Tryz.underlying47 U Y Z aa rfl (by decide) _ E.length (Zbs E) rfl (L.out.1 _).own (X.heap.size+1) (Ya ⟨X.heap.size,0,Yb⟩) 1 1 [Yd Yf 2,.string (s.extract i (i+1)),Yd Yf i] rfl (Zdk _ _ _ _ _) (ZeP _ _ _) (by have:=T.out;unfold maxLen;omega) (by have:=T.out;omega) (by have:=L.out.2;simp;omega) ?_;intro v8 w8 k d _;have P:=zh ((L.out.1 _).push (t:=(2,(s.data.toList.drop i).take ((i+1)-i),i)) (Zfo (Lib.extract_data s i (i+1))) k d);clear k d));go_roundg (s.size-(i+1))
        case measure=>have:=y.out;have:=B.out;omega
        case rel=>exact⟨(i+1),E++[(2,(s.data.toList.drop i).take ((i+1)-i),i)],v8,rfl,by first|rfl|(push_cast;rfl),by have:=y.out;omega,rfl,by rw[B.out.1,<-HD.out,y.out.1,LexAns.pre_push],by have:=y.out;have:=B.out;rw[Yj];simp;omega,P.out⟩
       ·rw[decide_eq_false hm]at si;have SI:=zh si;have EA:=zh (bd.out hP hm);clear f n l hP hh J si hm;go_wp2_with (first|(go_at_call 39;go_fit (IB.out _);rintro e G ⟨rfl,rfl⟩)|(go_at_call 40;go_fit (LA.out _);rintro e G ⟨rfl,rfl⟩)|(go_at_call 41;go_fit (DA.out _);rintro e G ⟨rfl,rfl⟩)|(go_at_call 39;go_fit (SI.out _);rintro e G ⟨rfl,rfl⟩));have BF:=(HF.out.1.set 0 (Yd Yf 10)).set 1 (Yd Yf i);have z0:=BF.cell 0;have z1:=BF.cell 1;rw[EA.out];exact bodyPost_ret (v:=.tuple #[Yc Yb 0 0,.agg #[Yd Yf 10,Yd Yf i]]) (by simp[results,Tryz.results16,go_sem,z0,z1]) rfl ⟨rfl,(HF.out.2.setCell (p:=⟨W.heap.size,0,Yb⟩) (Nat.le_refl _) _).setCell (p:=⟨W.heap.size,1,Yb⟩) (Nat.le_refl _) _⟩
  ·obtain rfl:i=s.size:=by omega
   rw[Zh9 (Nat.le_refl _),Zie]at I;have EA:=zh (show ak=.ok (E++[(3,[],s.size)])from I);have kp:∀o:Obj,RefS W (X.alloc o) v E:=fun o=>D.keep (below_alloc1 _ _);have L:=zh (zi kp (show W.heap.size+1<=X.heap.size from D.F.lt));have T:=zh (show E.length<=6000 by omega);clear kp I D hg hi bh bv;go_wp2_with (at_builtin;refine ZaV _ rfl _ _ 47 rfl (W.heap.size+1) 72 iT (.agg #[Yd Yf 0,.string ⟨#[]⟩,Yd Yf 0]) 3 32 Tryz.underlying47 U Y Z aa rfl (by decide) _ E.length (Zbs E) rfl (L.out.1 _).own (X.heap.size+1) (Ya ⟨X.heap.size,0,Yb⟩) 1 1 [Yd Yf 3,.string ⟨#[]⟩,Yd Yf s.size] rfl (Zdk _ _ _ _ _) (ZeP _ _ _) (by have:=T.out;unfold maxLen;omega) (by have:=T.out;omega) (by have:=L.out.2;simp;omega) ?_;intro v8 w8 k d _;have P:=zh ((L.out.1 _).push (t:=(3,[],s.size)) rfl k d);clear k d;have f0:=P.out.F.cell 0;have f1:=P.out.F.cell 1;have f2:=P.out.F.free 0;have f3:=P.out.F.free 1);have TA:=Zck.own P.out.own;obtain⟨Az,cz,rfl⟩:∃A c,v8=Yc A (E++[(3,[],s.size)]).length c:=by obtain⟨A,c,e,_⟩:=TA;exact⟨A,c,e⟩
   have TZ:=Zck.own (P.out.own.kept (Zlz (Zaw (g:=W.heap.size) (j:=0) (u:=Yd Yf 0)) (Zaw (j:=1) (u:=Yd Yf 0))) (.inr fun e=>by have:=(P.out.own.lt _ e).1;omega));have BF:=(P.out.F.set 0 (Yd Yf 0)).set 1 (Yd Yf 0);have z0:=BF.cell 0;have z1:=BF.cell 1;have bl:=(P.out.below.setCell (p:=⟨W.heap.size,0,Yb⟩) (Nat.le_refl _) (Yd Yf 0)).setCell (p:=⟨W.heap.size,1,Yb⟩) (Nat.le_refl _) (Yd Yf 0);rw[EA.out];exact bodyPost_ret (v:=.tuple #[Yc Az (E++[(3,[],s.size)]).length cz,.agg #[Yd Yf 0,Yd Yf 0]]) (by simp[results,Tryz.results16,go_sem,z0,z1]) rfl ⟨Az,cz,rfl,TZ,bl⟩
end
end Go.Proofs.YtdkegpkfjgloeaaGreatDoor
