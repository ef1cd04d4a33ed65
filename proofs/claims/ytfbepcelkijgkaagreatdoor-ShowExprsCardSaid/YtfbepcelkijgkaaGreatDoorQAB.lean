import Derived.Test.YtfbepcelkijgkaaGreatDoorRows
import Derived.WalkKit
import Derived.WalkSpells
import Derived.WalkLawsBesides
import Derived.IntWalk
import Derived.Lib.Hide
import Derived.WalkSmall
import Derived.Deep.QuietTactic
import Derived.BigQuiet
import Derived.Deep.LoopGhost
import Derived.Lib.Strings
import Derived.Lib.LaidTab
import Derived.Laws.Rows
import Derived.Stop.LaidErr
import Derived.MakeChecks
import Derived.Test.YtfbepcelkijgkaaGreatDoorQAA
set_option maxRecDepth 100000
set_option maxHeartbeats 8000000
open Option renaming some → Ya
open Go renaming World → Yh
namespace Go.Proofs.YtfbepcelkijgkaaGreatDoor
section
def ZfN (n:Nat):Bool:=(decide (65<=n)&&decide (n<=90))||(decide (97<=n)&&decide (n<=122))||decide (n=95)
def ZfI (n:Nat):Bool:=decide (48<=n)&&decide (n<=57)
def ZbN (c:UInt8):Bool:=ZfN c.toNat
def Zbi (c:UInt8):Bool:=ZfI c.toNat
def ZaW (c:UInt8):Bool:=ZfN c.toNat||ZfI c.toNat
def ZdK (c:UInt8):Bool:=c==32||c==9||c==10||c==13
def ZcM (c:UInt8):Bool:=!(c==10)
def Zaq (p:UInt8->Bool) (l:List UInt8):Nat:=(l.takeWhile p).length
theorem Zpw (p:UInt8->Bool):Zaq p []=0:=rfl
theorem Zcx (p:UInt8->Bool) (c:UInt8) (r:List UInt8):Zaq p (c::r)=if p c then Zaq p r+1 else 0:=by
 unfold Zaq;rw[List.takeWhile_cons]
 split<;>simp
theorem ZeU (p:UInt8->Bool):∀l:List UInt8,Zaq p l<=l.length
 |[]=>Nat.le_refl _
 |c::r=>by
  have:=ZeU p r;rw[Zcx,Yk]
  split<;>omega
theorem Zen {l:List UInt8} {k:Nat} {c:UInt8} (h:l[k]? = Ya c):l.drop k=c::l.drop (k+1):=by obtain⟨hk,rfl⟩:=List.getElem?_eq_some_iff.1 h;exact List.drop_eq_getElem_cons hk
theorem Zdn {p:UInt8->Bool} {l:List UInt8} {k:Nat} {c:UInt8} (h:l[k]? = Ya c) (a:p c=true):Zaq p (l.drop k)=Zaq p (l.drop (k+1))+1:=by rw[Zen h,Zcx,Yo a]
theorem ZfV {p:UInt8->Bool} {l:List UInt8} {k:Nat} {c:UInt8} (h:l[k]? = Ya c) (a:p c=false):Zaq p (l.drop k)=0:=by rw[Zen h,Zcx,Yn (by simp[a])]
theorem Ze8 {p:UInt8->Bool} {l:List UInt8} {k:Nat} (h:l.length<=k):Zaq p (l.drop k)=0:=by rw[List.drop_eq_nil_of_le h];rfl
def ZU:List UInt8->Nat
 |[]=>0
 |c::r=>if ZdK c then ZU r+1 else if c==35 then 1+Zaq ZcM r+ZU (r.drop (Zaq ZcM r))else 0
termination_by l=>l.length
decreasing_by all_goals (simp only[List.length_drop,Yk];omega)
theorem Zll:ZU []=0:=by rw[ZU]
theorem Zlj {c:UInt8} {r:List UInt8} (h:ZdK c=true):ZU (c::r)=ZU r+1:=by rw[ZU,Yo h]
theorem Zlk {r:List UInt8}:ZU (35::r)=1+Zaq ZcM r+ZU (r.drop (Zaq ZcM r)):=by rw[ZU,Yn (by decide),Yo (by decide)]
theorem Zgu {c:UInt8} {r:List UInt8} (h:ZdK c=false) (a:(c==35)=false):ZU (c::r)=0:=by rw[ZU,Yn (by simp[h]),Yn (by simp[a])]
theorem Zgt (l:List UInt8):ZU l<=l.length:=by
 fun_induction ZU l with
 |case1=>exact Nat.le_refl _
 |case2 c r h a=>rw[Yk];omega
 |case3 c r h b a=>rw[List.length_drop]at a;have:=ZeU ZcM r;rw[Yk];omega
 |case4 c r h b=>exact Nat.zero_le _
def Zle:List (List UInt8):=[[61,61],[45,62],[123],[125],[40],[41],[59],[44],[46],[58],[61],[60],[43],[45],[42],[47],[124],[38]]
def ZbT:List UInt8:=[123,125,40,41,59,44,46,58,61,60,43,45,42,47,124,38]
def Zfs (l:List UInt8):Option Nat:=(Zle.find? fun g=>g.isPrefixOf l).map (·.length)
def Za9:List UInt8->Nat×Nat×Bool
 |[]=>(3,0,true)
 |c::r=>
  if ZbN c then(0,Zaq ZaW (c::r),true)
  else if Zbi c then(1,Zaq Zbi (c::r),decide (Zaq Zbi (c::r)<=18))
  else match Zfs (c::r)with
   |some n=>(2,n,true)
   |none=>(0,0,false)
theorem ZbU (c:UInt8) (r:List UInt8):Za9 (c::r)=if ZbN c then(0,Zaq ZaW (c::r),true)else if Zbi c then(1,Zaq Zbi (c::r),decide (Zaq Zbi (c::r)<=18))else match Zfs (c::r)with
   |some n=>(2,n,true)
   |none=>(0,0,false):=rfl
theorem Zpt:∀g∈Zle,1<=g.length/\g.length<=2:=by decide
theorem Zps {l:List UInt8} {n:Nat} (h:Zfs l=Ya n):1<=n/\n<=l.length:=by unfold Zfs at h;obtain⟨g,a,rfl⟩:=Option.map_eq_some_iff.1 h;refine⟨(Zpt g (List.mem_of_find?_eq_some a)).1,?_⟩;have:=List.find?_some a;exact(List.isPrefixOf_iff_prefix.1 this).length_le
theorem ZkG {c:UInt8} (h:ZbN c=true):ZaW c=true:=by unfold ZbN at h;unfold ZaW;rw[h];rfl
theorem Zit {c:UInt8} {r:List UInt8} (h:(Za9 (c::r)).2.2=true):1<=(Za9 (c::r)).2.1:=by
 rw[ZbU]at h⊢
 split
 ·rename_i g
  show 1<=Zaq ZaW (c::r);rw[Zcx,Yo (ZkG g)];omega
 ·split
  ·rename_i g
   show 1<=Zaq Zbi (c::r);rw[Zcx,Yo g];omega
  ·rename_i b d
   rw[Yn b,Yn d]at h
   split
   ·rename_i n a
    exact(Zps a).1
   ·rename_i a
    rw[a]at h;cases h
abbrev Tok:=Nat×List UInt8×Nat
inductive LexAns where
 |bad (at_:Nat)
 |ok (l:List Tok)
def LexAns.push (t:Tok):LexAns->LexAns
 |.bad a=>.bad a
 |.ok l=>.ok (t::l)
def LexAns.pre (ts:List Tok):LexAns->LexAns
 |.bad a=>.bad a
 |.ok l=>.ok (ts++l)
theorem LexAns.pre_nil (x:LexAns):x.pre []=x:=by cases x<;>rfl
theorem LexAns.pre_push (ts:List Tok) (t:Tok) (x:LexAns):(x.push t).pre ts=x.pre (ts++[t]):=by cases x<;>simp[LexAns.pre,LexAns.push]
def Zby (l:List UInt8) (a:Nat):LexAns:=
 if _h:ZU l<l.length then
  if _h2:(Za9 (l.drop (ZU l))).2.2=true then
   (Zby ((l.drop (ZU l)).drop (Za9 (l.drop (ZU l))).2.1) (a+ZU l+(Za9 (l.drop (ZU l))).2.1)).push ((Za9 (l.drop (ZU l))).1,(l.drop (ZU l)).take (Za9 (l.drop (ZU l))).2.1,a+ZU l)
  else .bad (a+ZU l)
 else .ok [(3,[],a+l.length)]
termination_by l.length
decreasing_by
 have e:1<=(Za9 (l.drop (ZU l))).2.1:=by
  cases q:l.drop (ZU l)with
  |nil=>have:=List.length_drop (i:=ZU l) (l:=l);rw[q]at this;simp at this;omega
  |cons c r=>rw[q]at _h2;exact Zit _h2
 rw[List.length_drop,List.length_drop];omega
theorem ZgH {l:List UInt8} {a:Nat} (h:ZU l=l.length):Zby l a=.ok [(3,[],a+l.length)]:=by rw[Zby,dif_neg (by omega)]
theorem Zh8 (a:Nat):Zby [] a=.ok [(3,[],a)]:=by rw[ZgH (by rw[Zll];rfl)];rfl
theorem ZfO {l:List UInt8} {a:Nat} {c:UInt8} {r:List UInt8} (h:l.drop (ZU l)=c::r) (b:(Za9 (c::r)).2.2=true) :
  Zby l a=(Zby ((c::r).drop (Za9 (c::r)).2.1) (a+ZU l+(Za9 (c::r)).2.1)).push ((Za9 (c::r)).1,(c::r).take (Za9 (c::r)).2.1,a+ZU l):=by
 have d:ZU l<l.length:=by have:=List.length_drop (i:=ZU l) (l:=l);rw[h,Yk]at this;omega
 rw[Zby,dif_pos d,h,dif_pos b]
theorem ZgG {l:List UInt8} {a:Nat} {c:UInt8} {r:List UInt8} (h:l.drop (ZU l)=c::r) (b:(Za9 (c::r)).2.2=false):Zby l a=.bad (a+ZU l):=by
 have d:ZU l<l.length:=by have:=List.length_drop (i:=ZU l) (l:=l);rw[h,Yk]at this;omega
 rw[Zby,dif_pos d,h,dif_neg (by simp[b])]
theorem ZjA {l m:List UInt8} {a k:Nat} (hd:l.drop k=m) (hk:k<=l.length) (b:ZU l=k+ZU m):Zby l a=Zby m (a+k):=by
 have e:l.drop (ZU l)=m.drop (ZU m):=by rw[b,<-hd,List.drop_drop]
 have d:m.length=l.length-k:=by rw[<-hd,List.length_drop]
 have j:=Zgt l;cases q:m.drop (ZU m)with
 |nil=>
  have h:ZU m=m.length:=by have:=List.length_drop (i:=ZU m) (l:=m);have:=Zgt m;rw[q]at *;simp at *;omega
  rw[ZgH (l:=m) h,ZgH (l:=l) (by omega)]
  congr 4
  omega
 |cons c r=>
  have g:l.drop (ZU l)=c::r:=e.trans q;cases f:(Za9 (c::r)).2.2 with
  |true=>
   rw[ZfO g f,ZfO q f,b];simp only[Nat.add_assoc]
  |false=>
   rw[ZgG g f,ZgG q f,b];simp only[Nat.add_assoc]
theorem ZkH {c:UInt8} {r:List UInt8} {a:Nat} (h:ZdK c=true):Zby (c::r) a=Zby r (a+1):=
 ZjA rfl (by simp) (by rw[Zlj h];omega)
theorem Zp9 {r:List UInt8} {a:Nat}:Zby (35::r) a=Zby (r.drop (Zaq ZcM r)) (a+(Zaq ZcM r+1)):=by refine ZjA (by rw[List.drop_succ_cons]) (by have:=ZeU ZcM r;simp;omega) ?_;rw[Zlk];omega
theorem ZoK {c:UInt8} {r:List UInt8} {a:Nat} (h:ZdK c=false) (b:(c==35)=false) (d:(Za9 (c::r)).2.2=true) :
  Zby (c::r) a=(Zby ((c::r).drop (Za9 (c::r)).2.1) (a+(Za9 (c::r)).2.1)).push ((Za9 (c::r)).1,(c::r).take (Za9 (c::r)).2.1,a):=by
 have e:=Zgu (r:=r) h b;have:=ZfO (l:=c::r) (a:=a) (by rw[e];rfl) d;rw[e]at this;simpa using this
theorem Znd {c:UInt8} {r:List UInt8} {a:Nat} (h:ZdK c=false) (b:(c==35)=false) (d:(Za9 (c::r)).2.2=false):Zby (c::r) a=.bad a:=by have e:=Zgu (r:=r) h b;have:=ZgG (l:=c::r) (a:=a) (by rw[e];rfl) d;rw[e]at this;simpa using this
theorem Zek (c:UInt8) (r:List UInt8):Zfs (c::r)=if(c=61/\r.head? = Ya 61)\/(c=45/\r.head? = Ya 62)then Ya 2 else if c∈ZbT then Ya 1 else none:=by
 have k:∀x:UInt8,List.isPrefixOf [x] (c::r)=(x==c):=fun x=>by simp[List.isPrefixOf]
 have l:∀x y:UInt8,List.isPrefixOf [x,y] (c::r)=(x==c&&r.head? == Ya y):=fun x y=>by
  cases r with
  |nil=>simp[List.isPrefixOf]
  |cons z r=>simp[List.isPrefixOf,Bool.beq_eq_decide_eq,eq_comm]
 unfold Zfs Zle;simp only[List.find?_cons,k,l,List.find?_nil];by_cases h:(c=61/\r.head? = Ya 61)\/(c=45/\r.head? = Ya 62)
 ·rw[Yo h];rcases h with⟨rfl,h⟩|⟨rfl,h⟩<;>simp[h]
 ·rw[Yn h];by_cases hm:c∈ZbT
  ·rw[Yo hm];simp only[ZbT,List.mem_cons,List.not_mem_nil,or_false]at hm;rcases hm with rfl|rfl|rfl|rfl|rfl|rfl|rfl|rfl|rfl|rfl|rfl|rfl|rfl|rfl|rfl|rfl<;>simp at h⊢<;>rw[beq_eq_false_iff_ne.2 h]<;>simp
  ·rw[Yn hm];simp only[ZbT,List.mem_cons,List.not_mem_nil,or_false,not_or]at hm;have:∀x:UInt8,¬c=x->(x==c)=false:=fun x hx=>by simpa using fun e=>hx e.symm
   obtain⟨m,n,o,p,q,s,t,u,v,a,b,d,f,g,i,j⟩:=hm;simp[this _ m,this _ n,this _ o,this _ p,this _ q,this _ s,this _ t,this _ u,this _ v,this _ a,this _ b,this _ d,this _ f,this _ g,this _ i,this _ j]
end
section
open Go.RowKit
theorem Zmv {k:IntKind} {a b:Int} (h:a=b):Ending.returned (.int k a)=.returned (.int k b):=by rw[h]
theorem ZbS {a b:Bool} (h:a=b):Ending.returned (.bool a)=.returned (.bool b):=by rw[h]
def Zev (w:Yh) (v:Value) (e:Ending) (w':Yh):Prop:=e=.returned v/\w=w'
theorem byte_at {s:ByteArray} {k:Nat} (h:k<s.size):s.data.toList[k]? = Ya s[k]:=by rw[Ym (by simpa using h)];rfl
theorem Zh2 {s:ByteArray} {k:Nat} (h:s.size<=k):s.data.toList.drop k=[]:=List.drop_eq_nil_of_le (by simpa using h)
theorem ZcZ (s:ByteArray):s.data.toList.length=s.size:=by simp
theorem ZiE (n:Nat) (w:Yh) :
  Calls Tryz.prog 105 #[.int .u8 n] w (Zev w (.bool (ZfN n))):=by
 unfold ZfN;go_enter Tryz.func105,Tryz.ntmps105;go_wp2_with fail
 all_goals
  go_ret
  exact⟨ZbS (by
   rw[Bool.eq_iff_iff];simp only[Bool.or_eq_true,Bool.and_eq_true,decide_eq_true_eq]
   first|omega|(simp;omega)),rfl⟩
theorem Zoj (n:Nat) (w:Yh) :
  Calls Tryz.prog 127 #[.int .u8 n] w (Zev w (.bool (ZfI n))):=by
 unfold ZfI;go_enter Tryz.func127,Tryz.ntmps127;go_wp2_with fail
 all_goals
  go_ret
  exact⟨ZbS (by
   rw[Bool.eq_iff_iff];simp only[Bool.and_eq_true,decide_eq_true_eq]
   first|omega|(simp;omega)),rfl⟩
theorem Ze0 (n:Nat) (w:Yh) :
  Calls Tryz.prog 44 #[.int .u8 n] w (Zev w (.bool (ZfN n))):=by
 unfold ZfN;go_enter Tryz.func44,Tryz.ntmps44;go_wp2_with fail
 all_goals
  go_ret
  exact⟨ZbS (by
   rw[Bool.eq_iff_iff];simp only[Bool.or_eq_true,Bool.and_eq_true,decide_eq_true_eq]
   first|omega|(simp;omega)),rfl⟩
theorem Zd0 (n:Nat) (w:Yh) :
  Calls Tryz.prog 45 #[.int .u8 n] w (Zev w (.bool (ZfI n))):=by
 unfold ZfI;go_enter Tryz.func45,Tryz.ntmps45;go_wp2_with fail
 all_goals
  go_ret
  exact⟨ZbS (by
   rw[Bool.eq_iff_iff];simp only[Bool.and_eq_true,decide_eq_true_eq]
   first|omega|(simp;omega)),rfl⟩
theorem Zr1 (n:Nat) (w:Yh) :
  Calls Tryz.prog 107 #[.int .u8 n] w (Zev w (.bool (ZfN n||ZfI n))):=by
 have b:=fun w=>ZiE n w;have a:=fun w=>Zoj n w;generalize ZfN n=L at *;generalize ZfI n=D at *;cases L
 all_goals
  go_enter Tryz.func107,Tryz.ntmps107
  go_wp2_with (first
   |(go_at_call 105;(with_reducible refine(b _).mono ?_);rintro e c ⟨rfl,rfl⟩)
   |(go_at_call 127;(with_reducible refine(a _).mono ?_);rintro e c ⟨rfl,rfl⟩))
  go_ret;exact⟨rfl,rfl⟩
theorem Zrf (c:UInt8):(ZfN c.toNat||ZfI c.toNat)=ZaW c:=rfl
theorem ZeT (c:UInt8):ZfI c.toNat=Zbi c:=rfl
theorem ZfK (c:UInt8):ZfN c.toNat=ZbN c:=rfl
theorem Zmd (c d:UInt8):decide (c.toNat=d.toNat)=(c==d):=by rw[Bool.eq_iff_iff];simp[UInt8.toNat_inj]
theorem ZkF {c:UInt8} (h:ZaW c=true):ZbN c=true\/(ZbN c=false/\Zbi c=true):=by have e:ZaW c=(ZbN c||Zbi c):=rfl;rw[e]at h;generalize ZbN c=a at *;generalize Zbi c=b at *;clear e;revert h;revert a b;decide
theorem ZoH {c:UInt8} (h:ZaW c=false):ZbN c=false/\Zbi c=false:=by have e:ZaW c=(ZbN c||Zbi c):=rfl;rw[e]at h;generalize ZbN c=a at *;generalize Zbi c=b at *;clear e;revert h;revert a b;decide
theorem Zrw (s:ByteArray) (w:Yh) (u:s.size<=maxLen) :
  Calls Tryz.prog 106 #[.string s,.func (.func 107) #[] #[]] w (Zev w (.int .i64 (Zaq ZaW s.data.toList))):=by
 unfold maxLen at u;obtain⟨z,j⟩:∃z,z=Zaq ZaW s.data.toList:=⟨_,rfl⟩
 rw[<-j];have t:=zh j;clear j;go_enter Tryz.func106,Tryz.ntmps106;go_wp2_with fail;go_loopg [5] s.size (fun g v5 wr=>∃k:Nat,v5=.int .i64 k/\k<=s.size/\g=s.size-k/\z=k+Zaq ZaW (s.data.toList.drop k)/\wr=w)
 case atStart=>exact⟨0,rfl,Nat.zero_le _,rfl,by rw[t.out];simp,rfl⟩
 case round=>
  obtain⟨k,rfl,hk,h,a,rfl⟩:=hrel;have c:=zh a;clear a;by_cases b:k<s.size
  ·have d:=fun w=>Zr1 s[k].toNat w;have n:=Zrf s[k];have f:=byte_at b;have o:=zh (fun i=>ZfV (p:=ZaW) f i);have r:=zh (fun i=>Zdn (p:=ZaW) f i);rw[n]at d;have y:(k:Int)<(s.size:Int):=by omega
   have i2:(0:Int)<=(k:Int):=by omega
   have A:IntKind.i64.wrap ((k:Int)+1)=(k:Int)+1:=IntWalk.i64_in _ (by omega);have l:=zh d;have m:=zh (zi b h);clear d n f h;generalize ZaW s[k]=R at *;cases R
   ·go_wp2_with (go_at_call 107;(with_reducible refine(l.out _).mono ?_);rintro e v ⟨rfl,rfl⟩);go_ret;exact⟨Zmv (by have:=c.out;rw[o.out trivial]at this;omega),rfl⟩
   ·go_wp2_with (go_at_call 107;(with_reducible refine(l.out _).mono ?_);rintro e v ⟨rfl,rfl⟩);go_roundg (s.size-(k+1))
    case measure=>have:=m.out;omega
    case rel=>exact⟨k+1,by push_cast;rfl,by have:=m.out;omega,rfl,by have:=c.out;rw[r.out trivial]at this;omega,rfl⟩
  ·obtain rfl:k=s.size:=by omega
   have q:=zh (Ze8 (p:=ZaW) (Nat.le_of_eq (ZcZ s)));clear h hk b;go_wp2_with fail;go_ret;exact⟨Zmv (by have:=c.out;rw[q.out]at this;omega),rfl⟩
def inL (n:Nat) (l:List UInt8):Bool:=l.any fun c=>decide (c.toNat=n)
theorem ZoB (n:Nat) (s:ByteArray) (w:Yh) (m:s.size<=maxLen) :
  Calls Tryz.prog 43 #[.int .u8 n,.string s] w (Zev w (.bool (inL n s.data.toList))):=by
 unfold maxLen at m;obtain⟨z,f⟩:∃z,z=inL n s.data.toList:=⟨_,rfl⟩
 rw[<-f];have j:=zh f;clear f;go_enter Tryz.func43,Tryz.ntmps43;go_wp2_with fail;go_loopg [5] s.size (fun g v5 wr=>∃k:Nat,v5=.int .i64 k/\k<=s.size/\g=s.size-k/\z=inL n (s.data.toList.drop k)/\wr=w)
 case atStart=>exact⟨0,rfl,Nat.zero_le _,rfl,by rw[j.out];simp,rfl⟩
 case round=>
  obtain⟨k,rfl,hk,d,a,rfl⟩:=hrel;by_cases b:k<s.size
  ·have a:z=(decide (s[k].toNat=n)||inL n (s.data.toList.drop (k+1))):=by rw[a,Zen (byte_at b)];rfl
   have c:=zh a;clear a;have o:(k:Int)<(s.size:Int):=by omega
   have i2:(0:Int)<=(k:Int):=by omega
   have p:IntKind.i64.wrap ((k:Int)+1)=(k:Int)+1:=IntWalk.i64_in _ (by omega);have h:=zh (zi b d);clear d;by_cases hc:s[k].toNat=n
   ·go_wp2_with fail;go_ret;exact⟨ZbS (by rw[c.out,decide_eq_true hc];rfl),rfl⟩
   ·have l:((s[k].toNat:Int)==(n:Int))=false:=by simpa using fun e=>hc (by omega)
    have i:=zh hc;clear hc;go_wp2_with fail;go_roundg (s.size-(k+1))
    case measure=>have:=h.out;omega
    case rel=>exact⟨k+1,by push_cast;rfl,by have:=h.out;omega,rfl,by rw[c.out,decide_eq_false i.out];rfl,rfl⟩
  ·obtain rfl:k=s.size:=by omega
   rw[Zh2 (Nat.le_refl _)]at a;have c:=zh a;clear d hk b a;go_wp2_with fail;go_ret;exact⟨ZbS (by rw[c.out];rfl),rfl⟩
end
section
open Go.RowKit
def Zjm {H:Type} (l:List (List UInt8)):DataW H:=.agg (l.map fun z=>.lit (.string z))
def ZaI (w:Yh) (g:Nat) (l:List (List UInt8)):Prop:=∃t a,w.heap[g]? = Ya (.cells (l.map txt).toArray t a)
theorem ZaI.below {w w':Yh} {g:Nat} {l:List (List UInt8)} (h:ZaI w g l) (b:Below w.heap.size w w'):ZaI w' g l:=by
 obtain⟨t,a,e⟩:=h;have c:g<w.heap.size:=by
  rcases Nat.lt_or_ge g w.heap.size with q|q
  ·exact q
  ·rw[Array.getElem?_eq_none q]at e;cases e
 exact⟨t,a,(b.block g c).trans e⟩
theorem Zj2 {H:Type} {enc:TypeId×Value->H} {P:Program} {w:Yh} {c:Nat} {B:Nat->Bool} {d:Bool} {a:Nat} {t e:TypeId} {n:Nat} {cs:List Value} {zs:List (List UInt8)} {p:List MemPlace}
  (v:P.underlying t=Ya (.array n e)) (r:P.underlying e=Ya .string) (j:P.cellsOf e=1) (k:P.cellsOf t=n)
  (h:DataW.trod enc P w c B d a t cs=Ya (Zjm zs,p)):cs=zs.map txt:=by
 cases a with
 |zero=>simp[DataW.trod]at h
 |succ a=>
  simp only[DataW.trod,v,j,k,Nat.mul_one]at h
  split at h
  ·rename_i C
   obtain⟨m,hm,hx⟩:=Option.map_eq_some_iff.1 h;have f:m.map (·.1)=zs.map fun z=>(DataW.lit (.string z):DataW H):=by have:=congrArg Prod.fst hx;simpa[Zjm]using this
   have y:m.length=n:=by simpa using Lib.mapM_length hm
   have A:zs.length=n:=by have:=congrArg List.length f;simp at this;omega
   apply List.ext_getElem?;intro i;by_cases u:i<n
   ·obtain⟨b,q,s⟩:=Lib.mapM_at hm i i (by simp[u]);obtain⟨z,hc,rfl,_⟩:=DataW.trod_string r s;have o:cs[i]? = Ya (.string z):=by have:=congrArg (·[0]?) hc;simpa[List.getElem?_take,List.getElem?_drop]using this
    have g:(m.map (·.1))[i]? = Ya (DataW.lit (.string z.data.toList):DataW H):=by simp[q]
    rw[f]at g;simp only[List.getElem?_map,Option.map_eq_some_iff,DataW.lit.injEq,Lit.string.injEq]at g;obtain⟨D,l,rfl⟩:=g;simp[o,l,txt]
   ·rw[List.getElem?_eq_none (by omega),List.getElem?_eq_none (by simp;omega)]
  ·cases h
theorem ZeM {P:Program} {W:Yh} {b:String} {zs:List (List UInt8)} {rest:List (String×DataW Unit)} {g:Nat} {t e:TypeId} {n:Nat}
  (m:P.globalNamed b=Ya g) (k:(P.globals[g]?).map (·.type)=Ya t) (u:P.underlying t=Ya (.array n e)) (r:P.underlying e=Ya .string) (d:P.cellsOf e=1) (f:P.cellsOf t=n)
  (h:laidMet P ((b,Zjm zs)::rest) W):ZaI W g zs:=by
 obtain⟨z,⟨y,A,w,l,p,q,i,j,a,hd,_,_⟩,_⟩:=h;obtain rfl:=Option.some.inj (m.symm.trans i);obtain rfl:=Option.some.inj (k.symm.trans j);have hc:=Zj2 u r d f hd;simp only[World.var?,m,Option.bind_some]at a
 split at a
 ·rename_i c v o s
  have a:=Option.some.inj a;subst a;exact⟨v,o,by rw[s,<-hc]⟩
 ·cases a
def ZB:List (List UInt8):=[[112,114,111,116,111],[115,116,97,116,101],[102,105,110,97,108],[111,112],[102,110],[108,101,97,115,116],[97,116],[116,111],[105,110],[108,101,116],[111,112,101,110],[101,108,115,101],[100,111],[115,112,108,105,116],[99,97,108,108],[105,102],[119,104,105,108,101],[114,101,116,117,114,110],[101,120,105,116],[117,110,105,113,117,101],[102,117,108,108],[115,104,97,114,101],[105,109,109],[112,117,114,101]]
theorem Tryz.gKeys:Tryz.prog.globalNamed "ballcock/lex.keywords"=Ya 3:=by kernel_rfl
theorem Tryz.gKeysType:(Tryz.prog.globals[3]?).map (·.type)=Ya 130:=by kernel_rfl
theorem Tryz.cellsS:Tryz.prog.cellsOf 9=1:=by kernel_rfl
end
end Go.Proofs.YtfbepcelkijgkaaGreatDoor
