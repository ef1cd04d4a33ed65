import Derived.Deep.DeepFit
import Derived.Test.YtdkegpkfjgloeaaGreatDoorRows
import Derived.WalkKit
import Derived.WalkSpells
import Derived.WalkLawsBesides
import Derived.IntWalk
import Derived.Lib.Hide
import Derived.WalkSmall
import Derived.Deep.QuietTactic
import Derived.BigQuiet
import Derived.Deep.LoopGhost
import Derived.Lib.Strings
import Derived.Lib.LaidTab
import Derived.Laws.Rows
import Derived.Stop.LaidErr
import Derived.MakeChecks
import Derived.Test.YtdkegpkfjgloeaaGreatDoorQAA
set_option maxRecDepth 100000
set_option maxHeartbeats 8000000
open Option renaming some → Ya
open Go renaming World → Yh
open Go.RowKit
namespace Go.Proofs.YtdkegpkfjgloeaaGreatDoor
def Zf0 (n:Nat):Bool:=(decide (65<=n)&&decide (n<=90))||(decide (97<=n)&&decide (n<=122))||decide (n=95)
def ZfU (n:Nat):Bool:=decide (48<=n)&&decide (n<=57)
def ZbT (c:UInt8):Bool:=Zf0 c.toNat
def Zbt (c:UInt8):Bool:=ZfU c.toNat
def Za3 (c:UInt8):Bool:=Zf0 c.toNat||ZfU c.toNat
def ZdV (c:UInt8):Bool:=c==32||c==9||c==10||c==13
def Zc5 (c:UInt8):Bool:=!(c==10)
def Zav (p:UInt8->Bool) (l:List UInt8):Nat:=(l.takeWhile p).length
theorem ZpN (p:UInt8->Bool):Zav p []=0:=rfl
theorem ZcR (p:UInt8->Bool) (c:UInt8) (r:List UInt8):Zav p (c::r)=if p c then Zav p r+1 else 0:=by
 unfold Zav;rw[List.takeWhile_cons]
 split<;>simp
theorem Ze3 (p:UInt8->Bool):∀l:List UInt8,Zav p l<=l.length
 |[]=>Nat.le_refl _
 |c::r=>by
  have:=Ze3 p r;rw[ZcR,Yk]
  split<;>omega
theorem ZeA {l:List UInt8} {k:Nat} {c:UInt8} (h:l[k]? = Ya c):l.drop k=c::l.drop (k+1):=by obtain⟨hk,rfl⟩:=List.getElem?_eq_some_iff.1 h;exact List.drop_eq_getElem_cons hk
theorem ZdB {p:UInt8->Bool} {l:List UInt8} {k:Nat} {c:UInt8} (h:l[k]? = Ya c) (a:p c=true):Zav p (l.drop k)=Zav p (l.drop (k+1))+1:=by rw[ZeA h,ZcR,Yo a]
theorem Zf8 {p:UInt8->Bool} {l:List UInt8} {k:Nat} {c:UInt8} (h:l[k]? = Ya c) (a:p c=false):Zav p (l.drop k)=0:=by rw[ZeA h,ZcR,Yn (by simp[a])]
theorem Zfl {p:UInt8->Bool} {l:List UInt8} {k:Nat} (h:l.length<=k):Zav p (l.drop k)=0:=by rw[List.drop_eq_nil_of_le h];rfl
def ZW:List UInt8->Nat
 |[]=>0
 |c::r=>if ZdV c then ZW r+1 else if c==35 then 1+Zav Zc5 r+ZW (r.drop (Zav Zc5 r))else 0
termination_by l=>l.length
decreasing_by all_goals (simp only[List.length_drop,Yk];omega)
theorem Zlt:ZW []=0:=by rw[ZW]
theorem Zlr {c:UInt8} {r:List UInt8} (h:ZdV c=true):ZW (c::r)=ZW r+1:=by rw[ZW,Yo h]
theorem Zls {r:List UInt8}:ZW (35::r)=1+Zav Zc5 r+ZW (r.drop (Zav Zc5 r)):=by rw[ZW,Yn (by decide),Yo (by decide)]
theorem ZgD {c:UInt8} {r:List UInt8} (h:ZdV c=false) (a:(c==35)=false):ZW (c::r)=0:=by rw[ZW,Yn (by simp[h]),Yn (by simp[a])]
theorem ZgC (l:List UInt8):ZW l<=l.length:=by
 fun_induction ZW l with
 |case1=>exact Nat.le_refl _
 |case2 c r h a=>rw[Yk];omega
 |case3 c r h b a=>rw[List.length_drop]at a;have:=Ze3 Zc5 r;rw[Yk];omega
 |case4 c r h b=>exact Nat.zero_le _
def Zlh:List (List UInt8):=[[61,61],[45,62],[123],[125],[40],[41],[59],[44],[46],[58],[61],[60],[43],[45],[42],[47],[124],[38]]
def Zb3:List UInt8:=[123,125,40,41,59,44,46,58,61,60,43,45,42,47,124,38]
def ZfI (l:List UInt8):Option Nat:=(Zlh.find? fun g=>g.isPrefixOf l).map (·.length)
def Zbi:List UInt8->Nat×Nat×Bool
 |[]=>(3,0,true)
 |c::r=>
  if ZbT c then(0,Zav Za3 (c::r),true)
  else if Zbt c then(1,Zav Zbt (c::r),decide (Zav Zbt (c::r)<=18))
  else match ZfI (c::r)with
   |some n=>(2,n,true)
   |none=>(0,0,false)
theorem Zb4 (c:UInt8) (r:List UInt8):Zbi (c::r)=if ZbT c then(0,Zav Za3 (c::r),true)else if Zbt c then(1,Zav Zbt (c::r),decide (Zav Zbt (c::r)<=18))else match ZfI (c::r)with
   |some n=>(2,n,true)
   |none=>(0,0,false):=rfl
theorem ZpK:∀g∈Zlh,1<=g.length/\g.length<=2:=by decide
theorem ZpJ {l:List UInt8} {n:Nat} (h:ZfI l=Ya n):1<=n/\n<=l.length:=by unfold ZfI at h;obtain⟨g,a,rfl⟩:=Option.map_eq_some_iff.1 h;refine⟨(ZpK g (List.mem_of_find?_eq_some a)).1,?_⟩;have:=List.find?_some a;exact(List.isPrefixOf_iff_prefix.1 this).length_le
theorem ZkL {c:UInt8} (h:ZbT c=true):Za3 c=true:=by unfold ZbT at h;unfold Za3;rw[h];rfl
theorem ZiB {c:UInt8} {r:List UInt8} (h:(Zbi (c::r)).2.2=true):1<=(Zbi (c::r)).2.1:=by
 rw[Zb4]at h⊢
 split
 ·rename_i g
  show 1<=Zav Za3 (c::r);rw[ZcR,Yo (ZkL g)];omega
 ·split
  ·rename_i g
   show 1<=Zav Zbt (c::r);rw[ZcR,Yo g];omega
  ·rename_i a b
   rw[Yn a,Yn b]at h
   split
   ·rename_i n hn
    exact(ZpJ hn).1
   ·rename_i hn
    rw[hn]at h;cases h
abbrev Tok:=Nat×List UInt8×Nat
inductive LexAns where
 |bad (at_:Nat)
 |ok (l:List Tok)
def LexAns.push (t:Tok):LexAns->LexAns
 |.bad a=>.bad a
 |.ok l=>.ok (t::l)
def LexAns.pre (ts:List Tok):LexAns->LexAns
 |.bad a=>.bad a
 |.ok l=>.ok (ts++l)
theorem LexAns.pre_nil (x:LexAns):x.pre []=x:=by cases x<;>rfl
theorem LexAns.pre_push (ts:List Tok) (t:Tok) (x:LexAns):(x.push t).pre ts=x.pre (ts++[t]):=by cases x<;>simp[LexAns.pre,LexAns.push]
def ZbK (l:List UInt8) (a:Nat):LexAns:=
 if _h:ZW l<l.length then
  if _h2:(Zbi (l.drop (ZW l))).2.2=true then
   (ZbK ((l.drop (ZW l)).drop (Zbi (l.drop (ZW l))).2.1) (a+ZW l+(Zbi (l.drop (ZW l))).2.1)).push ((Zbi (l.drop (ZW l))).1,(l.drop (ZW l)).take (Zbi (l.drop (ZW l))).2.1,a+ZW l)
  else .bad (a+ZW l)
 else .ok [(3,[],a+l.length)]
termination_by l.length
decreasing_by
 have e:1<=(Zbi (l.drop (ZW l))).2.1:=by
  cases q:l.drop (ZW l)with
  |nil=>have:=List.length_drop (i:=ZW l) (l:=l);rw[q]at this;simp at this;omega
  |cons c r=>rw[q]at _h2;exact ZiB _h2
 rw[List.length_drop,List.length_drop];omega
theorem ZgS {l:List UInt8} {a:Nat} (h:ZW l=l.length):ZbK l a=.ok [(3,[],a+l.length)]:=by rw[ZbK,dif_neg (by omega)]
theorem Zie (a:Nat):ZbK [] a=.ok [(3,[],a)]:=by rw[ZgS (by rw[Zlt];rfl)];rfl
theorem Zf1 {l:List UInt8} {a:Nat} {c:UInt8} {r:List UInt8} (h:l.drop (ZW l)=c::r) (b:(Zbi (c::r)).2.2=true) :
  ZbK l a=(ZbK ((c::r).drop (Zbi (c::r)).2.1) (a+ZW l+(Zbi (c::r)).2.1)).push ((Zbi (c::r)).1,(c::r).take (Zbi (c::r)).2.1,a+ZW l):=by
 have d:ZW l<l.length:=by have:=List.length_drop (i:=ZW l) (l:=l);rw[h,Yk]at this;omega
 rw[ZbK,dif_pos d,h,dif_pos b]
theorem ZgR {l:List UInt8} {a:Nat} {c:UInt8} {r:List UInt8} (h:l.drop (ZW l)=c::r) (b:(Zbi (c::r)).2.2=false):ZbK l a=.bad (a+ZW l):=by
 have d:ZW l<l.length:=by have:=List.length_drop (i:=ZW l) (l:=l);rw[h,Yk]at this;omega
 rw[ZbK,dif_pos d,h,dif_neg (by simp[b])]
theorem ZjC {l m:List UInt8} {a k:Nat} (hd:l.drop k=m) (hk:k<=l.length) (b:ZW l=k+ZW m):ZbK l a=ZbK m (a+k):=by
 have e:l.drop (ZW l)=m.drop (ZW m):=by rw[b,<-hd,List.drop_drop]
 have d:m.length=l.length-k:=by rw[<-hd,List.length_drop]
 have j:=ZgC l;cases q:m.drop (ZW m)with
 |nil=>
  have h:ZW m=m.length:=by have:=List.length_drop (i:=ZW m) (l:=m);have:=ZgC m;rw[q]at *;simp at *;omega
  rw[ZgS (l:=m) h,ZgS (l:=l) (by omega)]
  congr 4
  omega
 |cons c r=>
  have g:l.drop (ZW l)=c::r:=e.trans q;cases f:(Zbi (c::r)).2.2 with
  |true=>
   rw[Zf1 g f,Zf1 q f,b];simp only[Nat.add_assoc]
  |false=>
   rw[ZgR g f,ZgR q f,b];simp only[Nat.add_assoc]
theorem ZkM {c:UInt8} {r:List UInt8} {a:Nat} (h:ZdV c=true):ZbK (c::r) a=ZbK r (a+1):=
 ZjC rfl (by simp) (by rw[Zlr h];omega)
theorem Zqy {r:List UInt8} {a:Nat}:ZbK (35::r) a=ZbK (r.drop (Zav Zc5 r)) (a+(Zav Zc5 r+1)):=by refine ZjC (by rw[List.drop_succ_cons]) (by have:=Ze3 Zc5 r;simp;omega) ?_;rw[Zls];omega
theorem ZoW {c:UInt8} {r:List UInt8} {a:Nat} (h:ZdV c=false) (b:(c==35)=false) (d:(Zbi (c::r)).2.2=true) :
  ZbK (c::r) a=(ZbK ((c::r).drop (Zbi (c::r)).2.1) (a+(Zbi (c::r)).2.1)).push ((Zbi (c::r)).1,(c::r).take (Zbi (c::r)).2.1,a):=by
 have e:=ZgD (r:=r) h b;have:=Zf1 (l:=c::r) (a:=a) (by rw[e];rfl) d;rw[e]at this;simpa using this
theorem Znl {c:UInt8} {r:List UInt8} {a:Nat} (h:ZdV c=false) (b:(c==35)=false) (d:(Zbi (c::r)).2.2=false):ZbK (c::r) a=.bad a:=by have e:=ZgD (r:=r) h b;have:=ZgR (l:=c::r) (a:=a) (by rw[e];rfl) d;rw[e]at this;simpa using this
theorem Zev (c:UInt8) (r:List UInt8):ZfI (c::r)=if(c=61/\r.head? = Ya 61)\/(c=45/\r.head? = Ya 62)then Ya 2 else if c∈Zb3 then Ya 1 else none:=by
 have k:∀x:UInt8,List.isPrefixOf [x] (c::r)=(x==c):=fun x=>by simp[List.isPrefixOf]
 have l:∀x y:UInt8,List.isPrefixOf [x,y] (c::r)=(x==c&&r.head? == Ya y):=fun x y=>by
  cases r with
  |nil=>simp[List.isPrefixOf]
  |cons z r=>simp[List.isPrefixOf,Bool.beq_eq_decide_eq,eq_comm]
 unfold ZfI Zlh;simp only[List.find?_cons,k,l,List.find?_nil];by_cases h:(c=61/\r.head? = Ya 61)\/(c=45/\r.head? = Ya 62)
 ·rw[Yo h];rcases h with⟨rfl,h⟩|⟨rfl,h⟩<;>simp[h]
 ·rw[Yn h];by_cases hm:c∈Zb3
  ·rw[Yo hm];simp only[Zb3,List.mem_cons,List.not_mem_nil,or_false]at hm;rcases hm with rfl|rfl|rfl|rfl|rfl|rfl|rfl|rfl|rfl|rfl|rfl|rfl|rfl|rfl|rfl|rfl<;>simp at h⊢<;>rw[beq_eq_false_iff_ne.2 h]<;>simp
  ·rw[Yn hm];simp only[Zb3,List.mem_cons,List.not_mem_nil,or_false,not_or]at hm;have:∀x:UInt8,¬c=x->(x==c)=false:=fun x hx=>by simpa using fun e=>hx e.symm
   obtain⟨m,n,o,p,q,s,t,u,v,a,b,d,f,g,i,j⟩:=hm;simp[this _ m,this _ n,this _ o,this _ p,this _ q,this _ s,this _ t,this _ u,this _ v,this _ a,this _ b,this _ d,this _ f,this _ g,this _ i,this _ j]
theorem ZhB {p:UInt8->Bool} {c:UInt8} (h:p c=false) (b:List UInt8):∀m:List UInt8,Zav p (m++c::b)=Zav p m
 |[]=>by rw[List.nil_append,ZcR,Yn (by simp[h]),ZpN]
 |d::r=>by rw[List.cons_append,ZcR,ZcR,ZhB h b r]
def LexAns.join (y:LexAns):LexAns->LexAns
 |.bad a=>.bad a
 |.ok l=>y.pre l.dropLast
theorem Zna {x:UInt8} (a:Za3 x=false) (f:Zbt x=false) (g:x≠61) (h:x≠62) (b:List UInt8) (c:UInt8) (r:List UInt8):Zbi (c::r++x::b)=Zbi (c::r):=by
 have e:c::r++x::b=c::(r++x::b):=rfl;have i:Zav Za3 (c::(r++x::b))=Zav Za3 (c::r):=by rw[<-e];exact ZhB a b (c::r)
 have j:Zav Zbt (c::(r++x::b))=Zav Zbt (c::r):=by rw[<-e];exact ZhB f b (c::r)
 have k:ZfI (c::(r++x::b))=ZfI (c::r):=by
  rw[Zev,Zev];cases r with
  |nil=>simp[g,h]
  |cons d r=>rfl
 rw[e,Zb4,Zb4,i,j,k]
theorem Zn4 {c:UInt8} (r:List UInt8) (a:c≠61) (b:c≠45) (d:c ∉ Zb3):ZfI (c::r)=none:=by rw[Zev,Yn (by simp[a,b]),Yn d]
theorem ZoE {c:UInt8} (r:List UInt8) (a:ZbT c=false) (b:Zbt c=false) (d:c ∉ Zb3) (e:c≠61) (f:c≠45):(Zbi (c::r)).2.2=false:=by rw[Zb4,Yn (by simp[a]),Yn (by simp[b]),Zn4 r e f d]
theorem Zkv {c:UInt8} {r:List UInt8} (h:(Zbi (c::r)).2.2=true):ZdV c=false/\(c==35)=false:=by
 have a:∀d:UInt8,ZbT d=false->Zbt d=false->d ∉ Zb3->d≠61->d≠45->c≠d:=fun d b a2 a3 a4 a5 e=>by
  subst e;rw[ZoE r b a2 a3 a4 a5]at h;cases h
 have f:=a 32 (by decide) (by decide) (by decide) (by decide) (by decide);have g:=a 9 (by decide) (by decide) (by decide) (by decide) (by decide);have i:=a 10 (by decide) (by decide) (by decide) (by decide) (by decide);have j:=a 13 (by decide) (by decide) (by decide) (by decide) (by decide);have k:=a 35 (by decide) (by decide) (by decide) (by decide) (by decide);refine⟨?_,by simpa using k⟩;unfold ZdV;simp[f,g,i,j]
theorem ZmD {k:IntKind} {a b:Int} (h:a=b):Ending.returned (.int k a)=.returned (.int k b):=by rw[h]
theorem Zb2 {a b:Bool} (h:a=b):Ending.returned (.bool a)=.returned (.bool b):=by rw[h]
def ZeI (w:Yh) (v:Value) (e:Ending) (w':Yh):Prop:=e=.returned v/\w=w'
theorem byte_at {s:ByteArray} {k:Nat} (h:k<s.size):s.data.toList[k]? = Ya s[k]:=by rw[Ym (by simpa using h)];rfl
theorem Zh9 {s:ByteArray} {k:Nat} (h:s.size<=k):s.data.toList.drop k=[]:=List.drop_eq_nil_of_le (by simpa using h)
theorem Zdg (s:ByteArray):s.data.toList.length=s.size:=by simp
theorem ZiM (n:Nat) (w:Yh) :
  Calls Tryz.prog 98 #[.int .u8 n] w (ZeI w (.bool (Zf0 n))):=by
 unfold Zf0;go_enter Tryz.func98,Tryz.ntmps98;go_wp2_with fail
 all_goals
  go_ret
  exact⟨Zb2 (by
   rw[Bool.eq_iff_iff];simp only[Bool.or_eq_true,Bool.and_eq_true,decide_eq_true_eq]
   first|omega|(simp;omega)),rfl⟩
theorem Zow (n:Nat) (w:Yh) :
  Calls Tryz.prog 122 #[.int .u8 n] w (ZeI w (.bool (ZfU n))):=by
 unfold ZfU;go_enter Tryz.func122,Tryz.ntmps122;go_wp2_with fail
 all_goals
  go_ret
  exact⟨Zb2 (by
   rw[Bool.eq_iff_iff];simp only[Bool.and_eq_true,decide_eq_true_eq]
   first|omega|(simp;omega)),rfl⟩
theorem Zfc (n:Nat) (w:Yh) :
  Calls Tryz.prog 40 #[.int .u8 n] w (ZeI w (.bool (Zf0 n))):=by
 unfold Zf0;go_enter Tryz.func40,Tryz.ntmps40;go_wp2_with fail
 all_goals
  go_ret
  exact⟨Zb2 (by
   rw[Bool.eq_iff_iff];simp only[Bool.or_eq_true,Bool.and_eq_true,decide_eq_true_eq]
   first|omega|(simp;omega)),rfl⟩
theorem Zd9 (n:Nat) (w:Yh) :
  Calls Tryz.prog 41 #[.int .u8 n] w (ZeI w (.bool (ZfU n))):=by
 unfold ZfU;go_enter Tryz.func41,Tryz.ntmps41;go_wp2_with fail
 all_goals
  go_ret
  exact⟨Zb2 (by
   rw[Bool.eq_iff_iff];simp only[Bool.and_eq_true,decide_eq_true_eq]
   first|omega|(simp;omega)),rfl⟩
theorem Zsn (n:Nat) (w:Yh) :
  Calls Tryz.prog 100 #[.int .u8 n] w (ZeI w (.bool (Zf0 n||ZfU n))):=by
 have b:=fun w=>ZiM n w;have a:=fun w=>Zow n w;generalize Zf0 n=L at *;generalize ZfU n=D at *;cases L
 all_goals
  go_enter Tryz.func100,Tryz.ntmps100
  go_wp2_with (first
   |(go_at_call 98;go_fit (b _);rintro e c ⟨rfl,rfl⟩)
   |(go_at_call 122;go_fit (a _);rintro e c ⟨rfl,rfl⟩))
  go_ret;exact⟨rfl,rfl⟩
theorem ZrD (c:UInt8):(Zf0 c.toNat||ZfU c.toNat)=Za3 c:=rfl
theorem Ze1 (c:UInt8):ZfU c.toNat=Zbt c:=rfl
theorem ZfW (c:UInt8):Zf0 c.toNat=ZbT c:=rfl
theorem Zmm (c d:UInt8):decide (c.toNat=d.toNat)=(c==d):=by rw[Bool.eq_iff_iff];simp[UInt8.toNat_inj]
theorem ZkK {c:UInt8} (h:Za3 c=true):ZbT c=true\/(ZbT c=false/\Zbt c=true):=by have e:Za3 c=(ZbT c||Zbt c):=rfl;rw[e]at h;generalize ZbT c=a at *;generalize Zbt c=b at *;clear e;revert h;revert a b;decide
theorem ZoT {c:UInt8} (h:Za3 c=false):ZbT c=false/\Zbt c=false:=by have e:Za3 c=(ZbT c||Zbt c):=rfl;rw[e]at h;generalize ZbT c=a at *;generalize Zbt c=b at *;clear e;revert h;revert a b;decide
theorem ZrU (s:ByteArray) (w:Yh) (u:s.size<=maxLen) :
  Calls Tryz.prog 99 #[.string s,.func (.func 100) #[] #[]] w (ZeI w (.int .i64 (Zav Za3 s.data.toList))):=by
 unfold maxLen at u;obtain⟨z,j⟩:∃z,z=Zav Za3 s.data.toList:=⟨_,rfl⟩
 rw[<-j];have t:=zh j;clear j;go_enter Tryz.func99,Tryz.ntmps99;go_wp2_with fail;go_loopg [5] s.size (fun g v5 wr=>∃k:Nat,v5=.int .i64 k/\k<=s.size/\g=s.size-k/\z=k+Zav Za3 (s.data.toList.drop k)/\wr=w)
 case atStart=>exact⟨0,rfl,Nat.zero_le _,rfl,by rw[t.out];simp,rfl⟩
 case round=>
  obtain⟨k,rfl,hk,h,a,rfl⟩:=hrel;have c:=zh a;clear a;by_cases b:k<s.size
  ·have d:=fun w=>Zsn s[k].toNat w;have n:=ZrD s[k];have f:=byte_at b;have o:=zh (fun i=>Zf8 (p:=Za3) f i);have r:=zh (fun i=>ZdB (p:=Za3) f i);rw[n]at d;have y:(k:Int)<(s.size:Int):=by omega
   have i2:(0:Int)<=(k:Int):=by omega
   have A:IntKind.i64.wrap ((k:Int)+1)=(k:Int)+1:=IntWalk.i64_in _ (by omega);have l:=zh d;have m:=zh (zi b h);clear d n f h;generalize Za3 s[k]=R at *;cases R
   ·go_wp2_with (go_at_call 100;go_fit (l.out _);rintro e v ⟨rfl,rfl⟩);go_ret;exact⟨ZmD (by have:=c.out;rw[o.out trivial]at this;omega),rfl⟩
   ·go_wp2_with (go_at_call 100;go_fit (l.out _);rintro e v ⟨rfl,rfl⟩);go_roundg (s.size-(k+1))
    case measure=>have:=m.out;omega
    case rel=>exact⟨k+1,by push_cast;rfl,by have:=m.out;omega,rfl,by have:=c.out;rw[r.out trivial]at this;omega,rfl⟩
  ·obtain rfl:k=s.size:=by omega
   have q:=zh (Zfl (p:=Za3) (Nat.le_of_eq (Zdg s)));clear h hk b;go_wp2_with fail;go_ret;exact⟨ZmD (by have:=c.out;rw[q.out]at this;omega),rfl⟩
def inL (n:Nat) (l:List UInt8):Bool:=l.any fun c=>decide (c.toNat=n)
theorem ZoM (n:Nat) (s:ByteArray) (w:Yh) (m:s.size<=maxLen) :
  Calls Tryz.prog 39 #[.int .u8 n,.string s] w (ZeI w (.bool (inL n s.data.toList))):=by
 unfold maxLen at m;obtain⟨z,f⟩:∃z,z=inL n s.data.toList:=⟨_,rfl⟩
 rw[<-f];have j:=zh f;clear f;go_enter Tryz.func39,Tryz.ntmps39;go_wp2_with fail;go_loopg [5] s.size (fun g v5 wr=>∃k:Nat,v5=.int .i64 k/\k<=s.size/\g=s.size-k/\z=inL n (s.data.toList.drop k)/\wr=w)
 case atStart=>exact⟨0,rfl,Nat.zero_le _,rfl,by rw[j.out];simp,rfl⟩
 case round=>
  obtain⟨k,rfl,hk,d,a,rfl⟩:=hrel;by_cases b:k<s.size
  ·have a:z=(decide (s[k].toNat=n)||inL n (s.data.toList.drop (k+1))):=by rw[a,ZeA (byte_at b)];rfl
   have c:=zh a;clear a;have o:(k:Int)<(s.size:Int):=by omega
   have i2:(0:Int)<=(k:Int):=by omega
   have p:IntKind.i64.wrap ((k:Int)+1)=(k:Int)+1:=IntWalk.i64_in _ (by omega);have h:=zh (zi b d);clear d;by_cases hc:s[k].toNat=n
   ·go_wp2_with fail;go_ret;exact⟨Zb2 (by rw[c.out,decide_eq_true hc];rfl),rfl⟩
   ·have l:((s[k].toNat:Int)==(n:Int))=false:=by simpa using fun e=>hc (by omega)
    have i:=zh hc;clear hc;go_wp2_with fail;go_roundg (s.size-(k+1))
    case measure=>have:=h.out;omega
    case rel=>exact⟨k+1,by push_cast;rfl,by have:=h.out;omega,rfl,by rw[c.out,decide_eq_false i.out];rfl,rfl⟩
  ·obtain rfl:k=s.size:=by omega
   rw[Zh9 (Nat.le_refl _)]at a;have c:=zh a;clear d hk b a;go_wp2_with fail;go_ret;exact⟨Zb2 (by rw[c.out];rfl),rfl⟩
def Zjq {H:Type} (l:List (List UInt8)):DataW H:=.agg (l.map fun z=>.lit (.string z))
def ZaP (w:Yh) (g:Nat) (l:List (List UInt8)):Prop:=∃t a,w.heap[g]? = Ya (.cells (l.map txt).toArray t a)
theorem ZaP.below {w w':Yh} {g:Nat} {l:List (List UInt8)} (h:ZaP w g l) (b:Below w.heap.size w w'):ZaP w' g l:=by
 obtain⟨t,a,e⟩:=h;have c:g<w.heap.size:=by
  rcases Nat.lt_or_ge g w.heap.size with q|q
  ·exact q
  ·rw[Array.getElem?_eq_none q]at e;cases e
 exact⟨t,a,(b.block g c).trans e⟩
theorem Zj3 {H:Type} {enc:TypeId×Value->H} {P:Program} {w:Yh} {c:Nat} {B:Nat->Bool} {d:Bool} {a:Nat} {t e:TypeId} {n:Nat} {cs:List Value} {zs:List (List UInt8)} {p:List MemPlace}
  (v:P.underlying t=Ya (.array n e)) (r:P.underlying e=Ya .string) (j:P.cellsOf e=1) (k:P.cellsOf t=n)
  (h:DataW.trod enc P w c B d a t cs=Ya (Zjq zs,p)):cs=zs.map txt:=by
 cases a with
 |zero=>simp[DataW.trod]at h
 |succ a=>
  simp only[DataW.trod,v,j,k,Nat.mul_one]at h
  split at h
  ·rename_i C
   obtain⟨m,hm,hx⟩:=Option.map_eq_some_iff.1 h;have f:m.map (·.1)=zs.map fun z=>(DataW.lit (.string z):DataW H):=by have:=congrArg Prod.fst hx;simpa[Zjq]using this
   have y:m.length=n:=by simpa using Lib.mapM_length hm
   have A:zs.length=n:=by have:=congrArg List.length f;simp at this;omega
   apply List.ext_getElem?;intro i;by_cases u:i<n
   ·obtain⟨b,q,s⟩:=Lib.mapM_at hm i i (by simp[u]);obtain⟨z,hc,rfl,_⟩:=DataW.trod_string r s;have o:cs[i]? = Ya (.string z):=by have:=congrArg (·[0]?) hc;simpa[List.getElem?_take,List.getElem?_drop]using this
    have g:(m.map (·.1))[i]? = Ya (DataW.lit (.string z.data.toList):DataW H):=by simp[q]
    rw[f]at g;simp only[List.getElem?_map,Option.map_eq_some_iff,DataW.lit.injEq,Lit.string.injEq]at g;obtain⟨D,l,rfl⟩:=g;simp[o,l,txt]
   ·rw[List.getElem?_eq_none (by omega),List.getElem?_eq_none (by simp;omega)]
  ·cases h
theorem ZeT {P:Program} {W:Yh} {b:String} {zs:List (List UInt8)} {rest:List (String×DataW Unit)} {g:Nat} {t e:TypeId} {n:Nat}
  (m:P.globalNamed b=Ya g) (k:(P.globals[g]?).map (·.type)=Ya t) (u:P.underlying t=Ya (.array n e)) (r:P.underlying e=Ya .string) (d:P.cellsOf e=1) (f:P.cellsOf t=n)
  (h:laidMet P ((b,Zjq zs)::rest) W):ZaP W g zs:=by
 obtain⟨z,⟨y,A,w,l,p,q,i,j,a,hd,_,_⟩,_⟩:=h;obtain rfl:=Option.some.inj (m.symm.trans i);obtain rfl:=Option.some.inj (k.symm.trans j);have hc:=Zj3 u r d f hd;simp only[World.var?,m,Option.bind_some]at a
 split at a
 ·rename_i c v o s
  have a:=Option.some.inj a;subst a;exact⟨v,o,by rw[s,<-hc]⟩
 ·cases a
def ZI:List (List UInt8):=[[112,114,111,116,111],[115,116,97,116,101],[102,105,110,97,108],[111,112],[102,110],[108,101,97,115,116],[97,116],[116,111],[105,110],[108,101,116],[111,112,101,110],[101,108,115,101],[100,111],[115,112,108,105,116],[99,97,108,108],[105,102],[119,104,105,108,101],[114,101,116,117,114,110],[101,120,105,116],[117,110,105,113,117,101],[102,117,108,108],[115,104,97,114,101],[105,109,109],[112,117,114,101]]
theorem Tryz.gKeys:Tryz.prog.globalNamed "ballcock/lex.keywords"=Ya 3:=by kernel_rfl
theorem Tryz.gKeysType:(Tryz.prog.globals[3]?).map (·.type)=Ya 127:=by kernel_rfl
theorem Tryz.cellsS:Tryz.prog.cellsOf 9=1:=by kernel_rfl
end Go.Proofs.YtdkegpkfjgloeaaGreatDoor
