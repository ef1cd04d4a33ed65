
set_option maxRecDepth 100000
set_option maxHeartbeats 8000000
open Option renaming some → Ya
namespace Go.Proofs.YtfbepcelkijgkaaGreatDoor
section
def Zf8 (n:Nat):Bool:=(decide (65<=n)&&decide (n<=90))||(decide (97<=n)&&decide (n<=122))||decide (n=95)
def Zfx (n:Nat):Bool:=decide (48<=n)&&decide (n<=57)
def ZbP (c:UInt8):Bool:=Zf8 c.toNat
def ZaU (c:UInt8):Bool:=Zfx c.toNat
def Za2 (c:UInt8):Bool:=Zf8 c.toNat||Zfx c.toNat
def ZdX (c:UInt8):Bool:=c==32||c==9||c==10||c==13
def Zc7 (c:UInt8):Bool:=!(c==10)
def Zao (p:UInt8->Bool) (l:List UInt8):Nat:=(l.takeWhile p).length
theorem Zpy (p:UInt8->Bool):Zao p []=0:=rfl
theorem ZcF (p:UInt8->Bool) (c:UInt8) (r:List UInt8):Zao p (c::r)=if p c then Zao p r+1 else 0:=by
 unfold Zao;rw[List.takeWhile_cons]
 split<;>simp
theorem Ze9 (p:UInt8->Bool):∀l:List UInt8,Zao p l<=l.length
 |[]=>Nat.le_refl _
 |c::r=>by
  have:=Ze9 p r;rw[ZcF,List.length_cons]
  split<;>omega
theorem ZeC {l:List UInt8} {k:Nat} {c:UInt8} (h:l[k]? = Ya c):l.drop k=c::l.drop (k+1):=by obtain⟨hk,rfl⟩:=List.getElem?_eq_some_iff.1 h;exact List.drop_eq_getElem_cons hk
theorem ZdC {p:UInt8->Bool} {l:List UInt8} {k:Nat} {c:UInt8} (h:l[k]? = Ya c) (a:p c=true):Zao p (l.drop k)=Zao p (l.drop (k+1))+1:=by rw[ZeC h,ZcF,if_pos a]
theorem Zgg {p:UInt8->Bool} {l:List UInt8} {k:Nat} {c:UInt8} (h:l[k]? = Ya c) (a:p c=false):Zao p (l.drop k)=0:=by rw[ZeC h,ZcF,if_neg (by simp[a])]
theorem Zfs {p:UInt8->Bool} {l:List UInt8} {k:Nat} (h:l.length<=k):Zao p (l.drop k)=0:=by rw[List.drop_eq_nil_of_le h];rfl
def ZO:List UInt8->Nat
 |[]=>0
 |c::r=>if ZdX c then ZO r+1 else if c==35 then 1+Zao Zc7 r+ZO (r.drop (Zao Zc7 r))else 0
termination_by l=>l.length
decreasing_by all_goals (simp only[List.length_drop,List.length_cons];omega)
theorem ZlF:ZO []=0:=by rw[ZO]
theorem ZlD {c:UInt8} {r:List UInt8} (h:ZdX c=true):ZO (c::r)=ZO r+1:=by rw[ZO,if_pos h]
theorem ZlE {r:List UInt8}:ZO (35::r)=1+Zao Zc7 r+ZO (r.drop (Zao Zc7 r)):=by rw[ZO,if_neg (by decide),if_pos (by decide)]
theorem ZgM {c:UInt8} {r:List UInt8} (h:ZdX c=false) (a:(c==35)=false):ZO (c::r)=0:=by rw[ZO,if_neg (by simp[h]),if_neg (by simp[a])]
theorem ZfE (l:List UInt8):ZO l<=l.length:=by
 fun_induction ZO l with
 |case1=>exact Nat.le_refl _
 |case2 c r h a=>rw[List.length_cons];omega
 |case3 c r h b a=>rw[List.length_drop]at a;have:=Ze9 Zc7 r;rw[List.length_cons];omega
 |case4 c r h b=>exact Nat.zero_le _
def Zls:List (List UInt8):=[[61,61],[45,62],[123],[125],[40],[41],[59],[44],[46],[58],[61],[60],[43],[45],[42],[47],[124],[38]]
def Zb8:List UInt8:=[123,125,40,41,59,44,46,58,61,60,43,45,42,47,124,38]
def ZfM (l:List UInt8):Option Nat:=(Zls.find? fun g=>g.isPrefixOf l).map (·.length)
def ZaJ:List UInt8->Nat×Nat×Bool
 |[]=>(3,0,true)
 |c::r=>
  if ZbP c then(0,Zao Za2 (c::r),true)
  else if ZaU c then(1,Zao ZaU (c::r),decide (Zao ZaU (c::r)<=18))
  else match ZfM (c::r)with
   |some n=>(2,n,true)
   |none=>(0,0,false)
theorem ZbQ (c:UInt8) (r:List UInt8):ZaJ (c::r)=if ZbP c then(0,Zao Za2 (c::r),true)else if ZaU c then(1,Zao ZaU (c::r),decide (Zao ZaU (c::r)<=18))else match ZfM (c::r)with
   |some n=>(2,n,true)
   |none=>(0,0,false):=rfl
theorem Zpv:∀g∈Zls,1<=g.length/\g.length<=2:=by decide
theorem Zpu {l:List UInt8} {n:Nat} (h:ZfM l=Ya n):1<=n/\n<=l.length:=by unfold ZfM at h;obtain⟨g,a,rfl⟩:=Option.map_eq_some_iff.1 h;refine⟨(Zpv g (List.mem_of_find?_eq_some a)).1,?_⟩;have:=List.find?_some a;exact(List.isPrefixOf_iff_prefix.1 this).length_le
theorem Zk6 {c:UInt8} (h:ZbP c=true):Za2 c=true:=by unfold ZbP at h;unfold Za2;rw[h];rfl
theorem ZgW {c:UInt8} {r:List UInt8} (h:(ZaJ (c::r)).2.2=true):1<=(ZaJ (c::r)).2.1:=by
 rw[ZbQ]at h⊢
 split
 ·rename_i g
  show 1<=Zao Za2 (c::r);rw[ZcF,if_pos (Zk6 g)];omega
 ·split
  ·rename_i g
   show 1<=Zao ZaU (c::r);rw[ZcF,if_pos g];omega
  ·rename_i a b
   rw[if_neg a,if_neg b]at h
   split
   ·rename_i n hn
    exact(Zpu hn).1
   ·rename_i hn
    rw[hn]at h;cases h
abbrev Tok:=Nat×List UInt8×Nat
inductive LexAns where
 |bad (at_:Nat)
 |ok (l:List Tok)
def LexAns.push (t:Tok):LexAns->LexAns
 |.bad a=>.bad a
 |.ok l=>.ok (t::l)
def LexAns.pre (ts:List Tok):LexAns->LexAns
 |.bad a=>.bad a
 |.ok l=>.ok (ts++l)
theorem LexAns.pre_nil (x:LexAns):x.pre []=x:=by cases x<;>rfl
theorem LexAns.pre_push (ts:List Tok) (t:Tok) (x:LexAns):(x.push t).pre ts=x.pre (ts++[t]):=by cases x<;>simp[LexAns.pre,LexAns.push]
def Zbv (l:List UInt8) (a:Nat):LexAns:=
 if _h:ZO l<l.length then
  if _h2:(ZaJ (l.drop (ZO l))).2.2=true then
   (Zbv ((l.drop (ZO l)).drop (ZaJ (l.drop (ZO l))).2.1) (a+ZO l+(ZaJ (l.drop (ZO l))).2.1)).push ((ZaJ (l.drop (ZO l))).1,(l.drop (ZO l)).take (ZaJ (l.drop (ZO l))).2.1,a+ZO l)
  else .bad (a+ZO l)
 else .ok [(3,[],a+l.length)]
termination_by l.length
decreasing_by
 have e:1<=(ZaJ (l.drop (ZO l))).2.1:=by
  cases q:l.drop (ZO l)with
  |nil=>have:=List.length_drop (i:=ZO l) (l:=l);rw[q]at this;simp at this;omega
  |cons c r=>rw[q]at _h2;exact ZgW _h2
 rw[List.length_drop,List.length_drop];omega
theorem Zga {l:List UInt8} {a:Nat} (h:ZO l=l.length):Zbv l a=.ok [(3,[],a+l.length)]:=by rw[Zbv,dif_neg (by omega)]
theorem Zg0 (a:Nat):Zbv [] a=.ok [(3,[],a)]:=by rw[Zga (by rw[ZlF];rfl)];rfl
theorem Ze6 {l:List UInt8} {a:Nat} {c:UInt8} {r:List UInt8} (h:l.drop (ZO l)=c::r) (b:(ZaJ (c::r)).2.2=true) :
  Zbv l a=(Zbv ((c::r).drop (ZaJ (c::r)).2.1) (a+ZO l+(ZaJ (c::r)).2.1)).push ((ZaJ (c::r)).1,(c::r).take (ZaJ (c::r)).2.1,a+ZO l):=by
 have d:ZO l<l.length:=by have:=List.length_drop (i:=ZO l) (l:=l);rw[h,List.length_cons]at this;omega
 rw[Zbv,dif_pos d,h,dif_pos b]
theorem Zf9 {l:List UInt8} {a:Nat} {c:UInt8} {r:List UInt8} (h:l.drop (ZO l)=c::r) (b:(ZaJ (c::r)).2.2=false):Zbv l a=.bad (a+ZO l):=by
 have d:ZO l<l.length:=by have:=List.length_drop (i:=ZO l) (l:=l);rw[h,List.length_cons]at this;omega
 rw[Zbv,dif_pos d,h,dif_neg (by simp[b])]
theorem ZjU {l m:List UInt8} {a k:Nat} (hd:l.drop k=m) (hk:k<=l.length) (b:ZO l=k+ZO m):Zbv l a=Zbv m (a+k):=by
 have e:l.drop (ZO l)=m.drop (ZO m):=by rw[b,<-hd,List.drop_drop]
 have d:m.length=l.length-k:=by rw[<-hd,List.length_drop]
 have j:=ZfE l;cases q:m.drop (ZO m)with
 |nil=>
  have h:ZO m=m.length:=by have:=List.length_drop (i:=ZO m) (l:=m);have:=ZfE m;rw[q]at *;simp at *;omega
  rw[Zga (l:=m) h,Zga (l:=l) (by omega)]
  congr 4
  omega
 |cons c r=>
  have g:l.drop (ZO l)=c::r:=e.trans q;cases f:(ZaJ (c::r)).2.2 with
  |true=>
   rw[Ze6 g f,Ze6 q f,b];simp only[Nat.add_assoc]
  |false=>
   rw[Zf9 g f,Zf9 q f,b];simp only[Nat.add_assoc]
theorem Zk7 {c:UInt8} {r:List UInt8} {a:Nat} (h:ZdX c=true):Zbv (c::r) a=Zbv r (a+1):=
 ZjU rfl (by simp) (by rw[ZlD h];omega)
theorem Zqi {r:List UInt8} {a:Nat}:Zbv (35::r) a=Zbv (r.drop (Zao Zc7 r)) (a+(Zao Zc7 r+1)):=by refine ZjU (by rw[List.drop_succ_cons]) (by have:=Ze9 Zc7 r;simp;omega) ?_;rw[ZlE];omega
theorem ZoR {c:UInt8} {r:List UInt8} {a:Nat} (h:ZdX c=false) (b:(c==35)=false) (d:(ZaJ (c::r)).2.2=true) :
  Zbv (c::r) a=(Zbv ((c::r).drop (ZaJ (c::r)).2.1) (a+(ZaJ (c::r)).2.1)).push ((ZaJ (c::r)).1,(c::r).take (ZaJ (c::r)).2.1,a):=by
 have e:=ZgM (r:=r) h b;have:=Ze6 (l:=c::r) (a:=a) (by rw[e];rfl) d;rw[e]at this;simpa using this
theorem Znu {c:UInt8} {r:List UInt8} {a:Nat} (h:ZdX c=false) (b:(c==35)=false) (d:(ZaJ (c::r)).2.2=false):Zbv (c::r) a=.bad a:=by have e:=ZgM (r:=r) h b;have:=Zf9 (l:=c::r) (a:=a) (by rw[e];rfl) d;rw[e]at this;simpa using this
theorem Zex (c:UInt8) (r:List UInt8):ZfM (c::r)=if(c=61/\r.head? = Ya 61)\/(c=45/\r.head? = Ya 62)then Ya 2 else if c∈Zb8 then Ya 1 else none:=by
 have k:∀x:UInt8,List.isPrefixOf [x] (c::r)=(x==c):=fun x=>by simp[List.isPrefixOf]
 have l:∀x y:UInt8,List.isPrefixOf [x,y] (c::r)=(x==c&&r.head? == Ya y):=fun x y=>by
  cases r with
  |nil=>simp[List.isPrefixOf]
  |cons z r=>simp[List.isPrefixOf,Bool.beq_eq_decide_eq,eq_comm]
 unfold ZfM Zls;simp only[List.find?_cons,k,l,List.find?_nil];by_cases h:(c=61/\r.head? = Ya 61)\/(c=45/\r.head? = Ya 62)
 ·rw[if_pos h];rcases h with⟨rfl,h⟩|⟨rfl,h⟩<;>simp[h]
 ·rw[if_neg h];by_cases hm:c∈Zb8
  ·rw[if_pos hm];simp only[Zb8,List.mem_cons,List.not_mem_nil,or_false]at hm;rcases hm with rfl|rfl|rfl|rfl|rfl|rfl|rfl|rfl|rfl|rfl|rfl|rfl|rfl|rfl|rfl|rfl<;>simp at h⊢<;>rw[beq_eq_false_iff_ne.2 h]<;>simp
  ·rw[if_neg hm];simp only[Zb8,List.mem_cons,List.not_mem_nil,or_false,not_or]at hm;have:∀x:UInt8,¬c=x->(x==c)=false:=fun x hx=>by simpa using fun e=>hx e.symm
   obtain⟨m,n,o,p,q,s,t,u,v,a,b,d,f,g,i,j⟩:=hm;simp[this _ m,this _ n,this _ o,this _ p,this _ q,this _ s,this _ t,this _ u,this _ v,this _ a,this _ b,this _ d,this _ f,this _ g,this _ i,this _ j]
end
section
theorem ZhN {p:UInt8->Bool} {c:UInt8} (h:p c=false) (b:List UInt8):∀m:List UInt8,Zao p (m++c::b)=Zao p m
 |[]=>by rw[List.nil_append,ZcF,if_neg (by simp[h]),Zpy]
 |d::r=>by rw[List.cons_append,ZcF,ZcF,ZhN h b r]
def LexAns.join (y:LexAns):LexAns->LexAns
 |.bad a=>.bad a
 |.ok l=>y.pre l.dropLast
end
section
theorem Znk {x:UInt8} (a:Za2 x=false) (f:ZaU x=false) (g:x≠61) (h:x≠62) (b:List UInt8) (c:UInt8) (r:List UInt8):ZaJ (c::r++x::b)=ZaJ (c::r):=by
 have e:c::r++x::b=c::(r++x::b):=rfl;have i:Zao Za2 (c::(r++x::b))=Zao Za2 (c::r):=by rw[<-e];exact ZhN a b (c::r)
 have j:Zao ZaU (c::(r++x::b))=Zao ZaU (c::r):=by rw[<-e];exact ZhN f b (c::r)
 have k:ZfM (c::(r++x::b))=ZfM (c::r):=by
  rw[Zex,Zex];cases r with
  |nil=>simp[g,h]
  |cons d r=>rfl
 rw[e,ZbQ,ZbQ,i,j,k]
theorem Zn5 {c:UInt8} (r:List UInt8) (a:c≠61) (b:c≠45) (d:c ∉ Zb8):ZfM (c::r)=none:=by rw[Zex,if_neg (by simp[a,b]),if_neg d]
theorem Zox {c:UInt8} (r:List UInt8) (a:ZbP c=false) (b:ZaU c=false) (d:c ∉ Zb8) (e:c≠61) (f:c≠45):(ZaJ (c::r)).2.2=false:=by rw[ZbQ,if_neg (by simp[a]),if_neg (by simp[b]),Zn5 r e f d]
theorem ZkP {c:UInt8} {r:List UInt8} (h:(ZaJ (c::r)).2.2=true):ZdX c=false/\(c==35)=false:=by
 have a:∀d:UInt8,ZbP d=false->ZaU d=false->d ∉ Zb8->d≠61->d≠45->c≠d:=fun d b a2 a3 a4 a5 e=>by
  subst e;rw[Zox r b a2 a3 a4 a5]at h;cases h
 have f:=a 32 (by decide) (by decide) (by decide) (by decide) (by decide);have g:=a 9 (by decide) (by decide) (by decide) (by decide) (by decide);have i:=a 10 (by decide) (by decide) (by decide) (by decide) (by decide);have j:=a 13 (by decide) (by decide) (by decide) (by decide) (by decide);have k:=a 35 (by decide) (by decide) (by decide) (by decide) (by decide);refine⟨?_,by simpa using k⟩;unfold ZdX;simp[f,g,i,j]
end
end Go.Proofs.YtfbepcelkijgkaaGreatDoor
