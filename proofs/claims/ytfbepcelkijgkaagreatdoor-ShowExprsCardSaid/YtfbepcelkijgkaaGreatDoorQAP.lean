import Derived.Lib.ItoaLen
import Derived.Test.YtfbepcelkijgkaaGreatDoorQAD
import Derived.Test.YtfbepcelkijgkaaGreatDoorQAO
set_option maxRecDepth 100000
set_option maxHeartbeats 8000000
namespace Go.Proofs.YtfbepcelkijgkaaGreatDoor
section
def runT:UInt8->Txt->Option UInt8
 |p,[]=>some p
 |p,c::r=>if c=9\/127<=c\/(c=10/\(p=32\/p=10))then none else runT c r
theorem ZgP:∀(a b:Txt) (p:UInt8),runT p (a++b)=(runT p a).bind fun q=>runT q b
 |[],_,_=>rfl
 |c::r,b,p=>by
  rw[List.cons_append,runT,runT]
  split
  ·rfl
  ·exact ZgP r b c
def Any (x:Txt):Prop:=∀p,∃q,runT p x=some q
def Ends (x:Txt):Prop:=∀p,∃q,runT p x=some q/\33<=q
theorem Ends.any {x:Txt} (h:Ends x):Any x:=fun p=>by
 obtain⟨q,h,_⟩:=h p;exact⟨q,h⟩
theorem any_nil:Any []:=fun p=>⟨p,rfl⟩
theorem Any.app {x y:Txt} (h:Any x) (k:Any y):Any (x++y):=fun p=>by
 obtain⟨q,h⟩:=h p;obtain⟨r,k⟩:=k q;exact⟨r,by rw[ZgP,h];exact k⟩
theorem Any.ends {x y:Txt} (h:Any x) (k:Ends y):Ends (x++y):=fun p=>by
 obtain⟨q,h⟩:=h p;obtain⟨r,k,v⟩:=k q;exact⟨r,by rw[ZgP,h];exact k,v⟩
theorem Ends.line {x:Txt} (h:Ends x):Any (x++[10]):=fun p=>by
 obtain⟨q,h,v⟩:=h p;refine⟨10,?_⟩;rw[ZgP,h];show runT q [10]=some 10;have a:q≠32:=fun e=>by rw[e]at v;exact absurd v (by decide)
 have b:q≠10:=fun e=>by rw[e]at v;exact absurd v (by decide)
 simp[runT,a,b]
def ZiJ (c:UInt8):Bool:=decide (32<=c)&&decide (c<127)
def Words (ns:List Nd):Prop:=∀n∈ns,∀w∈n.words,w.all ZiJ=true
end
section
open Go.RowKit
theorem ZoI {c:UInt8} (h:ZaW c=true):ZiJ c=true:=by
 have a:∀k:Fin 256,ZaW (UInt8.ofNat k.val)=true->ZiJ (UInt8.ofNat k.val)=true:=by decide +kernel
 have:=a ⟨c.toNat,c.toNat_lt⟩;simp only[UInt8.ofNat_toNat]at this;exact this h
theorem Zij {f:UInt8->Bool}:∀(l:List UInt8),Zaq f l=l.length->l.all f=true
 |[],_=>rfl
 |c::r,h=>by
  unfold Zaq at h;rw[List.all_cons];cases hc:f c
  ·simp[hc]at h
  ·simp[hc]at h⊢;simpa using Zij r h
theorem Znf {w:Txt} (h:ZQ w=true):w.all ZiJ=true/\w.length<=16:=by unfold ZQ at h;simp only[Bool.and_eq_true,decide_eq_true_eq]at h;obtain⟨⟨⟨_,a⟩,b⟩,_⟩:=h;refine⟨List.all_eq_true.mpr fun c hc=>ZoI (List.all_eq_true.mp (Zij _ b) c hc),a⟩
end
section
open Go.RowKit
def szN (ns:List Nd):Nat->Nd->Nat
 |0,_=>1
 |g+1,n=>1+(n.kids.map fun k=>szN ns g (Zf ns k)).sum
theorem Zpz (ns:List Nd):∀g k,(ZdR ns g k).length=szN ns g (Zf ns k)
 |0,k=>by rw[ZdR,szN];rfl
 |g+1,k=>by
  rw[ZdR,szN,Yk,List.length_flatMap];have e:((Zf ns k).kids.map fun a=>(ZdR ns g a).length)=(Zf ns k).kids.map fun k=>szN ns g (Zf ns k):=List.map_congr_left fun a _=>Zpz ns g a;rw[e];omega
def WF (n:Nd):Prop:=(∀w∈n.words,w.length<=16)/\n.words.length<=1000/\∀x∈n.nums,Zbp x
theorem Zsg:WF nd0:=⟨(fun w a=>nomatch a),by decide,(fun w a=>nomatch a)⟩
theorem ZqI {n:Nd} (h:WF n) (k:Nat):(word n k).length<=16:=by
 unfold word;cases e:n.words[k]? with
 |none=>simp
 |some w=>exact h.1 w (List.mem_of_getElem? e)
theorem Zq5 {n:Nd} (h:WF n) (k:Nat):(ZbE (num n k)).length<=21:=by
 have:Zbp (num n k):=by
  unfold num;cases e:n.nums[k]? with
  |none=>exact⟨by decide,by decide⟩
  |some x=>exact h.2.2 x (List.mem_of_getElem? e)
 unfold Zbp at this;exact Lib.itoa_length_le _ (by omega) (by omega)
theorem Zqq (k:Int):(ZbZ k).length<=4:=by unfold ZbZ;repeat' split<;>try decide
section
variable {ns:List Nd} (hw:∀k,WF (Zf ns k))
include hw
theorem Zkv:∀(f g:Nat) (n:Nd),WF n->ZV ns f n->f<=g->(ZH ns f n).length+100<=50000*szN ns g n
 |0,_,_,_,h,_=>h.elim
 |f+1,g,n,hn,h,hg=>by
  obtain⟨g,rfl⟩:∃v,g=v+1:=⟨g-1,by omega⟩
  have t:∀(m:Nd) (l:Nat),WF m->ZV ns f m->(if l<=Zz m then ZH ns f m else [40]++ZH ns f m++[41]).length+90<=50000*szN ns g m:=fun m l hm hx=>by
   have:=Zkv f g m hm hx (by omega)
   split
   ·omega
   ·simp only[Yj,Yk,Yl];omega
  obtain⟨_,⟨hk,_⟩|⟨hk,_⟩|⟨hk,k,c,p,q⟩|⟨hk,j,k,c,z,q,d,p,s⟩⟩:=h
  ·have e:ZH ns (f+1) n=ZbE (num n 0):=by simp[ZH,hk]
   have:=Zq5 hn 0;rw[e,szN];omega
  ·have e:ZH ns (f+1) n=word n 0:=by simp[ZH,hk]
   have:=ZqI hn 0;rw[e,szN];omega
  ·obtain⟨r,i⟩:∃r,n.kids=(k:Int)::r:=by
    cases hks:n.kids with
    |nil=>rw[hks]at c;simp at c
    |cons a r=>rw[hks]at c;simp at c;exact⟨r,by rw[c]⟩
   have e:ZH ns (f+1) n=[45]++(if 3<=Zz (Zf ns k)then ZH ns f (Zf ns k)else [40]++ZH ns f (Zf ns k)++[41]):=by
    have o:Zaa ns n 0=Zf ns k:=by unfold Zaa atI;rw[i];rfl
    simp[ZH,hk,o]
   have:=t _ 3 (hw k) q;rw[e,szN,i];simp only[List.map_cons,List.sum_cons,Yj,Yk,Yl]at this⊢;omega
  ·obtain⟨r,i⟩:∃r,n.kids=(j:Int)::(k:Int)::r:=by
    match hks:n.kids with
    |[]=>rw[hks]at c;simp at c
    |[a]=>rw[hks]at d;simp at d
    |a::b::r=>rw[hks]at c d;simp at c d;exact⟨r,by rw[c,d]⟩
   have e:ZH ns (f+1) n=(if max (Zz n) 1<=Zz (Zf ns j)then ZH ns f (Zf ns j)else [40]++ZH ns f (Zf ns j)++[41])++ZbZ (num n 0)++(if Zz n+1<=Zz (Zf ns k)then ZH ns f (Zf ns k)else [40]++ZH ns f (Zf ns k)++[41]):=by
    have o:Zaa ns n 0=Zf ns j:=by unfold Zaa atI;rw[i];rfl
    have u:Zaa ns n 1=Zf ns k:=by unfold Zaa atI;rw[i];rfl
    simp[ZH,hk,o,u]
   have w:=t _ (max (Zz n) 1) (hw j) q;have y:=t _ (Zz n+1) (hw k) s;have A:=Zqq (num n 0);rw[e,szN,i];simp only[List.map_cons,List.sum_cons,Yj]at w y⊢;omega
end
theorem ZqH {ns:List Nd} (R:RightP ns) (c:∀d∈ns,d.words.length<=1000) (k:Int):WF (Zf ns k):=by
 unfold Zf;cases e:ns[k.toNat]? with
 |none=>exact Zsg
 |some n=>
  obtain⟨a,b,_⟩:=R.node _ n e;exact⟨fun w f=>(Znf (List.all_eq_true.mp a w f)).2,c n (List.mem_of_getElem? e),fun x hx=>Zbn b hx⟩
end
end Go.Proofs.YtfbepcelkijgkaaGreatDoor
