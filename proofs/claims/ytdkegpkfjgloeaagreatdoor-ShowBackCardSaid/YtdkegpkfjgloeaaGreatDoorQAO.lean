import Derived.Lib.ItoaLen
import Derived.Test.YtdkegpkfjgloeaaGreatDoorQAD
import Derived.Test.YtdkegpkfjgloeaaGreatDoorQAI
set_option maxRecDepth 100000
set_option maxHeartbeats 8000000
namespace Go.Proofs.YtdkegpkfjgloeaaGreatDoor
section
def runT:UInt8->Txt->Option UInt8
 |p,[]=>some p
 |p,c::r=>if c=9\/127<=c\/(c=10/\(p=32\/p=10))then none else runT c r
theorem ZgZ:∀(a b:Txt) (p:UInt8),runT p (a++b)=(runT p a).bind fun q=>runT q b
 |[],_,_=>rfl
 |c::r,b,p=>by
  rw[List.cons_append,runT,runT]
  split
  ·rfl
  ·exact ZgZ r b c
def Any (x:Txt):Prop:=∀p,∃q,runT p x=some q
def Ends (x:Txt):Prop:=∀p,∃q,runT p x=some q/\33<=q
theorem Ends.any {x:Txt} (h:Ends x):Any x:=fun p=>by
 obtain⟨q,h,_⟩:=h p;exact⟨q,h⟩
theorem any_nil:Any []:=fun p=>⟨p,rfl⟩
theorem Any.app {x y:Txt} (h:Any x) (k:Any y):Any (x++y):=fun p=>by
 obtain⟨q,h⟩:=h p;obtain⟨r,k⟩:=k q;exact⟨r,by rw[ZgZ,h];exact k⟩
theorem Any.ends {x y:Txt} (h:Any x) (k:Ends y):Ends (x++y):=fun p=>by
 obtain⟨q,h⟩:=h p;obtain⟨r,k,v⟩:=k q;exact⟨r,by rw[ZgZ,h];exact k,v⟩
theorem Ends.line {x:Txt} (h:Ends x):Any (x++[10]):=fun p=>by
 obtain⟨q,h,v⟩:=h p;refine⟨10,?_⟩;rw[ZgZ,h];show runT q [10]=some 10;have a:q≠32:=fun e=>by rw[e]at v;exact absurd v (by decide)
 have b:q≠10:=fun e=>by rw[e]at v;exact absurd v (by decide)
 simp[runT,a,b]
def ZiQ (c:UInt8):Bool:=decide (32<=c)&&decide (c<127)
def Words (ns:List Nd):Prop:=∀n∈ns,∀w∈n.words,w.all ZiQ=true
end
section
open Go.RowKit
theorem ZoU {c:UInt8} (h:Za3 c=true):ZiQ c=true:=by
 have a:∀k:Fin 256,Za3 (UInt8.ofNat k.val)=true->ZiQ (UInt8.ofNat k.val)=true:=by decide +kernel
 have:=a ⟨c.toNat,c.toNat_lt⟩;simp only[UInt8.ofNat_toNat]at this;exact this h
theorem Zip {f:UInt8->Bool}:∀(l:List UInt8),Zav f l=l.length->l.all f=true
 |[],_=>rfl
 |c::r,h=>by
  unfold Zav at h;rw[List.all_cons];cases hc:f c
  ·simp[hc]at h
  ·simp[hc]at h⊢;simpa using Zip r h
theorem Znn {w:Txt} (h:ZQ w=true):w.all ZiQ=true/\w.length<=16:=by unfold ZQ at h;simp only[Bool.and_eq_true,decide_eq_true_eq]at h;obtain⟨⟨⟨_,a⟩,b⟩,_⟩:=h;refine⟨List.all_eq_true.mpr fun c hc=>ZoU (List.all_eq_true.mp (Zip _ b) c hc),a⟩
end
section
open Go.RowKit
def szN (ns:List Nd):Nat->Nd->Nat
 |0,_=>1
 |g+1,n=>1+(n.kids.map fun k=>szN ns g (Zb ns k)).sum
theorem Zll (ns:List Nd):∀g n,1<=szN ns g n
 |0,_=>Nat.le_refl _
 |g+1,n=>by rw[szN];omega
theorem ZpQ (ns:List Nd):∀g k,(Zd1 ns g k).length=szN ns g (Zb ns k)
 |0,k=>by rw[Zd1,szN];rfl
 |g+1,k=>by
  rw[Zd1,szN,Yk,List.length_flatMap];have e:((Zb ns k).kids.map fun a=>(Zd1 ns g a).length)=(Zb ns k).kids.map fun k=>szN ns g (Zb ns k):=List.map_congr_left fun a _=>ZpQ ns g a;rw[e];omega
theorem Zei:∀(a:List Int) (F G:Int->Nat) (C:Nat),(∀k∈a,F k<=C*G k)->(a.map F).sum<=C*(a.map G).sum
 |[],_,_,C,_=>by simp
 |k::r,F,G,C,h=>by
  have b:=h k (by simp);have c:=Zei r F G C fun x hx=>h x (by simp[hx]);simp only[List.map_cons,List.sum_cons,Nat.mul_add];omega
theorem ZjY (a:List Txt) (s c:Nat) (h:∀x∈a,x.length<=c):(a.map fun x=>x.length+s).sum<=a.length*(c+s):=by
 induction a with
 |nil=>simp
 |cons x r d=>
  have e:=h x (by simp);have f:=d fun y b=>h y (by simp[b]);simp only[List.map_cons,List.sum_cons,Yk,Nat.add_mul];omega
theorem Zmt (d:Nat):(Zc9 d).length=2*d:=by unfold Zc9;rw[List.length_replicate]
theorem ZjF (d:Nat) (a:List Txt):(Zbv d a).length=(a.map fun x=>2*d+x.length+1).sum:=by
 unfold Zbv;rw[List.length_flatten,List.map_map]
 congr 1
 refine List.map_congr_left fun x _=>?_;simp only[Function.comp,Yj,Zmt,Yk,Yl]
theorem ZgG (d:Nat) (a:List Txt):(ZX d a).length<=(a.map fun x=>2*(d+1)+x.length+1).sum+2*d+4:=by
 unfold ZX
 split
 ·simp
 ·simp only[Yj,ZjF,Zmt,Yk,Yl];omega
theorem Ze2 (s:Txt):∀(a:List Txt),(Zap s a).length<=(a.map fun x=>x.length+s.length).sum
 |[]=>by simp[Zap]
 |[x]=>by simp[Zap]
 |x::y::r=>by
  have:=Ze2 s (y::r);rw[Zap];simp only[Yj,List.map_cons,List.sum_cons]at this⊢;omega
def WF (n:Nd):Prop:=(∀w∈n.words,w.length<=16)/\n.words.length<=1000/\∀x∈n.nums,Zbf x
theorem ZsE:WF nd0:=⟨(fun w a=>nomatch a),by decide,(fun w a=>nomatch a)⟩
theorem Zds {n:Nd} (h:WF n) (k:Nat):(word n k).length<=16:=by
 unfold word;cases e:n.words[k]? with
 |none=>simp
 |some w=>exact h.1 w (List.mem_of_getElem? e)
theorem Zi9 {n:Nd} (h:WF n) (k:Nat):(ZbP (num n k)).length<=21:=by
 have:Zbf (num n k):=by
  unfold num;cases e:n.nums[k]? with
  |none=>exact⟨by decide,by decide⟩
  |some x=>exact h.2.2 x (List.mem_of_getElem? e)
 unfold Zbf at this;exact Lib.itoa_length_le _ (by omega) (by omega)
theorem ZkE (k:Int):(ZaH k).length<=6:=by unfold ZaH;repeat' split<;>try decide
theorem ZqP (k:Int):(Zcd k).length<=4:=by unfold Zcd;repeat' split<;>try decide
theorem Zqp (k:Int):(ZcX k).length<=4:=by unfold ZcX;repeat' split<;>try decide
theorem Zo3 {n:Nd} (h:WF n):(Zbl n).length<=17004:=by
 unfold Zbl;have a:=Zqp (num n 0);have b:(Zap [124] n.words).length<=(n.words.map fun x:Txt=>x.length+1).sum:=Ze2 [124] n.words;have c:(n.words.map fun x:Txt=>x.length+1).sum<=n.words.length*(16+1):=ZjY n.words 1 16 h.1;have:=h.2.1;simp only[Yj];have:n.words.length*(16+1)<=17000:=by omega
 omega
theorem Zkw {n:Nd} (h:WF n) (i j:Nat):(Zdd (num n i) (num n j)).length<=43:=by unfold Zdd;have a:=Zi9 h i;have b:=Zi9 h j;simp only[Yj,Yk,Yl];omega
theorem ZjI:∀(l:List Txt),(∀w∈l,w.length<=16)->(Zbb l).length<=l.length/\∀x∈Zbb l,x.length<=33
 |[],_=>⟨by simp[Zbb],fun x hx=>by simp[Zbb]at hx⟩
 |[a],_=>⟨by simp[Zbb],fun x hx=>by simp[Zbb]at hx⟩
 |a::b::r,h=>by
  obtain⟨e,i2⟩:=ZjI r fun w c=>h w (by simp[c]);have ha:=h a (by simp);have d:=h b (by simp);rw[Zbb];refine⟨by simp only[Yk];omega,fun x hx=>?_⟩;rcases List.mem_cons.1 hx with rfl|hx
  ·simp only[Yj,Yk,Yl];omega
  ·exact i2 x hx
theorem ZqF {n:Nd} (h:WF n):(Zcv n).length<=40000:=by
 have i:=Zds h 0;have j:=Zds h 1;obtain⟨b,c⟩:=ZjI (n.words.drop 2) fun w a=>h.1 w (List.mem_of_mem_drop a);have d:(Zap [44,32] (Zbb (n.words.drop 2))).length<=((Zbb (n.words.drop 2)).map fun x:Txt=>x.length+2).sum:=Ze2 [44,32] (Zbb (n.words.drop 2));have e:=ZjY _ 2 33 c;have:=h.2.1;have f:(Zbb (n.words.drop 2)).length<=1000:=by rw[List.length_drop]at b;omega
 have g:(Zbb (n.words.drop 2)).length*(33+2)<=35000:=by omega
 unfold Zcv
 split
 ·simp only[Yj,Yk,Yl];omega
 ·split<;>simp only[Yj,Yk,Yl]<;>omega
section
variable {ns:List Nd} (hw:∀k,WF (Zb ns k))
include hw
theorem Zqt (a:List Int) (g:Nat):(a.map fun k=>(Zbl (Zb ns k)).length).sum<=50000*(a.map fun k=>szN ns g (Zb ns k)).sum:=
 Zei a _ _ _ fun k _=>by
  have:=Zo3 (hw k);have:=Zll ns g (Zb ns k);omega
theorem Zjz (a:List Int) (g:Nat):((a.map fun k=>Zbl (Zb ns k)).flatten).length<=50000*(a.map fun k=>szN ns g (Zb ns k)).sum:=by rw[List.length_flatten,List.map_map];exact Zqt hw a g
theorem ZeY:∀(f g:Nat) (n:Nd),WF n->ZZ ns f n->f<=g->(ZH ns f n).length+100<=50000*szN ns g n
 |0,_,_,_,h,_=>h.elim
 |f+1,g,n,hn,h,hg=>by
  obtain⟨g,rfl⟩:∃t,g=t+1:=⟨g-1,by omega⟩
  have s:∀(m:Nd) (l:Nat),WF m->ZZ ns f m->(if l<=ZD m then ZH ns f m else [40]++ZH ns f m++[41]).length+90<=50000*szN ns g m:=fun m l hm hx=>by
   have:=ZeY f g m hm hx (by omega)
   split
   ·omega
   ·simp only[Yj,Yk,Yl];omega
  obtain⟨_,⟨hk,_⟩|⟨hk,_⟩|⟨hk,k,c,p,hv⟩|⟨hk,j,k,c,w,hv,d,p,q⟩⟩:=h
  ·have e:ZH ns (f+1) n=ZbP (num n 0):=by simp[ZH,hk]
   have:=Zi9 hn 0;rw[e,szN];omega
  ·have e:ZH ns (f+1) n=word n 0:=by simp[ZH,hk]
   have:=Zds hn 0;rw[e,szN];omega
  ·obtain⟨r,i⟩:∃r,n.kids=(k:Int)::r:=by
    cases hks:n.kids with
    |nil=>rw[hks]at c;simp at c
    |cons a r=>rw[hks]at c;simp at c;exact⟨r,by rw[c]⟩
   have e:ZH ns (f+1) n=[45]++(if 3<=ZD (Zb ns k)then ZH ns f (Zb ns k)else [40]++ZH ns f (Zb ns k)++[41]):=by
    have o:Zx ns n 0=Zb ns k:=by unfold Zx atI;rw[i];rfl
    simp[ZH,hk,o]
   have:=s _ 3 (hw k) hv;rw[e,szN,i];simp only[List.map_cons,List.sum_cons,Yj,Yk,Yl]at this⊢;omega
  ·obtain⟨r,i⟩:∃r,n.kids=(j:Int)::(k:Int)::r:=by
    match hks:n.kids with
    |[]=>rw[hks]at c;simp at c
    |[a]=>rw[hks]at d;simp at d
    |a::b::r=>rw[hks]at c d;simp at c d;exact⟨r,by rw[c,d]⟩
   have e:ZH ns (f+1) n=(if max (ZD n) 1<=ZD (Zb ns j)then ZH ns f (Zb ns j)else [40]++ZH ns f (Zb ns j)++[41])++Zcd (num n 0)++(if ZD n+1<=ZD (Zb ns k)then ZH ns f (Zb ns k)else [40]++ZH ns f (Zb ns k)++[41]):=by
    have o:Zx ns n 0=Zb ns j:=by unfold Zx atI;rw[i];rfl
    have e1:Zx ns n 1=Zb ns k:=by unfold Zx atI;rw[i];rfl
    simp[ZH,hk,o,e1]
   have u:=s _ (max (ZD n) 1) (hw j) hv;have v:=s _ (ZD n+1) (hw k) q;have y:=ZqP (num n 0);rw[e,szN,i];simp only[List.map_cons,List.sum_cons,Yj]at u v⊢;omega
theorem Zrj (f g:Nat) (n:Nd) (hn:WF n) (h:Zfx ns f n) (a:f<=g):(Zcz ns f n).length+10<=50000*szN ns g n:=by
 have:=Zds hn 0;have:=Zll ns g n;rcases h with⟨hk,_⟩|⟨hk,hv⟩
 ·unfold Zcz;rw[Yo hk];simp only[Yj,Yk,Yl];omega
 ·unfold Zcz;rw[Yn hk];have:=ZeY hw f g n hn hv a;omega
theorem Zo9 (g:Nat) (n:Nd) (hn:WF n):(Zct ns n).length+10<=50000*szN ns (g+1) n:=by
 have d:=Zds hn 0;have e:=Zds hn 1;have a:=ZkE (num n 0);have b:=Zkw hn 1 2;have c:=Zjz hw n.kids g;unfold Zct;rw[szN]
 split
 ·simp only[Yj,Yl];omega
 ·split<;>simp only[Yj,Yk,Yl]<;>omega
theorem Zju (f g d:Nat) (P:Nd->Prop) (m:Nd) (hm:Zae ns m.kids P) (hd:d<=3100) (h:∀n,WF n->P n->(Zq ns f (d+1) n).length+2*(d+1)+10<=50000*szN ns g n):(ZX d (m.kids.map fun k=>Zq ns f (d+1) (Zb ns k))).length+40000<=50000*szN ns (g+1) m:=by
 have a:=ZgG d (m.kids.map fun k=>Zq ns f (d+1) (Zb ns k));rw[List.map_map]at a
 have b:=Zei m.kids (fun k=>2*(d+1)+(Zq ns f (d+1) (Zb ns k)).length+1) (fun k=>szN ns g (Zb ns k)) 50000 fun k hk=>by
  have:=h _ (hw k) (hm k hk).2.2;omega
 have e:((fun x:Txt=>2*(d+1)+x.length+1) ∘ fun k=>Zq ns f (d+1) (Zb ns k))=fun k=>2*(d+1)+(Zq ns f (d+1) (Zb ns k)).length+1:=rfl;rw[e]at a;rw[szN];omega
theorem Zlk:∀(f g d:Nat) (n:Nd),WF n->Zbp ns f n->3*f<=g->d+2*f<=3100->(Zq ns f d n).length+2*d+10<=50000*szN ns g n
 |0,_,_,_,_,hk,_,_=>hk.elim
 |f+1,g,d,n,hn,hk,hg,hd=>by
  obtain⟨g,rfl⟩:∃y,g=y+3:=⟨g-3,by omega⟩
  have p:∀(e h o:Nat) (m:Nd),o=h+1->g<=h->e<=d+1->Zce ns (fun x=>Zbp ns f x) m->(ZX e (m.kids.map fun k=>Zq ns f (e+1) (Zb ns k))).length+40000<=50000*szN ns o m:=fun e h o m w E D hm=>by
   subst w;exact Zju hw f h e _ m hm (by omega) fun n hn C=>Zlk f h (e+1) n hn C (by omega) (by omega)
  have G:=Zds hn 0;have H:=Zds hn 1;rw[Zbp]at hk;rcases hk with⟨hk,_,k,a,hv⟩|⟨hk,_,⟨j,k,a⟩,b⟩|⟨hk,_,b⟩|⟨hk,_,_,l,k,a,B,b⟩|⟨hk,_,b⟩|⟨hk,k,r,a,F,hv,b⟩|⟨hk,j,k,a,hv,b⟩|⟨hk,k,a,hv⟩|hk
  ·have i:Zx ns n 0=Zb ns k:=by unfold Zx atI;rw[a];rfl
   have c:=ZeY hw f (g+2) _ (hw k) (hv k (by simp)).2.2 (by omega);rcases hk with hk|hk
   ·have e:Zq ns (f+1) d n=[108,101,116,32]++(word n 0++[32,61,32]++ZH ns f (Zb ns k)++[59]):=by simp[Zq,hk,Zfv,i]
    rw[e,szN,a];simp only[List.map_cons,List.map_nil,List.sum_cons,List.sum_nil,Yj,Yk,Yl];omega
   ·have e:Zq ns (f+1) d n=(word n 0++[32,61,32]++ZH ns f (Zb ns k)++[59]):=by simp[Zq,hk,Zfv,i]
    rw[e,szN,a];simp only[List.map_cons,List.map_nil,List.sum_cons,List.sum_nil,Yj,Yk,Yl];omega
  ·have e:Zq ns (f+1) d n=[111,112,101,110,32]++word n 0++[32]++word n 1++Zap [32,101,108,115,101] (n.kids.map fun k=>ZX d ((Zb ns k).kids.map fun k=>Zq ns f (d+1) (Zb ns k))):=by simp[Zq,hk]
   have c:=Ze2 [32,101,108,115,101] (n.kids.map fun k=>ZX d ((Zb ns k).kids.map fun k=>Zq ns f (d+1) (Zb ns k)));rw[List.map_map]at c
   have o:=Zei n.kids (fun k=>(ZX d ((Zb ns k).kids.map fun k=>Zq ns f (d+1) (Zb ns k))).length+5) (fun k=>szN ns (g+2) (Zb ns k)) 50000 fun k hk=>by
    have:=p d (g+1) (g+2) _ rfl (by omega) (by omega) (b k hk).2.2;omega
   have q:(Zap [32,101,108,115,101] (n.kids.map fun k=>ZX d ((Zb ns k).kids.map fun k=>Zq ns f (d+1) (Zb ns k)))).length<=50000*(n.kids.map fun k=>szN ns (g+2) (Zb ns k)).sum:=Nat.le_trans c o;rw[e,szN];simp only[Yj,Yk,Yl];omega
  ·have e:Zq ns (f+1) d n=[100,111,32]++word n 0++[46]++word n 1++(if n.kids=[]then [59]else ZX d (n.kids.map fun k=>word (Zb ns k) 0++ZX (d+1) ((Zx ns (Zb ns k) 0).kids.map fun k=>Zq ns f (d+1+1) (Zb ns k)))):=by simp[Zq,hk]
   have c:=ZgG d (n.kids.map fun k=>word (Zb ns k) 0++ZX (d+1) ((Zx ns (Zb ns k) 0).kids.map fun k=>Zq ns f (d+1+1) (Zb ns k)));rw[List.map_map]at c
   have o:=Zei n.kids (fun k=>2*(d+1)+(word (Zb ns k) 0++ZX (d+1) ((Zx ns (Zb ns k) 0).kids.map fun k=>Zq ns f (d+1+1) (Zb ns k))).length+1) (fun k=>szN ns (g+2) (Zb ns k)) 50000 fun k hk=>by
    obtain⟨_,v,s,A⟩:=(b k hk).2.2;have i:Zx ns (Zb ns k) 0=Zb ns v:=by unfold Zx atI;rw[s];rfl
    rw[i];have:=p (d+1) g (g+1) _ rfl (by omega) (by omega) (A v (by simp)).2.2;have:=Zds (hw k) 0;rw[szN,s];simp only[List.map_cons,List.map_nil,List.sum_cons,List.sum_nil,Yj];omega
   have q:(ZX d (n.kids.map fun k=>word (Zb ns k) 0++ZX (d+1) ((Zx ns (Zb ns k) 0).kids.map fun k=>Zq ns f (d+1+1) (Zb ns k)))).length<=50000*(n.kids.map fun k=>szN ns (g+2) (Zb ns k)).sum+2*d+4:=Nat.le_trans c (by have:=o;simp only[Function.comp_def];omega);rw[e,szN]
   split
   ·simp only[Yj,Yk,Yl];omega
   ·simp only[Yj,Yk,Yl];omega
  ·have e:Zq ns (f+1) d n=[115,112,108,105,116,32]++word n 0++[32,61,32]++word n 1++[32]++ZaH (num n 0)++[32]++Zdd (num n 1) (num n 2)++((l).map fun k=>Zbl (Zb ns k)).flatten++ZX d ((Zb ns k).kids.map fun k=>Zq ns f (d+1) (Zb ns k)):=by
    have i:Zx ns n (n.kids.length-1)=Zb ns k:=by unfold Zx atI;rw[a];simp
    have e1:n.kids.take (n.kids.length-1)=l:=by rw[a];simp
    have t:Zq ns (f+1) d n=[115,112,108,105,116,32]++word n 0++[32,61,32]++word n 1++[32]++ZaH (num n 0)++[32]++Zdd (num n 1) (num n 2)++((n.kids.take (n.kids.length-1)).map fun k=>Zbl (Zb ns k)).flatten++ZX d ((Zx ns n (n.kids.length-1)).kids.map fun k=>Zq ns f (d+1) (Zb ns k)):=by simp[Zq,hk]
    rw[t,i,e1]
   have c:=ZkE (num n 0);have o:=Zkw hn 1 2;have q:=Zjz hw l (g+2);have z:=p d (g+1) (g+2) _ rfl (by omega) (by omega) (b k (by simp)).2.2;rw[e,szN,a];simp only[List.map_append,List.sum_append,List.map_cons,List.map_nil,List.sum_cons,List.sum_nil,Yj,Yk,Yl]at q⊢;omega
  ·have e:Zq ns (f+1) d n=[99,97,108,108,32]++(if n.words.length=2 then word n 1++[32,61,32]else [])++word n 0++[40]++Zap [44,32] (n.kids.map fun k=>Zcz ns f (Zb ns k))++[41,59]:=by simp[Zq,hk]
   have c:=Ze2 [44,32] (n.kids.map fun k=>Zcz ns f (Zb ns k));rw[List.map_map]at c
   have o:=Zei n.kids (fun k=>(Zcz ns f (Zb ns k)).length+2) (fun k=>szN ns (g+2) (Zb ns k)) 50000 fun k hk=>by
    have:=Zrj hw f (g+2) _ (hw k) (b k hk).2.2 (by omega);omega
   have q:(Zap [44,32] (n.kids.map fun k=>Zcz ns f (Zb ns k))).length<=50000*(n.kids.map fun k=>szN ns (g+2) (Zb ns k)).sum:=Nat.le_trans c o;rw[e,szN]
   split<;>simp only[Yj,Yk,Yl]<;>omega
  ·have e:Zq ns (f+1) d n=[105,102,32]++ZH ns f (Zb ns k)++Zap [32,101,108,115,101] (r.map fun k=>ZX d ((Zb ns k).kids.map fun k=>Zq ns f (d+1) (Zb ns k))):=by
    have i:Zx ns n 0=Zb ns k:=by unfold Zx atI;rw[a];rfl
    have e1:n.kids.drop 1=r:=by rw[a];rfl
    have t:Zq ns (f+1) d n=[105,102,32]++ZH ns f (Zx ns n 0)++Zap [32,101,108,115,101] ((n.kids.drop 1).map fun k=>ZX d ((Zb ns k).kids.map fun k=>Zq ns f (d+1) (Zb ns k))):=by simp[Zq,hk]
    rw[t,i,e1]
   have u:=ZeY hw f (g+2) _ (hw k) (hv k (by simp)).2.2 (by omega);have c:=Ze2 [32,101,108,115,101] (r.map fun k=>ZX d ((Zb ns k).kids.map fun k=>Zq ns f (d+1) (Zb ns k)));rw[List.map_map]at c
   have o:=Zei r (fun k=>(ZX d ((Zb ns k).kids.map fun k=>Zq ns f (d+1) (Zb ns k))).length+5) (fun k=>szN ns (g+2) (Zb ns k)) 50000 fun k hk=>by
    have:=p d (g+1) (g+2) _ rfl (by omega) (by omega) (b k hk).2.2;omega
   have q:(Zap [32,101,108,115,101] (r.map fun k=>ZX d ((Zb ns k).kids.map fun k=>Zq ns f (d+1) (Zb ns k)))).length<=50000*(r.map fun k=>szN ns (g+2) (Zb ns k)).sum:=Nat.le_trans c o;rw[e,szN,a];simp only[List.map_cons,List.sum_cons,Yj,Yk,Yl];omega
  ·have e:Zq ns (f+1) d n=[119,104,105,108,101,32]++ZH ns f (Zb ns j)++ZX d ((Zb ns k).kids.map fun k=>Zq ns f (d+1) (Zb ns k)):=by
    have i:Zx ns n 0=Zb ns j:=by unfold Zx atI;rw[a];rfl
    have e1:Zx ns n 1=Zb ns k:=by unfold Zx atI;rw[a];rfl
    simp[Zq,hk,i,e1]
   have u:=ZeY hw f (g+2) _ (hw j) (hv j (by simp)).2.2 (by omega);have z:=p d (g+1) (g+2) _ rfl (by omega) (by omega) (b k (by simp)).2.2;rw[e,szN,a];simp only[List.map_cons,List.map_nil,List.sum_cons,List.sum_nil,Yj,Yk,Yl];omega
  ·have e:Zq ns (f+1) d n=[114,101,116,117,114,110,32]++ZH ns f (Zb ns k)++[59]:=by
    have i:Zx ns n 0=Zb ns k:=by unfold Zx atI;rw[a];rfl
    simp[Zq,hk,i]
   have u:=ZeY hw f (g+2) _ (hw k) (hv k (by simp)).2.2 (by omega);rw[e,szN,a];simp only[List.map_cons,List.map_nil,List.sum_cons,List.sum_nil,Yj,Yk,Yl];omega
  ·have e:Zq ns (f+1) d n=[101,120,105,116,59]:=by simp[Zq,hk]
   rw[e,szN];simp only[Yk,Yl];omega
theorem Zqs (f:Nat) (o:f<=1500) (n:Nd) (hn:WF n) (h:Zfe ns f n):(ZcH ns f n).length+1<=50000*szN ns (3*f+2) n:=by
 have p:=Zds hn 0;rcases h with⟨hk,_,c⟩|⟨hk,_,l,k,a,j,c⟩
 ·have b:=ZgG 0 (n.kids.map fun k=>Zcv (Zb ns k));rw[List.map_map]at b
  have d:=Zei n.kids (fun k=>2*(0+1)+(Zcv (Zb ns k)).length+1) (fun k=>szN ns (3*f+1) (Zb ns k)) 50000 fun k hk=>by
   have:=ZqF (hw k);have:=Zll ns (3*f+1) (Zb ns k);omega
  have g:(ZX 0 (n.kids.map fun k=>Zcv (Zb ns k))).length<=50000*(n.kids.map fun k=>szN ns (3*f+1) (Zb ns k)).sum+4:=Nat.le_trans b (by have:=d;simp only[Function.comp_def];omega);unfold ZcH;rw[Yo hk,szN];simp only[Yj,Yk,Yl];omega
 ·have e:Zx ns n (n.kids.length-1)=Zb ns k:=by unfold Zx atI;rw[a];simp
  have e1:n.kids.take (n.kids.length-1)=l:=by rw[a];simp
  have b:=Ze2 [44,32] (l.map fun k=>Zct ns (Zb ns k));rw[List.map_map]at b
  have d:=Zei l (fun k=>(Zct ns (Zb ns k)).length+2) (fun k=>szN ns (3*f+1) (Zb ns k)) 50000 fun k hk=>by
   have:=Zo9 hw (3*f) _ (hw k);omega
  have g:(Zap [44,32] (l.map fun k=>Zct ns (Zb ns k))).length<=50000*(l.map fun k=>szN ns (3*f+1) (Zb ns k)).sum:=Nat.le_trans b d;have i:(ZX 0 ((Zb ns k).kids.map fun k=>Zq ns f 1 (Zb ns k))).length+40000<=50000*szN ns (3*f+1) (Zb ns k):=Zju hw f (3*f) 0 _ (Zb ns k) (c k (by simp)).2.2 (by omega) fun n hn m=>Zlk hw f (3*f) 1 n hn m (by omega) (by omega);unfold ZcH;rw[Yn (by rw[hk];decide),e,e1,szN,a];simp only[List.map_append,List.sum_append,List.map_cons,List.map_nil,List.sum_cons,List.sum_nil,Yj,Yk,Yl]at i⊢;omega
end
theorem Zq6 {ns:List Nd} (R:RightP ns) (c:∀d∈ns,d.words.length<=1000) (k:Int):WF (Zb ns k):=by
 unfold Zb;cases e:ns[k.toNat]? with
 |none=>exact ZsE
 |some n=>
  obtain⟨a,b,_⟩:=R.node _ n e;exact⟨fun w f=>(Znn (List.all_eq_true.mp a w f)).2,c n (List.mem_of_getElem? e),fun x hx=>ZaY b hx⟩
theorem ZqO {ns:List Nd} (g:∀d∈ns,d.words.length<=1000):(Zcc ns).length<=75000000:=by
 cases hr:Zb9 ns
 ·unfold Zcc;rw[hr];simp
 ·have R:=Zf7 hr;have b:=Zq6 R g;cases hp:Zb7 ns with
  |none=>rw[ZdR hp]at hr;cases hr
  |some p=>
   have L:=ZfG hp;have a:=ZmC L (3*ns.length+3) 0 R.some_;rw[ZpQ]at a;have c:Zcc ns=Zbv 0 ((Zb ns 0).kids.map fun k=>ZcH ns ns.length (Zb ns k)):=by unfold Zcc;rw[hr];rfl
   rw[c,ZjF,List.map_map]
   have h:=Zei (Zb ns 0).kids (fun k=>2*0+(ZcH ns ns.length (Zb ns k)).length+1) (fun k=>szN ns (3*ns.length+2) (Zb ns k)) 50000 fun k hk=>by
    have:=Zqs b ns.length R.len _ (b k) (ZfD R k hk).2.2;omega
   have e:szN ns (3*ns.length+3) (Zb ns ((0:Nat):Int))=1+((Zb ns ((0:Nat):Int)).kids.map fun k=>szN ns (3*ns.length+2) (Zb ns k)).sum:=by rw[szN]
   rw[e]at a;rw[show((0:Nat):Int)=0 from rfl]at a;have:=R.len;have f:((fun x:Txt=>2*0+x.length+1) ∘ fun k=>ZcH ns ns.length (Zb ns k))=fun k=>2*0+(ZcH ns ns.length (Zb ns k)).length+1:=rfl;rw[f];omega
end
end Go.Proofs.YtdkegpkfjgloeaaGreatDoor
