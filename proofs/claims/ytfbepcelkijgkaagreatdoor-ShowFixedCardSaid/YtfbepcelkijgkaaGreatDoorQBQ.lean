import Derived.Lib.ItoaLen
import Derived.Test.YtfbepcelkijgkaaGreatDoorQAP
set_option maxRecDepth 100000
set_option maxHeartbeats 8000000
namespace Go.Proofs.YtfbepcelkijgkaaGreatDoor
section
open Go.RowKit
def szN (ns:List Nd):Nat->Nd->Nat
 |0,_=>1
 |g+1,n=>1+(n.kids.map fun k=>szN ns g (Za ns k)).sum
theorem Zlw (ns:List Nd):∀g n,1<=szN ns g n
 |0,_=>Nat.le_refl _
 |g+1,n=>by rw[szN];omega
theorem ZpC (ns:List Nd):∀g k,(Zd3 ns g k).length=szN ns g (Za ns k)
 |0,k=>by rw[Zd3,szN];rfl
 |g+1,k=>by
  rw[Zd3,szN,Yk,List.length_flatMap];have e:((Za ns k).kids.map fun a=>(Zd3 ns g a).length)=(Za ns k).kids.map fun k=>szN ns g (Za ns k):=List.map_congr_left fun a _=>ZpC ns g a;rw[e];omega
theorem Zei:∀(a:List Int) (F G:Int->Nat) (C:Nat),(∀k∈a,F k<=C*G k)->(a.map F).sum<=C*(a.map G).sum
 |[],_,_,C,_=>by simp
 |k::r,F,G,C,h=>by
  have b:=h k (by simp);have c:=Zei r F G C fun x hx=>h x (by simp[hx]);simp only[List.map_cons,List.sum_cons,Nat.mul_add];omega
theorem Zkl (a:List Txt) (s c:Nat) (h:∀x∈a,x.length<=c):(a.map fun x=>x.length+s).sum<=a.length*(c+s):=by
 induction a with
 |nil=>simp
 |cons x r d=>
  have e:=h x (by simp);have f:=d fun y b=>h y (by simp[b]);simp only[List.map_cons,List.sum_cons,Yk,Nat.add_mul];omega
theorem Zmy (d:Nat):(Zdf d).length=2*d:=by unfold Zdf;rw[List.length_replicate]
theorem ZjX (d:Nat) (a:List Txt):(Zbo d a).length=(a.map fun x=>2*d+x.length+1).sum:=by
 unfold Zbo;rw[List.length_flatten,List.map_map]
 congr 1
 refine List.map_congr_left fun x _=>?_;simp only[Function.comp,Yj,Zmy,Yk,Yl]
theorem ZgP (d:Nat) (a:List Txt):(ZI d a).length<=(a.map fun x=>2*(d+1)+x.length+1).sum+2*d+4:=by
 unfold ZI
 split
 ·simp
 ·simp only[Yj,ZjX,Zmy,Yk,Yl];omega
theorem Ze7 (s:Txt):∀(a:List Txt),(Zak s a).length<=(a.map fun x=>x.length+s.length).sum
 |[]=>by simp[Zak]
 |[x]=>by simp[Zak]
 |x::y::r=>by
  have:=Ze7 s (y::r);rw[Zak];simp only[Yj,List.map_cons,List.sum_cons]at this⊢;omega
def WF (n:Nd):Prop:=(∀w∈n.words,w.length<=16)/\n.words.length<=1000/\∀x∈n.nums,ZaH x
theorem ZkX (k:Int):(Zax k).length<=6:=by unfold Zax;repeat' split<;>try decide
theorem ZqD (k:Int):(Zcg k).length<=4:=by unfold Zcg;repeat' split<;>try decide
theorem Zp9 (k:Int):(ZcY k).length<=4:=by unfold ZcY;repeat' split<;>try decide
theorem Zj1:∀(l:List Txt),(∀w∈l,w.length<=16)->(Za9 l).length<=l.length/\∀x∈Za9 l,x.length<=33
 |[],_=>⟨by simp[Za9],fun x hx=>by simp[Za9]at hx⟩
 |[a],_=>⟨by simp[Za9],fun x hx=>by simp[Za9]at hx⟩
 |a::b::r,h=>by
  obtain⟨e,i2⟩:=Zj1 r fun w c=>h w (by simp[c]);have ha:=h a (by simp);have d:=h b (by simp);rw[Za9];refine⟨by simp only[Yk];omega,fun x hx=>?_⟩;rcases List.mem_cons.1 hx with rfl|hx
  ·simp only[Yj,Yk,Yl];omega
  ·exact i2 x hx
section
variable {ns:List Nd} (hw:∀k,WF (Za ns k))
include hw
end
end
section
open Go.RowKit
def WF2 (n:Nd):Prop:=(∀w∈n.words,w.length<=16)/\n.words.length<=20000/\∀x∈n.nums,ZaH x
theorem Zr0:WF2 nd0:=⟨(fun w a=>nomatch a),by decide,(fun w a=>nomatch a)⟩
theorem Zc9 {n:Nd} (h:WF2 n) (k:Nat):(word n k).length<=16:=by
 unfold word;cases e:n.words[k]? with
 |none=>simp
 |some w=>exact h.1 w (List.mem_of_getElem? e)
theorem Zif {n:Nd} (h:WF2 n) (k:Nat):(ZbM (num n k)).length<=21:=by
 have:ZaH (num n k):=by
  unfold num;cases e:n.nums[k]? with
  |none=>exact⟨by decide,by decide⟩
  |some x=>exact h.2.2 x (List.mem_of_getElem? e)
 unfold ZaH at this;exact Lib.itoa_length_le _ (by omega) (by omega)
theorem ZnB {n:Nd} (h:WF2 n):(ZaT n).length<=340004:=by
 unfold ZaT;have a:=Zp9 (num n 0);have b:(Zak [124] n.words).length<=(n.words.map fun x:Txt=>x.length+1).sum:=Ze7 [124] n.words;have c:(n.words.map fun x:Txt=>x.length+1).sum<=n.words.length*(16+1):=Zkl n.words 1 16 h.1;have:=h.2.1;simp only[Yj];have:n.words.length*(16+1)<=340000:=by omega
 omega
theorem ZjR {n:Nd} (h:WF2 n) (i j:Nat):(Zdh (num n i) (num n j)).length<=43:=by unfold Zdh;have a:=Zif h i;have b:=Zif h j;simp only[Yj,Yk,Yl];omega
theorem Zo6 {n:Nd} (h:WF2 n):(ZbU n).length<=800000:=by
 have i:=Zc9 h 0;have j:=Zc9 h 1;obtain⟨b,c⟩:=Zj1 (n.words.drop 2) fun w a=>h.1 w (List.mem_of_mem_drop a);have d:(Zak [44,32] (Za9 (n.words.drop 2))).length<=((Za9 (n.words.drop 2)).map fun x:Txt=>x.length+2).sum:=Ze7 [44,32] (Za9 (n.words.drop 2));have e:=Zkl _ 2 33 c;have:=h.2.1;have f:(Za9 (n.words.drop 2)).length<=20000:=by rw[List.length_drop]at b;omega
 have g:(Za9 (n.words.drop 2)).length*(33+2)<=700000:=by omega
 unfold ZbU
 split
 ·simp only[Yj,Yk,Yl];omega
 ·split<;>simp only[Yj,Yk,Yl]<;>omega
section
variable {ns:List Nd} (hw:∀k,WF2 (Za ns k))
include hw
theorem ZoL (a:List Int) (g:Nat):(a.map fun k=>(ZaT (Za ns k)).length).sum<=2000000*(a.map fun k=>szN ns g (Za ns k)).sum:=
 Zei a _ _ _ fun k _=>by
  have:=ZnB (hw k);have:=Zlw ns g (Za ns k);omega
theorem ZiP (a:List Int) (g:Nat):((a.map fun k=>ZaT (Za ns k)).flatten).length<=2000000*(a.map fun k=>szN ns g (Za ns k)).sum:=by rw[List.length_flatten,List.map_map];exact ZoL hw a g
theorem ZeD:∀(f g:Nat) (n:Nd),WF2 n->ZS ns f n->f<=g->(ZD ns f n).length+100<=2000000*szN ns g n
 |0,_,_,_,h,_=>h.elim
 |f+1,g,n,hn,h,hg=>by
  obtain⟨g,rfl⟩:∃t,g=t+1:=⟨g-1,by omega⟩
  have s:∀(m:Nd) (l:Nat),WF2 m->ZS ns f m->(if l<=ZB m then ZD ns f m else [40]++ZD ns f m++[41]).length+90<=2000000*szN ns g m:=fun m l hm hx=>by
   have:=ZeD f g m hm hx (by omega)
   split
   ·omega
   ·simp only[Yj,Yk,Yl];omega
  obtain⟨_,⟨hk,_⟩|⟨hk,_⟩|⟨hk,k,c,p,hv⟩|⟨hk,j,k,c,w,hv,d,p,q⟩⟩:=h
  ·have e:ZD ns (f+1) n=ZbM (num n 0):=by simp[ZD,hk]
   have:=Zif hn 0;rw[e,szN];omega
  ·have e:ZD ns (f+1) n=word n 0:=by simp[ZD,hk]
   have:=Zc9 hn 0;rw[e,szN];omega
  ·obtain⟨r,i⟩:∃r,n.kids=(k:Int)::r:=by
    cases hks:n.kids with
    |nil=>rw[hks]at c;simp at c
    |cons a r=>rw[hks]at c;simp at c;exact⟨r,by rw[c]⟩
   have e:ZD ns (f+1) n=[45]++(if 3<=ZB (Za ns k)then ZD ns f (Za ns k)else [40]++ZD ns f (Za ns k)++[41]):=by
    have o:Zv ns n 0=Za ns k:=by unfold Zv atI;rw[i];rfl
    simp[ZD,hk,o]
   have:=s _ 3 (hw k) hv;rw[e,szN,i];simp only[List.map_cons,List.sum_cons,Yj,Yk,Yl]at this⊢;omega
  ·obtain⟨r,i⟩:∃r,n.kids=(j:Int)::(k:Int)::r:=by
    match hks:n.kids with
    |[]=>rw[hks]at c;simp at c
    |[a]=>rw[hks]at d;simp at d
    |a::b::r=>rw[hks]at c d;simp at c d;exact⟨r,by rw[c,d]⟩
   have e:ZD ns (f+1) n=(if max (ZB n) 1<=ZB (Za ns j)then ZD ns f (Za ns j)else [40]++ZD ns f (Za ns j)++[41])++Zcg (num n 0)++(if ZB n+1<=ZB (Za ns k)then ZD ns f (Za ns k)else [40]++ZD ns f (Za ns k)++[41]):=by
    have o:Zv ns n 0=Za ns j:=by unfold Zv atI;rw[i];rfl
    have e1:Zv ns n 1=Za ns k:=by unfold Zv atI;rw[i];rfl
    simp[ZD,hk,o,e1]
   have u:=s _ (max (ZB n) 1) (hw j) hv;have v:=s _ (ZB n+1) (hw k) q;have y:=ZqD (num n 0);rw[e,szN,i];simp only[List.map_cons,List.sum_cons,Yj]at u v⊢;omega
theorem ZpT (f g:Nat) (n:Nd) (hn:WF2 n) (h:ZfD ns f n) (a:f<=g):(Zb9 ns f n).length+10<=2000000*szN ns g n:=by
 have:=Zc9 hn 0;have:=Zlw ns g n;rcases h with⟨hk,_⟩|⟨hk,hv⟩
 ·unfold Zb9;rw[Yo hk];simp only[Yj,Yk,Yl];omega
 ·unfold Zb9;rw[Yn hk];have:=ZeD hw f g n hn hv a;omega
theorem ZnH (g:Nat) (n:Nd) (hn:WF2 n):(ZbO ns n).length+10<=2000000*szN ns (g+1) n:=by
 have d:=Zc9 hn 0;have e:=Zc9 hn 1;have a:=ZkX (num n 0);have b:=ZjR hn 1 2;have c:=ZiP hw n.kids g;unfold ZbO;rw[szN]
 split
 ·simp only[Yj,Yl];omega
 ·split<;>simp only[Yj,Yk,Yl]<;>omega
theorem ZiF (f g d:Nat) (P:Nd->Prop) (m:Nd) (hm:Zaa ns m.kids P) (hd:d<=3100) (h:∀n,WF2 n->P n->(Zk ns f (d+1) n).length+2*(d+1)+10<=2000000*szN ns g n):(ZI d (m.kids.map fun k=>Zk ns f (d+1) (Za ns k))).length+40000<=2000000*szN ns (g+1) m:=by
 have a:=ZgP d (m.kids.map fun k=>Zk ns f (d+1) (Za ns k));rw[List.map_map]at a
 have b:=Zei m.kids (fun k=>2*(d+1)+(Zk ns f (d+1) (Za ns k)).length+1) (fun k=>szN ns g (Za ns k)) 2000000 fun k hk=>by
  have:=h _ (hw k) (hm k hk).2.2;omega
 have e:((fun x:Txt=>2*(d+1)+x.length+1) ∘ fun k=>Zk ns f (d+1) (Za ns k))=fun k=>2*(d+1)+(Zk ns f (d+1) (Za ns k)).length+1:=rfl;rw[e]at a;rw[szN];omega
theorem Zkk:∀(f g d:Nat) (n:Nd),WF2 n->Zbj ns f n->3*f<=g->d+2*f<=3100->(Zk ns f d n).length+2*d+10<=2000000*szN ns g n
 |0,_,_,_,_,hk,_,_=>hk.elim
 |f+1,g,d,n,hn,hk,hg,hd=>by
  obtain⟨g,rfl⟩:∃y,g=y+3:=⟨g-3,by omega⟩
  have p:∀(e h o:Nat) (m:Nd),o=h+1->g<=h->e<=d+1->Zch ns (fun x=>Zbj ns f x) m->(ZI e (m.kids.map fun k=>Zk ns f (e+1) (Za ns k))).length+40000<=2000000*szN ns o m:=fun e h o m w D C hm=>by
   subst w;exact ZiF hw f h e _ m hm (by omega) fun n hn hs=>Zkk f h (e+1) n hn hs (by omega) (by omega)
  have F:=Zc9 hn 0;have G:=Zc9 hn 1;rw[Zbj]at hk;rcases hk with⟨hk,_,k,a,hv⟩|⟨hk,_,⟨j,k,a⟩,b⟩|⟨hk,_,b⟩|⟨hk,_,_,l,k,a,B,b⟩|⟨hk,_,b⟩|⟨hk,k,r,a,E,hv,b⟩|⟨hk,j,k,a,hv,b⟩|⟨hk,k,a,hv⟩|hk
  ·have i:Zv ns n 0=Za ns k:=by unfold Zv atI;rw[a];rfl
   have c:=ZeD hw f (g+2) _ (hw k) (hv k (by simp)).2.2 (by omega);rcases hk with hk|hk
   ·have e:Zk ns (f+1) d n=[108,101,116,32]++(word n 0++[32,61,32]++ZD ns f (Za ns k)++[59]):=by simp[Zk,hk,Ze8,i]
    rw[e,szN,a];simp only[List.map_cons,List.map_nil,List.sum_cons,List.sum_nil,Yj,Yk,Yl];omega
   ·have e:Zk ns (f+1) d n=(word n 0++[32,61,32]++ZD ns f (Za ns k)++[59]):=by simp[Zk,hk,Ze8,i]
    rw[e,szN,a];simp only[List.map_cons,List.map_nil,List.sum_cons,List.sum_nil,Yj,Yk,Yl];omega
  ·have e:Zk ns (f+1) d n=[111,112,101,110,32]++word n 0++[32]++word n 1++Zak [32,101,108,115,101] (n.kids.map fun k=>ZI d ((Za ns k).kids.map fun k=>Zk ns f (d+1) (Za ns k))):=by simp[Zk,hk]
   have c:=Ze7 [32,101,108,115,101] (n.kids.map fun k=>ZI d ((Za ns k).kids.map fun k=>Zk ns f (d+1) (Za ns k)));rw[List.map_map]at c
   have o:=Zei n.kids (fun k=>(ZI d ((Za ns k).kids.map fun k=>Zk ns f (d+1) (Za ns k))).length+5) (fun k=>szN ns (g+2) (Za ns k)) 2000000 fun k hk=>by
    have:=p d (g+1) (g+2) _ rfl (by omega) (by omega) (b k hk).2.2;omega
   have q:(Zak [32,101,108,115,101] (n.kids.map fun k=>ZI d ((Za ns k).kids.map fun k=>Zk ns f (d+1) (Za ns k)))).length<=2000000*(n.kids.map fun k=>szN ns (g+2) (Za ns k)).sum:=Nat.le_trans c o;rw[e,szN];simp only[Yj,Yk,Yl];omega
  ·have e:Zk ns (f+1) d n=[100,111,32]++word n 0++[46]++word n 1++(if n.kids=[]then [59]else ZI d (n.kids.map fun k=>word (Za ns k) 0++ZI (d+1) ((Zv ns (Za ns k) 0).kids.map fun k=>Zk ns f (d+1+1) (Za ns k)))):=by simp[Zk,hk]
   have c:=ZgP d (n.kids.map fun k=>word (Za ns k) 0++ZI (d+1) ((Zv ns (Za ns k) 0).kids.map fun k=>Zk ns f (d+1+1) (Za ns k)));rw[List.map_map]at c
   have o:=Zei n.kids (fun k=>2*(d+1)+(word (Za ns k) 0++ZI (d+1) ((Zv ns (Za ns k) 0).kids.map fun k=>Zk ns f (d+1+1) (Za ns k))).length+1) (fun k=>szN ns (g+2) (Za ns k)) 2000000 fun k hk=>by
    obtain⟨_,v,s,A⟩:=(b k hk).2.2;have i:Zv ns (Za ns k) 0=Za ns v:=by unfold Zv atI;rw[s];rfl
    rw[i];have:=p (d+1) g (g+1) _ rfl (by omega) (by omega) (A v (by simp)).2.2;have:=Zc9 (hw k) 0;rw[szN,s];simp only[List.map_cons,List.map_nil,List.sum_cons,List.sum_nil,Yj];omega
   have q:(ZI d (n.kids.map fun k=>word (Za ns k) 0++ZI (d+1) ((Zv ns (Za ns k) 0).kids.map fun k=>Zk ns f (d+1+1) (Za ns k)))).length<=2000000*(n.kids.map fun k=>szN ns (g+2) (Za ns k)).sum+2*d+4:=Nat.le_trans c (by have:=o;simp only[Function.comp_def];omega);rw[e,szN]
   split
   ·simp only[Yj,Yk,Yl];omega
   ·simp only[Yj,Yk,Yl];omega
  ·have e:Zk ns (f+1) d n=[115,112,108,105,116,32]++word n 0++[32,61,32]++word n 1++[32]++Zax (num n 0)++[32]++Zdh (num n 1) (num n 2)++((l).map fun k=>ZaT (Za ns k)).flatten++ZI d ((Za ns k).kids.map fun k=>Zk ns f (d+1) (Za ns k)):=by
    have i:Zv ns n (n.kids.length-1)=Za ns k:=by unfold Zv atI;rw[a];simp
    have e1:n.kids.take (n.kids.length-1)=l:=by rw[a];simp
    have t:Zk ns (f+1) d n=[115,112,108,105,116,32]++word n 0++[32,61,32]++word n 1++[32]++Zax (num n 0)++[32]++Zdh (num n 1) (num n 2)++((n.kids.take (n.kids.length-1)).map fun k=>ZaT (Za ns k)).flatten++ZI d ((Zv ns n (n.kids.length-1)).kids.map fun k=>Zk ns f (d+1) (Za ns k)):=by simp[Zk,hk]
    rw[t,i,e1]
   have c:=ZkX (num n 0);have o:=ZjR hn 1 2;have q:=ZiP hw l (g+2);have z:=p d (g+1) (g+2) _ rfl (by omega) (by omega) (b k (by simp)).2.2;rw[e,szN,a];simp only[List.map_append,List.sum_append,List.map_cons,List.map_nil,List.sum_cons,List.sum_nil,Yj,Yk,Yl]at q⊢;omega
  ·have e:Zk ns (f+1) d n=[99,97,108,108,32]++(if n.words.length=2 then word n 1++[32,61,32]else [])++word n 0++[40]++Zak [44,32] (n.kids.map fun k=>Zb9 ns f (Za ns k))++[41,59]:=by simp[Zk,hk]
   have c:=Ze7 [44,32] (n.kids.map fun k=>Zb9 ns f (Za ns k));rw[List.map_map]at c
   have o:=Zei n.kids (fun k=>(Zb9 ns f (Za ns k)).length+2) (fun k=>szN ns (g+2) (Za ns k)) 2000000 fun k hk=>by
    have:=ZpT hw f (g+2) _ (hw k) (b k hk).2.2 (by omega);omega
   have q:(Zak [44,32] (n.kids.map fun k=>Zb9 ns f (Za ns k))).length<=2000000*(n.kids.map fun k=>szN ns (g+2) (Za ns k)).sum:=Nat.le_trans c o;rw[e,szN]
   split<;>simp only[Yj,Yk,Yl]<;>omega
  ·have e:Zk ns (f+1) d n=[105,102,32]++ZD ns f (Za ns k)++Zak [32,101,108,115,101] (r.map fun k=>ZI d ((Za ns k).kids.map fun k=>Zk ns f (d+1) (Za ns k))):=by
    have i:Zv ns n 0=Za ns k:=by unfold Zv atI;rw[a];rfl
    have e1:n.kids.drop 1=r:=by rw[a];rfl
    have t:Zk ns (f+1) d n=[105,102,32]++ZD ns f (Zv ns n 0)++Zak [32,101,108,115,101] ((n.kids.drop 1).map fun k=>ZI d ((Za ns k).kids.map fun k=>Zk ns f (d+1) (Za ns k))):=by simp[Zk,hk]
    rw[t,i,e1]
   have u:=ZeD hw f (g+2) _ (hw k) (hv k (by simp)).2.2 (by omega);have c:=Ze7 [32,101,108,115,101] (r.map fun k=>ZI d ((Za ns k).kids.map fun k=>Zk ns f (d+1) (Za ns k)));rw[List.map_map]at c
   have o:=Zei r (fun k=>(ZI d ((Za ns k).kids.map fun k=>Zk ns f (d+1) (Za ns k))).length+5) (fun k=>szN ns (g+2) (Za ns k)) 2000000 fun k hk=>by
    have:=p d (g+1) (g+2) _ rfl (by omega) (by omega) (b k hk).2.2;omega
   have q:(Zak [32,101,108,115,101] (r.map fun k=>ZI d ((Za ns k).kids.map fun k=>Zk ns f (d+1) (Za ns k)))).length<=2000000*(r.map fun k=>szN ns (g+2) (Za ns k)).sum:=Nat.le_trans c o;rw[e,szN,a];simp only[List.map_cons,List.sum_cons,Yj,Yk,Yl];omega
  ·have e:Zk ns (f+1) d n=[119,104,105,108,101,32]++ZD ns f (Za ns j)++ZI d ((Za ns k).kids.map fun k=>Zk ns f (d+1) (Za ns k)):=by
    have i:Zv ns n 0=Za ns j:=by unfold Zv atI;rw[a];rfl
    have e1:Zv ns n 1=Za ns k:=by unfold Zv atI;rw[a];rfl
    simp[Zk,hk,i,e1]
   have u:=ZeD hw f (g+2) _ (hw j) (hv j (by simp)).2.2 (by omega);have z:=p d (g+1) (g+2) _ rfl (by omega) (by omega) (b k (by simp)).2.2;rw[e,szN,a];simp only[List.map_cons,List.map_nil,List.sum_cons,List.sum_nil,Yj,Yk,Yl];omega
  ·have e:Zk ns (f+1) d n=[114,101,116,117,114,110,32]++ZD ns f (Za ns k)++[59]:=by
    have i:Zv ns n 0=Za ns k:=by unfold Zv atI;rw[a];rfl
    simp[Zk,hk,i]
   have u:=ZeD hw f (g+2) _ (hw k) (hv k (by simp)).2.2 (by omega);rw[e,szN,a];simp only[List.map_cons,List.map_nil,List.sum_cons,List.sum_nil,Yj,Yk,Yl];omega
  ·have e:Zk ns (f+1) d n=[101,120,105,116,59]:=by simp[Zk,hk]
   rw[e,szN];simp only[Yk,Yl];omega
theorem ZoI (f:Nat) (m:f<=1500) (n:Nd) (hn:WF2 n) (h:Zfl ns f n):(Zcl ns f n).length+1<=2000000*szN ns (3*f+2) n:=by
 have o:=Zc9 hn 0;rcases h with⟨hk,_,c⟩|⟨hk,_,l,k,a,j,c⟩
 ·have b:=ZgP 0 (n.kids.map fun k=>ZbU (Za ns k));rw[List.map_map]at b
  have d:=Zei n.kids (fun k=>2*(0+1)+(ZbU (Za ns k)).length+1) (fun k=>szN ns (3*f+1) (Za ns k)) 2000000 fun k hk=>by
   have:=Zo6 (hw k);have:=Zlw ns (3*f+1) (Za ns k);omega
  have g:(ZI 0 (n.kids.map fun k=>ZbU (Za ns k))).length<=2000000*(n.kids.map fun k=>szN ns (3*f+1) (Za ns k)).sum+4:=Nat.le_trans b (by have:=d;simp only[Function.comp_def];omega);unfold Zcl;rw[Yo hk,szN];simp only[Yj,Yk,Yl];omega
 ·have e:Zv ns n (n.kids.length-1)=Za ns k:=by unfold Zv atI;rw[a];simp
  have e1:n.kids.take (n.kids.length-1)=l:=by rw[a];simp
  have b:=Ze7 [44,32] (l.map fun k=>ZbO ns (Za ns k));rw[List.map_map]at b
  have d:=Zei l (fun k=>(ZbO ns (Za ns k)).length+2) (fun k=>szN ns (3*f+1) (Za ns k)) 2000000 fun k hk=>by
   have:=ZnH hw (3*f) _ (hw k);omega
  have g:(Zak [44,32] (l.map fun k=>ZbO ns (Za ns k))).length<=2000000*(l.map fun k=>szN ns (3*f+1) (Za ns k)).sum:=Nat.le_trans b d;have i:(ZI 0 ((Za ns k).kids.map fun k=>Zk ns f 1 (Za ns k))).length+40000<=2000000*szN ns (3*f+1) (Za ns k):=ZiF hw f (3*f) 0 _ (Za ns k) (c k (by simp)).2.2 (by omega) fun n hn hs=>Zkk hw f (3*f) 1 n hn hs (by omega) (by omega);unfold Zcl;rw[Yn (by rw[hk];decide),e,e1,szN,a];simp only[List.map_append,List.sum_append,List.map_cons,List.map_nil,List.sum_cons,List.sum_nil,Yj,Yk,Yl]at i⊢;omega
end
theorem ZpI {ns:List Nd} (R:RightP ns) (c:∀d∈ns,d.words.length<=20000) (k:Int):WF2 (Za ns k):=by
 unfold Za;cases e:ns[k.toNat]? with
 |none=>exact Zr0
 |some n=>
  obtain⟨a,b,_⟩:=R.node _ n e;exact⟨fun w f=>(Znx (List.all_eq_true.mp a w f)).2,c n (List.mem_of_getElem? e),fun x hx=>ZaR b hx⟩
theorem Zps {ns:List Nd} (g:∀d∈ns,d.words.length<=20000):(ZbC ns).length<=7200000000:=by
 cases hr:Zcu ns
 ·unfold ZbC;rw[hr];simp
 ·have R:=Zew hr;have b:=ZpI R g;cases hp:Zcc ns with
  |none=>rw[ZdR hp]at hr;cases hr
  |some p=>
   have L:=ZfJ hp;have a:=ZmI L (3*ns.length+3) 0 R.some_;rw[ZpC]at a;have c:ZbC ns=Zbo 0 ((Za ns 0).kids.map fun k=>Zcl ns ns.length (Za ns k)):=by unfold ZbC;rw[hr];rfl
   rw[c,ZjX,List.map_map]
   have h:=Zei (Za ns 0).kids (fun k=>2*0+(Zcl ns ns.length (Za ns k)).length+1) (fun k=>szN ns (3*ns.length+2) (Za ns k)) 2000000 fun k hk=>by
    have:=ZoI b ns.length R.len _ (b k) (ZfH R k hk).2.2;omega
   have e:szN ns (3*ns.length+3) (Za ns ((0:Nat):Int))=1+((Za ns ((0:Nat):Int)).kids.map fun k=>szN ns (3*ns.length+2) (Za ns k)).sum:=by rw[szN]
   rw[e]at a;rw[show((0:Nat):Int)=0 from rfl]at a;have:=R.len;have f:((fun x:Txt=>2*0+x.length+1) ∘ fun k=>Zcl ns ns.length (Za ns k))=fun k=>2*0+(Zcl ns ns.length (Za ns k)).length+1:=rfl;rw[f];omega
end
end Go.Proofs.YtfbepcelkijgkaaGreatDoor
