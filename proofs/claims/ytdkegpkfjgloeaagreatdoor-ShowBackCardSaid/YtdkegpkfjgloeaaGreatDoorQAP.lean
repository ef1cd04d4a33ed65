import Derived.Lib.ItoaLen
import Derived.Test.YtdkegpkfjgloeaaGreatDoorQAB
import Derived.Test.YtdkegpkfjgloeaaGreatDoorQAO
set_option maxRecDepth 100000
set_option maxHeartbeats 8000000
open Option renaming some → Ya
namespace Go.Proofs.YtdkegpkfjgloeaaGreatDoor
abbrev TS:=List (Nat×Txt)
def kt (t:Tok):Nat×Txt:=(t.1,t.2.1)
def Za4 (c:UInt8):Bool:=!Za3 c&&!(c==61)&&!(c==62)
def Za1 (c:UInt8):Bool:=!(c==61)&&!(c==62)
def ZcK (_:UInt8):Bool:=true
theorem Zbz {c:UInt8} (h:Za4 c=true):Za1 c=true:=by unfold Za4 at h;unfold Za1;simp only[Bool.and_eq_true]at h⊢;exact⟨h.1.2,h.2⟩
def Lx (x:Txt) (us:TS) (o:UInt8->Bool):Prop:=∀(b:Txt) (a:Nat),(∀c r,b=c::r->o c=true)->∃d:List Tok,d.map kt=us/\ZbK (x++b) a=(ZbK b (a+x.length)).pre d
theorem Lx.nil (o:UInt8->Bool):Lx [] [] o:=fun b a _=>⟨[],rfl,by rw[LexAns.pre_nil];rfl⟩
theorem Lx.less {x:Txt} {us:TS} {o d:UInt8->Bool} (h:Lx x us o) (k:∀c,d c=true->o c=true):Lx x us d:=fun b a f=>h b a fun c r e=>k c (f c r e)
theorem LexAns.pre_pre (x:LexAns) (us vs:List Tok):(x.pre vs).pre us=x.pre (us++vs):=by
 cases x with
 |bad a=>rfl
 |ok l=>simp[LexAns.pre]
theorem Lx.app {x y:Txt} {us vs:TS} {o f:UInt8->Bool} (h:Lx x us o) (k:Lx y vs f) (hd:∀c r,y=c::r->o c=true) (j:y=[]->∀c,f c=true->o c=true):Lx (x++y) (us++vs) f:=fun b a i=>by
 obtain⟨m,g,p⟩:=k b (a+x.length) i
 obtain⟨l,e1,n⟩:=h (y++b) a (fun c r e=>by
  cases y with
  |nil=>exact j rfl c (i c r e)
  |cons d s=>
   injection e with e1 g;subst e1
   exact hd d s rfl)
 refine⟨l++m,by rw[List.map_append,e1,g],?_⟩;rw[List.append_assoc,n,p,LexAns.pre_pre,Yj,Nat.add_assoc]
def Tx (x:Txt) (us:TS) (h o:UInt8->Bool):Prop:=Lx x us o/\∃c r,x=c::r/\h c=true
theorem Tx.app {x y:Txt} {us vs:TS} {h o f g:UInt8->Bool} (a:Tx x us h o) (b:Tx y vs f g) (k:∀c,f c=true->o c=true):Tx (x++y) (us++vs) h g:=by obtain⟨c,r,rfl,hc⟩:=a.2;obtain⟨d,s,rfl,hd⟩:=b.2;exact⟨a.1.app b.1 (fun c r e=>by injection e with e1;subst e1;exact k _ hd) (fun e=>nomatch e),c,r++d::s,rfl,hc⟩
theorem Tx.opt {x y:Txt} {us vs:TS} {h o d:UInt8->Bool} (a:Tx x us h o) (b:Lx y vs d) (hd:∀c r,y=c::r->o c=true) (e:∀c,d c=true->o c=true):Tx (x++y) (us++vs) h d:=by obtain⟨c,r,rfl,hc⟩:=a.2;exact⟨a.1.app b hd (fun _=>e),c,r++y,rfl,hc⟩
theorem Tx.head {x:Txt} {us:TS} {h b o:UInt8->Bool} (a:Tx x us h o) (k:∀c,h c=true->b c=true):Tx x us b o:=by obtain⟨c,r,e,hc⟩:=a.2;exact⟨a.1,c,r,e,k c hc⟩
theorem Tx.less {x:Txt} {us:TS} {h o b:UInt8->Bool} (a:Tx x us h o) (k:∀c,b c=true->o c=true):Tx x us h b:=⟨a.1.less k,a.2⟩
theorem Zln {c:UInt8} (d:ZdV c=true) {h:UInt8->Bool} (hc:h c=true):Tx [c] [] h ZcK:=
 ⟨fun b a _=>⟨[],rfl,by rw[LexAns.pre_nil];exact ZkM d⟩,c,[],rfl,hc⟩
theorem Zjh {x rest:Txt} {c:UInt8} {q:Txt} {a k:Nat} (hx:x=c::q) (d:Zbi (c::(q++rest))=(k,x.length,true)):ZbK (x++rest) a=(ZbK rest (a+x.length)).pre [(k,x,a)]:=by
 subst hx;have b:=Zkv (r:=q++rest) (c:=c) (by rw[d]);have e:ZW (c::(q++rest))=0:=ZgD b.1 b.2;have hd:(c::(q++rest)).drop (ZW (c::(q++rest)))=c::(q++rest):=by rw[e];rfl
 rw[List.cons_append,Zf1 hd (by rw[d]),d,e];dsimp only;have e1:(c::(q++rest)).drop (c::q).length=rest:=by rw[<-List.cons_append,List.drop_left]
 have f:(c::(q++rest)).take (c::q).length=c::q:=by rw[<-List.cons_append,List.take_left]
 rw[e1,f];cases ZbK rest (a+0+(c::q).length)<;>rfl
theorem ZrS {c:UInt8} (h:Za4 c=true):Za3 c=false/\Zbt c=false/\c≠61/\c≠62:=by unfold Za4 at h;simp only[Bool.and_eq_true,Bool.not_eq_true',beq_eq_false_iff_ne]at h;refine⟨h.1.1,?_,h.1.2,h.2⟩;have:=h.1.1;unfold Za3 at this;unfold Zbt;rw[Bool.or_eq_false_iff]at this;exact this.2
theorem ZpR {c:UInt8} {q:Txt} {k:Nat} (e:Zbi (c::q)=(k,(c::q).length,true)) {h:UInt8->Bool} (hc:h c=true):Tx (c::q) [(k,c::q)] h Za4:=by
 refine⟨fun b a l=>⟨[(k,c::q,a)],rfl,Zjh rfl ?_⟩,c,q,rfl,hc⟩;cases b with
 |nil=>rw[List.append_nil];exact e
 |cons d s=>
  obtain⟨f,g,i,j⟩:=ZrS (l d s rfl);have:=Zna f g i j s c q;rw[List.cons_append]at this;rw[this];exact e
theorem ZhC {p:UInt8->Bool}:∀(l:Txt),l.all p=true->Zav p l=l.length
 |[],_=>rfl
 |c::r,h=>by
  rw[List.all_cons,Bool.and_eq_true]at h;rw[ZcR,Yo h.1,ZhC r h.2];rfl
theorem ZmT {c:UInt8} {q:Txt} (a:ZbT c=true) (b:(c::q).all Za3=true):Tx (c::q) [(0,c::q)] Za1 Za4:=
 ZpR (by rw[Zb4,Yo a,ZhC _ b]) (by
  have d:c≠61:=fun e=>by subst e;exact absurd a (by decide)
  have f:c≠62:=fun e=>by subst e;exact absurd a (by decide)
  simp[Za1,d,f])
theorem Ze4 {w:Txt} (h:ZQ w=true):Tx w [(0,w)] Za1 Za4:=by
 unfold ZQ at h;simp only[Bool.and_eq_true,decide_eq_true_eq]at h;obtain⟨⟨⟨a,_⟩,b⟩,_⟩:=h;cases w with
 |nil=>cases a
 |cons c q=>exact ZmT a (Zip _ b)
theorem Zsy {c:UInt8} {q:Txt} (a:(c::q).all Zbt=true) (b:(c::q).length<=18):Tx (c::q) [(1,c::q)] Za1 Za4:=by
 have hd:Zbt c=true:=by rw[List.all_cons,Bool.and_eq_true]at a;exact a.1
 have g:ZbT c=false:=by
  cases e:ZbT c with
  |false=>rfl
  |true=>
   unfold ZbT Zf0 at e;unfold Zbt ZfU at hd;simp at e hd;omega
 exact ZpR (by rw[Zb4,Yn (by simp[g]),Yo hd,ZhC _ a,decide_eq_true b]) (by
  have d:c≠61:=fun e=>by subst e;exact absurd hd (by decide)
  have f:c≠62:=fun e=>by subst e;exact absurd hd (by decide)
  simp[Za1,d,f])
theorem Zc6 {c:UInt8} (h:c∈Zb3) {p:UInt8->Bool} (f:p c=true):Tx [c] [(2,[c])] p Za1:=by
 refine⟨fun b a g=>⟨[(2,[c],a)],rfl,Zjh rfl ?_⟩,c,[],rfl,f⟩;have e:∀d∈Zb3,ZbT d=false/\Zbt d=false:=by decide
 obtain⟨i,j⟩:=e c h;rw[List.nil_append,Zb4,Yn (by simp[i]),Yn (by simp[j]),Zev];cases b with
 |nil=>rw[Yn (by simp),Yo h];rfl
 |cons d s=>
  have hd:=g d s rfl;unfold Za1 at hd;simp only[Bool.and_eq_true,Bool.not_eq_true',beq_eq_false_iff_ne]at hd;rw[Yn (by simp[hd.1,hd.2]),Yo h];rfl
theorem ZpS {c d:UInt8} (h:(c=61/\d=61)\/(c=45/\d=62)) {p:UInt8->Bool} (e:p c=true):Tx [c,d] [(2,[c,d])] p ZcK:=by
 refine⟨fun b a _=>⟨[(2,[c,d],a)],rfl,Zjh rfl ?_⟩,c,[d],rfl,e⟩;rcases h with⟨rfl,rfl⟩|⟨rfl,rfl⟩
 ·rw[Zb4,Yn (by decide),Yn (by decide),Zev];rfl
 ·rw[Zb4,Yn (by decide),Yn (by decide),Zev];rfl
def Zdv (c:UInt8):Bool:=c==32||c==10
theorem Zcq {c:UInt8} (h:Zdv c=true):Za4 c=true:=by
 unfold Zdv at h;simp only[Bool.or_eq_true,beq_iff_eq]at h;rcases h with rfl|rfl<;>decide
theorem Zey {c:UInt8} (h:Zdv c=true):Za1 c=true:=Zbz (Zcq h)
theorem Zaa {p:UInt8->Bool}:∀c,p c=true->ZcK c=true:=fun _ _=>rfl
theorem ZbS {p:UInt8->Bool}:∀c,p c=true->p c=true:=fun _ h=>h
theorem Zdu:Tx [32] [] Zdv ZcK:=Zln (by decide) (by decide)
theorem Zrd:Tx [10] [] Zdv ZcK:=Zln (by decide) (by decide)
theorem Tx.sp {x:Txt} {us:TS} {h:UInt8->Bool} (a:Tx x us h Za4):Tx (x++[32]) us h ZcK:=by have:=a.app Zdu fun c=>Zcq;simpa using this
theorem ZmR:Tx [59] [(2,[59])] Za4 Za1:=Zc6 (by decide) (by decide)
theorem Tx.semi {x:Txt} {us:TS} {h:UInt8->Bool} (a:Tx x us h Za4):Tx (x++[59]) (us++[(2,[59])]) h Za1:=a.app ZmR ZbS
theorem Zjs:Tx [40] [(2,[40])] Za4 Za1:=Zc6 (by decide) (by decide)
theorem Zg1:Tx [41] [(2,[41])] Za4 Za1:=Zc6 (by decide) (by decide)
theorem ZqZ:Tx [45] [(2,[45])] Za1 Za1:=Zc6 (by decide) (by decide)
theorem ZeG {c:UInt8} (h:c∈Zb3):Tx [32,c,32] [(2,[c])] Zdv ZcK:=by have a:Tx [c] [(2,[c])] ZcK Za1:=Zc6 h rfl;have:=(Zdu.app a Zaa).app Zdu fun c=>Zey;simpa using this
theorem Zkc {w:Txt} {c:UInt8} {q:Txt} (e:w=c::q) (a:ZbT c=true) (b:(c::q).all Za3=true):Tx w [(0,w)] Za1 Za4:=by subst e;exact ZmT a b
theorem Zit:∀(k u:Nat),u<10 ^ (k+1)->(Lib.decDigits u).all Zbt=true/\(Lib.decDigits u).length<=k+1/\Lib.decDigits u≠[]
 |k,u,hu=>by
  rw[Lib.decDigits]
  split
  ·rename_i h
   have:u=0\/u=1\/u=2\/u=3\/u=4\/u=5\/u=6\/u=7\/u=8\/u=9:=by omega
   refine⟨?_,by simp,by simp⟩;rcases this with rfl|rfl|rfl|rfl|rfl|rfl|rfl|rfl|rfl|rfl<;>decide
  ·rename_i h
   cases k with
   |zero=>simp at hu;omega
   |succ k=>
    have hq:u / 10<10 ^ (k+1):=by rw[Nat.pow_succ]at hu;omega
    obtain⟨a,i2,i3⟩:=Zit k (u / 10) hq;have hm:u % 10<10:=Nat.mod_lt _ (by decide);have:u % 10=0\/u % 10=1\/u % 10=2\/u % 10=3\/u % 10=4\/u % 10=5\/u % 10=6\/u % 10=7\/u % 10=8\/u % 10=9:=by omega
    refine⟨?_,by simp only[Yj,Yk,Yl];omega,by simp⟩;rw[List.all_append,a];rcases this with e|e|e|e|e|e|e|e|e|e<;>rw[e]<;>decide
theorem Zlo {n:Int} (h:Zbf n):Tx (ZbP n) [(1,ZbP n)] Za1 Za4:=by
 unfold Zbf at h;obtain⟨u,rfl⟩:=Int.eq_ofNat_of_zero_le h.1;have e:ZbP (u:Int)=Lib.decDigits u:=by
  unfold ZbP Lib.itoa;rw[Yn (by omega)]
  congr 1
 obtain⟨a,b,d⟩:=Zit 17 u (by omega);rw[e];cases hd:Lib.decDigits u with
 |nil=>exact absurd hd d
 |cons c q=>
  rw[hd]at a b;exact Zsy a b
def Zao (s:TS):List TS->TS
 |[]=>[]
 |[x]=>x
 |x::y::r=>x++s++Zao s (y::r)
theorem ZhG {d:Type} {F:d->Txt} {G:d->TS} {s:Txt} {m:TS} {h o g k:UInt8->Bool} (f:Tx s m g k) (i:∀c,g c=true->o c=true) (j:∀c,h c=true->k c=true):∀(l:List d),l≠[]->(∀a∈l,Tx (F a) (G a) h o)->Tx (Zap s (l.map F)) (Zao m (l.map G)) h o
 |[],e,_=>absurd rfl e
 |[a],_,ha=>ha a (by simp)
 |a::b::r,_,ha=>((ha a (by simp)).app f i).app (ZhG f i j (b::r) (by simp) fun x hx=>ha x (by simp[hx])) j
theorem ZoY (d:Nat):Lx (Zc9 d) [] ZcK:=by
 unfold Zc9;generalize 2*d=m
 induction m with
 |zero=>exact Lx.nil _
 |succ m a=>
  have:Lx ([32]++List.replicate m 32) ([]++[]) ZcK:=Zdu.1.app a (fun _ _ _=>rfl) (fun _ _ _=>rfl);exact this
theorem Zif {b:Type} {F:b->Txt} {G:b->TS} (d:Nat):∀(l:List b),(∀a∈l,Tx (F a) (G a) Za1 Za4)->Lx (Zbv d (l.map F)) (l.map G).flatten ZcK
 |[],_=>Lx.nil _
 |a::r,h=>by
  have f:Lx (Zc9 d++F a) ([]++G a) Za4:=(ZoY d).app (h a (by simp)).1 (fun _ _ _=>rfl) (fun _ _ _=>rfl);have g:Lx (Zc9 d++F a++[10]) ([]++G a++[]) ZcK:=f.app Zrd.1 (fun c r e=>by injection e with e1;subst e1;decide) (fun e=>nomatch e);have i:=g.app (Zif d r fun x hx=>h x (by simp[hx])) (fun _ _ _=>rfl) (fun _ _ _=>rfl);have e1:Zbv d ((a::r).map F)=Zc9 d++F a++[10]++Zbv d (r.map F):=by unfold Zbv;simp
  rw[e1];simpa using i
def ZaE (a:List TS):TS:=[(2,[123])]++a.flatten++[(2,[125])]
theorem Zgk {b:Type} {F:b->Txt} {G:b->TS} (d:Nat) (l:List b) (h:∀a∈l,Tx (F a) (G a) Za1 Za4):Tx (ZX d (l.map F)) (ZaE (l.map G)) Zdv Za1:=by
 have f:Tx [123] [(2,[123])] ZcK Za1:=Zc6 (by decide) rfl;have g:Tx [125] [(2,[125])] ZcK Za1:=Zc6 (by decide) rfl;cases l with
 |nil=>
  have:=((Zdu.app f Zaa).app Zdu fun c=>Zey).app g Zaa;simpa[ZX,ZaE]using this
 |cons a r=>
  have j:=(Zdu.app f Zaa).app Zrd fun c=>Zey;have k:=(Zif (d+1) (a::r) h).app (ZoY d) (fun _ _ _=>rfl) (fun _ _ _=>rfl);have m:=k.app g.1 (fun _ _ _=>rfl) (fun e=>nomatch e);have n:=j.opt m (fun _ _ _=>rfl) (fun _ _=>rfl);have e1:ZX d ((a::r).map F)=[32]++[123]++[10]++(Zbv (d+1) ((a::r).map F)++Zc9 d++[125]):=by simp[ZX]
  rw[e1];have i:ZaE ((a::r).map G)=[]++[(2,[123])]++[]++(((a::r).map G).flatten++[]++[(2,[125])]):=by simp[ZaE]
  rw[i];exact n
def ZhR (k:Int):TS:=if k=0 then [(2,[60])]else if k=1 then [(2,[61,61])]else if k=2 then [(2,[43])]else if k=3 then [(2,[45])]else if k=4 then [(2,[42])]else [(2,[47])]
theorem Zq1 (k:Int):Tx (Zcd k) (ZhR k) Zdv ZcK:=by
 unfold Zcd ZhR;have a:Tx [61,61] [(2,[61,61])] ZcK ZcK:=ZpS (.inl ⟨rfl,rfl⟩) rfl;have:=(Zdu.app a Zaa).app Zdu Zaa
 split
 ·exact ZeG (by decide)
 split
 ·simpa using this
 split
 ·exact ZeG (by decide)
 split
 ·exact ZeG (by decide)
 split
 ·exact ZeG (by decide)
 ·exact ZeG (by decide)
def ZY (ns:List Nd):Nat->Nd->TS
 |0,_=>[]
 |f+1,n=>
  let b:=fun(m:Nd) (a:Nat)=>if a<=ZD m then ZY ns f m else [(2,[40])]++ZY ns f m++[(2,[41])]
  if n.kind=20 then [(1,ZbP (num n 0))]
  else if n.kind=21 then [(0,word n 0)]
  else if n.kind=23 then [(2,[45])]++b (Zx ns n 0) 3
  else if n.kind=22 then b (Zx ns n 0) (max (ZD n) 1)++ZhR (num n 0)++b (Zx ns n 1) (ZD n+1)
  else []
theorem Zgv {ns:List Nd} (R:RightP ns) {i:Nat} {d:Nd} (hd:ns[i]? = Ya d) {k:Nat} {s:Txt} (h:d.words[k]? = Ya s):ZQ s=true:=List.all_eq_true.mp (R.node i d hd).1 s (List.mem_of_getElem? h)
theorem ZaI {ns:List Nd} (R:RightP ns) {i:Nat} {d:Nd} (hd:ns[i]? = Ya d) {k:Int} (hk:k∈d.kids):∃j:Nat,ns[j]? = Ya (Zb ns k):=by obtain⟨m,e,rfl,_,_,a,b,_⟩:=ZfX R hd hk;exact⟨m,by rw[b];exact a⟩
theorem Za2 {ns:List Nd} {d:Nd} {m:Nat} {k:Int} (hk:d.kids[m]? = Ya k):Zx ns d m=Zb ns k:=by unfold Zx atI;rw[Int.toNat_natCast,hk];rfl
theorem ZhU {ns:List Nd} (R:RightP ns):∀(f i:Nat) (n:Nd),ns[i]? = Ya n->ZZ ns f n->Tx (ZH ns f n) (ZY ns f n) Za1 Za4
 |0,_,_,_,h=>h.elim
 |f+1,i,n,hn,h=>by
  have t:∀(m:Nat) (k:Int) (l:Nat),n.kids[m]? = Ya k->ZZ ns f (Zb ns k)->Tx (if l<=ZD (Zx ns n m)then ZH ns f (Zx ns n m)else [40]++ZH ns f (Zx ns n m)++[41]) (if l<=ZD (Zx ns n m)then ZY ns f (Zx ns n m)else [(2,[40])]++ZY ns f (Zx ns n m)++[(2,[41])]) Za1 Za4:=fun m k l hk hv=>by
   obtain⟨j,y⟩:=ZaI R hn (List.mem_of_getElem? hk);rw[Za2 hk];have e:=ZhU R f j _ y hv
   split
   ·exact e
   ·have:=(Zjs.app e ZbS).app Zg1 ZbS;exact(this.head fun c=>Zbz).less fun c=>Zbz
  obtain⟨B,⟨hk,v,r,hv,A,b⟩|⟨hk,s,r,u⟩|⟨hk,k,g,p,hv⟩|⟨hk,j,k,g,z,hv,o,p,q⟩⟩:=h
  ·have e:ZH ns (f+1) n=ZbP (num n 0):=by simp[ZH,hk]
   have a:ZY ns (f+1) n=[(1,ZbP (num n 0))]:=by simp[ZY,hk]
   rw[e,a];have d:num n 0=v:=by unfold num;rw[hv];rfl
   rw[d];exact Zlo (ZaY (R.node i n hn).2.1 (by rw[hv];simp))
  ·have e:ZH ns (f+1) n=word n 0:=by simp[ZH,hk]
   have a:ZY ns (f+1) n=[(0,word n 0)]:=by simp[ZY,hk]
   rw[e,a];have d:word n 0=s:=by unfold word;rw[u];rfl
   rw[d];exact Ze4 (Zgv R hn (k:=0) (by rw[u];rfl))
  ·have b:=t 0 k 3 g hv;have e:ZH ns (f+1) n=[45]++(if 3<=ZD (Zx ns n 0)then ZH ns f (Zx ns n 0)else [40]++ZH ns f (Zx ns n 0)++[41]):=by simp[ZH,hk]
   have a:ZY ns (f+1) n=[(2,[45])]++(if 3<=ZD (Zx ns n 0)then ZY ns f (Zx ns n 0)else [(2,[40])]++ZY ns f (Zx ns n 0)++[(2,[41])]):=by simp[ZY,hk]
   rw[e,a];exact ZqZ.app b ZbS
  ·have b:=t 0 j (max (ZD n) 1) g hv;have w:=t 1 k (ZD n+1) o q;have e:ZH ns (f+1) n=(if max (ZD n) 1<=ZD (Zx ns n 0)then ZH ns f (Zx ns n 0)else [40]++ZH ns f (Zx ns n 0)++[41])++Zcd (num n 0)++(if ZD n+1<=ZD (Zx ns n 1)then ZH ns f (Zx ns n 1)else [40]++ZH ns f (Zx ns n 1)++[41]):=by simp[ZH,hk]
   have a:ZY ns (f+1) n=(if max (ZD n) 1<=ZD (Zx ns n 0)then ZY ns f (Zx ns n 0)else [(2,[40])]++ZY ns f (Zx ns n 0)++[(2,[41])])++ZhR (num n 0)++(if ZD n+1<=ZD (Zx ns n 1)then ZY ns f (Zx ns n 1)else [(2,[40])]++ZY ns f (Zx ns n 1)++[(2,[41])]):=by simp[ZY,hk]
   rw[e,a];exact(b.app (Zq1 _) fun c=>Zcq).app w Zaa
def ZfB (n d:Int):TS:=[(1,ZbP n)]++[(2,[47])]++[(1,ZbP d)]
def ZiC (k:Int):TS:=if k=0 then [(0,[97,116])]else if k=1 then [(0,[116,111])]else [(0,[105,110])]
def Zbw (n:Nd):TS:=ZiC (num n 0)++Zao [(2,[124])] (n.words.map fun w=>[(0,w)])
def Zec (ns:List Nd) (f:Nat) (n:Nd):TS:=if n.kind=15 then [(2,[38])]++[(0,word n 0)]else ZY ns f n
def Zdx (ns:List Nd) (n:Nd):TS:=
 [(0,word n 0)]++(if n.words.length=1 then []else [(2,[58])]++[(0,word n 1)]++[(0,ZaH (num n 0))]++(if 0<num n 2 then [(0,[108,101,97,115,116])]++ZfB (num n 1) (num n 2)else [])++(n.kids.map fun k=>Zbw (Zb ns k)).flatten)
def Zcs:List Txt->List TS
 |a::b::r=>([(0,a)]++[(0,b)])::Zcs r
 |_=>[]
def ZcP (n:Nd):TS:=
 (if n.kind=3 then [(0,[111,112])]++[(0,word n 0)]++[(0,word n 1)]++[(2,[45,62])]++Zao [(2,[44])] (Zcs (n.words.drop 2))
  else if num n 0=0 then [(0,[115,116,97,116,101])]++[(0,word n 0)]else [(0,[102,105,110,97,108])]++[(0,word n 0)])++[(2,[59])]
def ZM (ns:List Nd):Nat->Nd->TS
 |0,_=>[]
 |f+1,n=>
  if n.kind=8 then [(0,[108,101,116])]++([(0,word n 0)]++[(2,[61])]++ZY ns f (Zx ns n 0)++[(2,[59])])
  else if n.kind=9 then [(0,word n 0)]++[(2,[61])]++ZY ns f (Zx ns n 0)++[(2,[59])]
  else if n.kind=10 then [(0,[111,112,101,110])]++[(0,word n 0)]++[(0,word n 1)]++Zao [(0,[101,108,115,101])] (n.kids.map fun k=>ZaE ((Zb ns k).kids.map fun k=>ZM ns f (Zb ns k)))
  else if n.kind=11 then [(0,[100,111])]++[(0,word n 0)]++[(2,[46])]++[(0,word n 1)]++(if n.kids=[]then [(2,[59])]else ZaE (n.kids.map fun k=>[(0,word (Zb ns k) 0)]++ZaE ((Zx ns (Zb ns k) 0).kids.map fun k=>ZM ns f (Zb ns k))))
  else if n.kind=13 then [(0,[115,112,108,105,116])]++[(0,word n 0)]++[(2,[61])]++[(0,word n 1)]++[(0,ZaH (num n 0))]++ZfB (num n 1) (num n 2)++((n.kids.take (n.kids.length-1)).map fun k=>Zbw (Zb ns k)).flatten++ZaE ((Zx ns n (n.kids.length-1)).kids.map fun k=>ZM ns f (Zb ns k))
  else if n.kind=14 then [(0,[99,97,108,108])]++(if n.words.length=2 then [(0,word n 1)]++[(2,[61])]else [])++[(0,word n 0)]++[(2,[40])]++Zao [(2,[44])] (n.kids.map fun k=>Zec ns f (Zb ns k))++[(2,[41]),(2,[59])]
  else if n.kind=16 then [(0,[105,102])]++ZY ns f (Zx ns n 0)++Zao [(0,[101,108,115,101])] ((n.kids.drop 1).map fun k=>ZaE ((Zb ns k).kids.map fun k=>ZM ns f (Zb ns k)))
  else if n.kind=17 then [(0,[119,104,105,108,101])]++ZY ns f (Zx ns n 0)++ZaE ((Zx ns n 1).kids.map fun k=>ZM ns f (Zb ns k))
  else if n.kind=18 then [(0,[114,101,116,117,114,110])]++ZY ns f (Zx ns n 0)++[(2,[59])]
  else if n.kind=19 then [(0,[101,120,105,116])]++[(2,[59])]
  else []
def ZcB (ns:List Nd) (f:Nat) (n:Nd):TS:=
 if n.kind=1 then [(0,[112,114,111,116,111])]++[(0,word n 0)]++ZaE (n.kids.map fun k=>ZcP (Zb ns k))
 else [(0,[102,110])]++[(0,word n 0)]++[(2,[40])]++Zao [(2,[44])] ((n.kids.take (n.kids.length-1)).map fun k=>Zdx ns (Zb ns k))++[(2,[41])]++ZaE ((Zx ns n (n.kids.length-1)).kids.map fun k=>ZM ns f (Zb ns k))
def Zn1 (ns:List Nd):TS:=((Zb ns 0).kids.map fun k=>ZcB ns ns.length (Zb ns k)).flatten
theorem ts8 {ns:List Nd} {f e:Nat} {n:Nd} (hk:n.kind=8):Zq ns (f+1) e n=[108,101,116,32]++(word n 0++[32,61,32]++ZH ns f (Zx ns n 0)++[59]):=by simp[Zq,hk,Zfv]
theorem ks8 {ns:List Nd} {f:Nat} {n:Nd} (hk:n.kind=8):ZM ns (f+1) n=[(0,[108,101,116])]++([(0,word n 0)]++[(2,[61])]++ZY ns f (Zx ns n 0)++[(2,[59])]):=by simp[ZM,hk]
theorem ts9 {ns:List Nd} {f e:Nat} {n:Nd} (hk:n.kind=9):Zq ns (f+1) e n=word n 0++[32,61,32]++ZH ns f (Zx ns n 0)++[59]:=by simp[Zq,hk,Zfv]
theorem ks9 {ns:List Nd} {f:Nat} {n:Nd} (hk:n.kind=9):ZM ns (f+1) n=[(0,word n 0)]++[(2,[61])]++ZY ns f (Zx ns n 0)++[(2,[59])]:=by simp[ZM,hk]
theorem ZsK {ns:List Nd} {f e:Nat} {n:Nd} (hk:n.kind=10):Zq ns (f+1) e n=[111,112,101,110,32]++word n 0++[32]++word n 1++Zap [32,101,108,115,101] (n.kids.map fun k=>ZX e ((Zb ns k).kids.map fun k=>Zq ns f (e+1) (Zb ns k))):=by simp[Zq,hk]
theorem Znj {ns:List Nd} {f:Nat} {n:Nd} (hk:n.kind=10):ZM ns (f+1) n=[(0,[111,112,101,110])]++[(0,word n 0)]++[(0,word n 1)]++Zao [(0,[101,108,115,101])] (n.kids.map fun k=>ZaE ((Zb ns k).kids.map fun k=>ZM ns f (Zb ns k))):=by simp[ZM,hk]
theorem ZsL {ns:List Nd} {f e:Nat} {n:Nd} (hk:n.kind=11):Zq ns (f+1) e n=[100,111,32]++word n 0++[46]++word n 1++(if n.kids=[]then [59]else ZX e (n.kids.map fun k=>word (Zb ns k) 0++ZX (e+1) ((Zx ns (Zb ns k) 0).kids.map fun k=>Zq ns f (e+1+1) (Zb ns k)))):=by simp[Zq,hk]
theorem ZkF {ns:List Nd} {f:Nat} {n:Nd} (hk:n.kind=11):ZM ns (f+1) n=[(0,[100,111])]++[(0,word n 0)]++[(2,[46])]++[(0,word n 1)]++(if n.kids=[]then [(2,[59])]else ZaE (n.kids.map fun k=>[(0,word (Zb ns k) 0)]++ZaE ((Zx ns (Zb ns k) 0).kids.map fun k=>ZM ns f (Zb ns k)))):=by simp[ZM,hk]
theorem ZsM {ns:List Nd} {f e:Nat} {n:Nd} (hk:n.kind=13):Zq ns (f+1) e n=[115,112,108,105,116,32]++word n 0++[32,61,32]++word n 1++[32]++ZaH (num n 0)++[32]++Zdd (num n 1) (num n 2)++((n.kids.take (n.kids.length-1)).map fun k=>Zbl (Zb ns k)).flatten++ZX e ((Zx ns n (n.kids.length-1)).kids.map fun k=>Zq ns f (e+1) (Zb ns k)):=by simp[Zq,hk]
theorem Znk {ns:List Nd} {f:Nat} {n:Nd} (hk:n.kind=13):ZM ns (f+1) n=[(0,[115,112,108,105,116])]++[(0,word n 0)]++[(2,[61])]++[(0,word n 1)]++[(0,ZaH (num n 0))]++ZfB (num n 1) (num n 2)++((n.kids.take (n.kids.length-1)).map fun k=>Zbw (Zb ns k)).flatten++ZaE ((Zx ns n (n.kids.length-1)).kids.map fun k=>ZM ns f (Zb ns k)):=by simp[ZM,hk]
theorem ZsN {ns:List Nd} {f e:Nat} {n:Nd} (hk:n.kind=14):Zq ns (f+1) e n=[99,97,108,108,32]++(if n.words.length=2 then word n 1++[32,61,32]else [])++word n 0++[40]++Zap [44,32] (n.kids.map fun k=>Zcz ns f (Zb ns k))++[41,59]:=by simp[Zq,hk]
theorem ZkG {ns:List Nd} {f:Nat} {n:Nd} (hk:n.kind=14):ZM ns (f+1) n=[(0,[99,97,108,108])]++(if n.words.length=2 then [(0,word n 1)]++[(2,[61])]else [])++[(0,word n 0)]++[(2,[40])]++Zao [(2,[44])] (n.kids.map fun k=>Zec ns f (Zb ns k))++[(2,[41]),(2,[59])]:=by simp[ZM,hk]
theorem ZsO {ns:List Nd} {f e:Nat} {n:Nd} (hk:n.kind=16):Zq ns (f+1) e n=[105,102,32]++ZH ns f (Zx ns n 0)++Zap [32,101,108,115,101] ((n.kids.drop 1).map fun k=>ZX e ((Zb ns k).kids.map fun k=>Zq ns f (e+1) (Zb ns k))):=by simp[Zq,hk]
theorem ZkH {ns:List Nd} {f:Nat} {n:Nd} (hk:n.kind=16):ZM ns (f+1) n=[(0,[105,102])]++ZY ns f (Zx ns n 0)++Zao [(0,[101,108,115,101])] ((n.kids.drop 1).map fun k=>ZaE ((Zb ns k).kids.map fun k=>ZM ns f (Zb ns k))):=by simp[ZM,hk]
theorem ZsP {ns:List Nd} {f e:Nat} {n:Nd} (hk:n.kind=17):Zq ns (f+1) e n=[119,104,105,108,101,32]++ZH ns f (Zx ns n 0)++ZX e ((Zx ns n 1).kids.map fun k=>Zq ns f (e+1) (Zb ns k)):=by simp[Zq,hk]
theorem Zqu {ns:List Nd} {f:Nat} {n:Nd} (hk:n.kind=17):ZM ns (f+1) n=[(0,[119,104,105,108,101])]++ZY ns f (Zx ns n 0)++ZaE ((Zx ns n 1).kids.map fun k=>ZM ns f (Zb ns k)):=by simp[ZM,hk]
theorem ZsQ {ns:List Nd} {f e:Nat} {n:Nd} (hk:n.kind=18):Zq ns (f+1) e n=[114,101,116,117,114,110,32]++ZH ns f (Zx ns n 0)++[59]:=by simp[Zq,hk]
theorem Zqv {ns:List Nd} {f:Nat} {n:Nd} (hk:n.kind=18):ZM ns (f+1) n=[(0,[114,101,116,117,114,110])]++ZY ns f (Zx ns n 0)++[(2,[59])]:=by simp[ZM,hk]
theorem ZsR {ns:List Nd} {f e:Nat} {n:Nd} (hk:n.kind=19):Zq ns (f+1) e n=[101,120,105,116,59]:=by simp[Zq,hk]
theorem Zqw {ns:List Nd} {f:Nat} {n:Nd} (hk:n.kind=19):ZM ns (f+1) n=[(0,[101,120,105,116])]++[(2,[59])]:=by simp[ZM,hk]
theorem ZmP {n d:Int} (a:Zbf n) (b:Zbf d):Tx (Zdd n d) (ZfB n d) Za1 Za4:=by have s:Tx [47] [(2,[47])] Za4 Za1:=Zc6 (by decide) (by decide);exact((Zlo a).app s ZbS).app (Zlo b) ZbS
theorem ZmQ (k:Int):Tx (ZaH k) [(0,ZaH k)] Za1 Za4:=by
 unfold ZaH
 repeat' split
 all_goals exact Zkc rfl (by decide) (by decide)
theorem Zc8 {w:Txt} {c:UInt8} {q:Txt} (e:w=c::q) (a:ZbT c=true) (b:(c::q).all Za3=true):Tx (w++[32]) [(0,w)] Za1 ZcK:=(Zkc e a b).sp
theorem Zr4 (k:Int):Tx (ZcX k) (ZiC k) Zdv ZcK:=by
 unfold ZcX ZiC;have h (a b:UInt8) (c:ZbT a=true) (d:[a,b].all Za3=true):Tx [32,a,b,32] [(0,[a,b])] Zdv ZcK:=by have:=Zdu.app (Zc8 (w:=[a,b]) rfl c d) Zaa;simpa using this
 split
 ·exact h _ _ (by decide) (by decide)
 split
 ·exact h _ _ (by decide) (by decide)
 ·exact h _ _ (by decide) (by decide)
theorem Zsw:Tx [124] [(2,[124])] Za4 Za1:=Zc6 (by decide) (by decide)
theorem Ziq:Tx [44,32] [(2,[44])] Za4 ZcK:=by have s:Tx [44] [(2,[44])] Za4 Za1:=Zc6 (by decide) (by decide);have:=s.app Zdu fun c=>Zey;simpa using this
theorem Zn8:Tx [32,61,32] [(2,[61])] Zdv ZcK:=ZeG (by decide)
theorem Zr3:Tx [32,101,108,115,101] [(0,[101,108,115,101])] Zdv Za4:=by have:=Zdu.app (Zkc (w:=[101,108,115,101]) rfl (by decide) (by decide)) Zaa;simpa using this
theorem Zlp {ns:List Nd} (R:RightP ns) {i:Nat} {n:Nd} (hn:ns[i]? = Ya n) (h:Zex n):Tx (Zbl n) (Zbw n) Zdv Za4:=by have e:=ZhG (F:=fun w:Txt=>w) (G:=fun w:Txt=>([(0,w)]:TS)) Zsw (o:=Za4) (h:=Za1) (fun c h=>h) (fun c h=>h) n.words (fun e=>by have:=h.1;rw[e]at this;exact absurd this (by simp)) fun w a=>Ze4 (List.all_eq_true.mp (R.node i n hn).1 w a);rw[List.map_id']at e;exact(Zr4 _).app e Zaa
theorem Zji {b:Type} {F:b->Txt} {G:b->TS}:∀(l:List b),(∀a∈l,Tx (F a) (G a) Zdv Za4)->Lx ((l.map F).flatten) ((l.map G).flatten) Za4/\∀c r,(l.map F).flatten=c::r->Za4 c=true
 |[],_=>⟨Lx.nil _,fun c r e=>nomatch e⟩
 |a::l,h=>by
  obtain⟨i,i2⟩:=Zji l fun x hx=>h x (by simp[hx]);have f:=h a (by simp);have:=f.opt i i2 (fun _ h=>h);rw[List.map_cons,List.map_cons,List.flatten_cons,List.flatten_cons];refine⟨this.1,fun c r e=>?_⟩;obtain⟨d,s,g,hd⟩:=f.2;rw[g]at e;injection e with e1;subst e1;exact Zcq hd
theorem Tx.flat {b:Type} {F:b->Txt} {G:b->TS} {x:Txt} {us:TS} {h:UInt8->Bool} (a:Tx x us h Za4) (l:List b) (k:∀y∈l,Tx (F y) (G y) Zdv Za4):Tx (x++(l.map F).flatten) (us++(l.map G).flatten) h Za4:=
 a.opt (Zji l k).1 (Zji l k).2 (fun _ h=>h)
theorem ZmV {n:Nd} {k:Nat} {s:Txt} (h:n.words[k]? = Ya s):word n k=s:=by unfold word;rw[h];rfl
theorem ZcF {n:Nd} {k:Nat} {z:Int} (h:n.nums[k]? = Ya z):num n k=z:=by unfold num;rw[h];rfl
theorem ZcN {ns:List Nd} (R:RightP ns) {i:Nat} {n:Nd} (hn:ns[i]? = Ya n) {k:Nat} {s:Txt} (h:n.words[k]? = Ya s):Tx (word n k) [(0,word n k)] Za1 Za4:=by rw[ZmV h];exact Ze4 (Zgv R hn h)
theorem Zsv {ns:List Nd} (R:RightP ns) {f i:Nat} {n:Nd} (hn:ns[i]? = Ya n) (h:Zfx ns f n):Tx (Zcz ns f n) (Zec ns f n) Za1 Za4:=by
 unfold Zcz Zec;rcases h with⟨hk,s,r,b⟩|⟨hk,hv⟩
 ·rw[Yo hk,Yo hk];have a:Tx [38] [(2,[38])] Za1 Za1:=Zc6 (by decide) (by decide);exact a.app (ZcN R hn (k:=0) (s:=s) (by rw[b];rfl)) ZbS
 ·rw[Yn hk,Yn hk];exact ZhU R f i n hn hv
theorem Zsz {ns:List Nd} (R:RightP ns) {f i:Nat} {n:Nd} {s:Txt} {k:Int} (hn:ns[i]? = Ya n) (b:n.words=[s]) (hk:n.kids=[k]) (hv:Zae ns [k] (ZZ ns f)):Tx (word n 0++[32,61,32]++ZH ns f (Zx ns n 0)++[59]) ([(0,word n 0)]++[(2,[61])]++ZY ns f (Zx ns n 0)++[(2,[59])]) Za1 Za1:=by obtain⟨j,a⟩:=ZaI R hn (k:=k) (by rw[hk];simp);rw[Za2 (m:=0) (k:=k) (by rw[hk];rfl)];exact(((ZcN R hn (k:=0) (s:=s) (by rw[b];rfl)).app Zn8 fun c=>Zcq).app (ZhU R f j _ a (hv k (by simp)).2.2) Zaa).semi
theorem Zsx:Tx [46] [(2,[46])] Za4 Za1:=Zc6 (by decide) (by decide)
theorem ZmS {ns:List Nd} (R:RightP ns):∀(f e i:Nat) (n:Nd),ns[i]? = Ya n->Zbp ns f n->Tx (Zq ns f e n) (ZM ns f n) Za1 Za4
 |0,_,_,_,_,h=>h.elim
 |f+1,e,i,n,hn,h=>by
  have v:∀(D:Nat) (m:Nd) (j:Nat),ns[j]? = Ya m->Zce ns (fun x=>Zbp ns f x) m->Tx (ZX D (m.kids.map fun k=>Zq ns f (D+1) (Zb ns k))) (ZaE (m.kids.map fun k=>ZM ns f (Zb ns k))) Zdv Za1:=fun D m j Y hm=>
   Zgk D m.kids fun k hk=>by
    obtain⟨q,hq⟩:=ZaI R Y hk;exact ZmS R f (D+1) q _ hq (hm k hk).2.2
  have A:∀(B:List Int),B≠[]->(∀k∈B,k∈n.kids)->Zae ns B (Zce ns fun x=>Zbp ns f x)->Tx (Zap [32,101,108,115,101] (B.map fun k=>ZX e ((Zb ns k).kids.map fun k=>Zq ns f (e+1) (Zb ns k)))) (Zao [(0,[101,108,115,101])] (B.map fun k=>ZaE ((Zb ns k).kids.map fun k=>ZM ns f (Zb ns k)))) Zdv Za1:=fun B K o g=>
   ZhG Zr3 (fun c=>Zey) (fun c=>Zcq) B K fun k hk=>by
    obtain⟨q,hq⟩:=ZaI R hn (o k hk);exact v e _ q hq (g k hk).2.2
  have y:∀{k:Nat} {s:Txt},n.words[k]? = Ya s->Tx (word n k) [(0,word n k)] Za1 Za4:=fun h=>ZcN R hn h
  have J:∀{m:Nat} {k:Int},n.kids[m]? = Ya k->Zae ns [k] (ZZ ns f)->Tx (ZH ns f (Zx ns n m)) (ZY ns f (Zx ns n m)) Za1 Za4:=fun {m k} hk hv=>by
   obtain⟨q,hq⟩:=ZaI R hn (List.mem_of_getElem? hk);rw[Za2 hk];exact ZhU R f q _ hq (hv k (by simp)).2.2
  rw[Zbp]at h;rcases h with⟨hk,⟨s,o⟩,k,d,hv⟩|⟨hk,⟨a,b,o⟩,⟨j,k,d⟩,g⟩|⟨hk,⟨a,b,o⟩,g⟩|⟨hk,⟨a,b,o⟩,⟨p,q,r,hm,h0,h4,hq,N⟩,l,k,d,L,g⟩|⟨hk,o,g⟩|⟨hk,k,r,d,N,hv,g⟩|⟨hk,j,k,d,hv,g⟩|⟨hk,k,d,hv⟩|hk
  ·have S:=Zsz R hn o d hv;rcases hk with hk|hk
   ·rw[ts8 hk,ks8 hk];have:=(Zc8 (w:=[108,101,116]) rfl (by decide) (by decide)).app S Zaa;exact this.less fun c=>Zbz
   ·rw[ts9 hk,ks9 hk];exact S.less fun c=>Zbz
  ·rw[ZsK hk,Znj hk];have:=((((Zc8 (w:=[111,112,101,110]) rfl (by decide) (by decide)).app (y (k:=0) (s:=a) (by rw[o];rfl)) Zaa).sp).app (y (k:=1) (s:=b) (by rw[o];rfl)) Zaa).app (A n.kids (by rw[d];simp) (fun k hk=>hk) g) fun c=>Zcq;exact this.less fun c=>Zbz
  ·rw[ZsL hk,ZkF hk];have t:=(((Zc8 (w:=[100,111]) rfl (by decide) (by decide)).app (y (k:=0) (s:=a) (by rw[o];rfl)) Zaa).app Zsx ZbS).app (y (k:=1) (s:=b) (by rw[o];rfl)) ZbS
   split
   ·exact(t.semi).less fun c=>Zbz
   ·have W:=Zgk e (F:=fun k=>word (Zb ns k) 0++ZX (e+1) ((Zx ns (Zb ns k) 0).kids.map fun k=>Zq ns f (e+1+1) (Zb ns k))) (G:=fun k=>[(0,word (Zb ns k) 0)]++ZaE ((Zx ns (Zb ns k) 0).kids.map fun k=>ZM ns f (Zb ns k))) n.kids fun k hk=>by
     obtain⟨q,hq⟩:=ZaI R hn hk;obtain⟨⟨s,r,Z⟩,O,H,X⟩:=(g k hk).2.2;obtain⟨I,u⟩:=ZaI R hq (k:=O) (by rw[H];simp);have C:=v (e+1) _ I u (X O (by simp)).2.2;rw[Za2 (m:=0) (k:=O) (by rw[H];rfl)];exact((ZcN R hq (k:=0) (s:=s) (by rw[Z];rfl)).app C fun c=>Zcq).less fun c=>Zbz
    exact(t.app W fun c=>Zcq).less fun c=>Zbz
  ·rw[ZsM hk,Znk hk];have t2:n.kids.take (n.kids.length-1)=l:=by rw[d];simp
   have lk:n.kids[n.kids.length-1]? = Ya k:=by rw[d];simp
   obtain⟨I,u⟩:=ZaI R hn (List.mem_of_getElem? lk);have C:=v e _ I u (g k (by simp)).2.2;have n1:Zbf (num n 1):=by rw[ZcF (k:=1) (z:=q) (by rw[hm];rfl)];exact hq
   have n2:Zbf (num n 2):=by rw[ZcF (k:=2) (z:=r) (by rw[hm];rfl)];exact N
   rw[t2,Za2 lk]
   have t:=((((((((Zc8 (w:=[115,112,108,105,116]) rfl (by decide) (by decide)).app (y (k:=0) (s:=a) (by rw[o];rfl)) Zaa).app Zn8 fun c=>Zcq).app (y (k:=1) (s:=b) (by rw[o];rfl)) Zaa).sp).app (ZmQ (num n 0)) Zaa).sp).app (ZmP n1 n2) Zaa).flat (F:=fun k=>Zbl (Zb ns k)) (G:=fun k=>Zbw (Zb ns k)) l fun k hk=>by
    obtain⟨q3,M⟩:=ZaI R hn (k:=k) (by rw[d];simp[hk]);exact Zlp R M (L k hk).2.2
   exact(t.app C fun c=>Zcq).less fun c=>Zbz
  ·rw[ZsN hk,ZkG hk];have hc:Tx ([41,59]:Txt) [(2,[41]),(2,[59])] Za4 Za1:=by have V:Tx [41] [(2,[41])] Za4 Za1:=Zg1;exact V.app ZmR fun c=>Zbz
   have Q:=Zc8 (w:=[99,97,108,108]) rfl (by decide) (by decide)
   have E:∀{x:Txt} {P:TS},Tx x P Za1 Za4->Tx (x++[40]++Zap [44,32] (n.kids.map fun k=>Zcz ns f (Zb ns k))++[41,59]) (P++[(2,[40])]++Zao [(2,[44])] (n.kids.map fun k=>Zec ns f (Zb ns k))++[(2,[41]),(2,[59])]) Za1 Za4:=fun {x P} hx=>by
    have t:=hx.app Zjs ZbS;by_cases T:n.kids=[]
    ·rw[T];have:=t.app hc fun c=>Zbz;simpa[Zap,Zao]using this.less fun c=>Zbz
    ·have U:=ZhG (F:=fun k=>Zcz ns f (Zb ns k)) (G:=fun k=>Zec ns f (Zb ns k)) Ziq (fun c h=>h) Zaa n.kids T fun k hk=>by
      obtain⟨q,hq⟩:=ZaI R hn hk;exact Zsv R hq (g k hk).2.2
     exact((t.app U ZbS).app hc ZbS).less fun c=>Zbz
   rcases o with⟨a,o⟩|⟨a,b,o⟩
   ·rw[Yn (by rw[o];simp),Yn (by rw[o];simp),List.append_nil,List.append_nil];exact E (Q.app (y (k:=0) (s:=a) (by rw[o];rfl)) Zaa)
   ·rw[Yo (by rw[o];rfl),Yo (by rw[o];rfl)];have t:=(y (k:=1) (s:=b) (by rw[o];rfl)).app Zn8 fun c=>Zcq;exact E ((Q.app t Zaa).app (y (k:=0) (s:=a) (by rw[o];rfl)) Zaa)
  ·rw[ZsO hk,ZkH hk];have t2:n.kids.drop 1=r:=by rw[d];rfl
   rw[t2];have t:=((Zc8 (w:=[105,102]) rfl (by decide) (by decide)).app (J (m:=0) (k:=k) (by rw[d];rfl) hv) Zaa).app (A r N (fun k hk=>by rw[d];simp[hk]) g) fun c=>Zcq;exact t.less fun c=>Zbz
  ·rw[ZsP hk,Zqu hk];have lk:n.kids[1]? = Ya k:=by rw[d];rfl
   obtain⟨I,u⟩:=ZaI R hn (List.mem_of_getElem? lk);have C:=v e _ I u (g k (by simp)).2.2;rw[Za2 (m:=1) lk];exact(((Zc8 (w:=[119,104,105,108,101]) rfl (by decide) (by decide)).app (J (m:=0) (k:=j) (by rw[d];rfl) hv) Zaa).app C fun c=>Zcq).less fun c=>Zbz
  ·rw[ZsQ hk,Zqv hk];exact(((Zc8 (w:=[114,101,116,117,114,110]) rfl (by decide) (by decide)).app (J (m:=0) (k:=k) (by rw[d];rfl) hv) Zaa).semi).less fun c=>Zbz
  ·rw[ZsR hk,Zqw hk];have:=(Zkc (w:=[101,120,105,116]) rfl (by decide) (by decide)).semi;exact this.less fun c=>Zbz
theorem Zlq:∀(l:List Txt),l.length % 2=0->2<=l.length->(∀w∈l,ZQ w=true)->Tx (Zap [44,32] (Zbb l)) (Zao [(2,[44])] (Zcs l)) Za1 Za4
 |[],_,h,_=>by simp at h
 |[_],h,_,_=>by simp at h
 |[a,b],_,_,hw=>by
  have:=((Ze4 (hw a (by simp))).sp).app (Ze4 (hw b (by simp))) Zaa;simpa[Zbb,Zcs,Zap,Zao]using this
 |[a,b,c],h,_,_=>by simp at h
 |a::b::c::d::r,h,_,hw=>by
  have f:=((Ze4 (hw a (by simp))).sp).app (Ze4 (hw b (by simp))) Zaa;have g:=Zlq (c::d::r) (by simp only[Yk]at h⊢;omega) (by simp) fun w hx=>hw w (List.mem_cons_of_mem _ (List.mem_cons_of_mem _ hx));have i:=(f.app Ziq ZbS).app g Zaa;have e1:Zap [44,32] (Zbb (a::b::c::d::r))=a++[32]++b++[44,32]++Zap [44,32] (Zbb (c::d::r)):=by simp[Zbb,Zap]
  have e:Zao [(2,[44])] (Zcs (a::b::c::d::r))=[(0,a)]++[(0,b)]++[(2,[44])]++Zao [(2,[44])] (Zcs (c::d::r)):=by simp[Zcs,Zao]
  rw[e1,e];exact i
theorem Zr6 {ns:List Nd} (R:RightP ns) {i:Nat} {n:Nd} (hn:ns[i]? = Ya n) (h:Zff n):Tx (Zcv n) (ZcP n) Za1 Za4:=by
 unfold Zcv ZcP;rcases h with⟨hk,a,b,r,d,f,o⟩|⟨hk,⟨s,d⟩,z,hm,q,g⟩
 ·rw[Yo hk,Yo hk];have p:∀w∈r,ZQ w=true:=fun w hx=>List.all_eq_true.mp (R.node i n hn).1 w (by rw[d];simp[hx]);have e1:=Zlq r f o p;have l:Tx [32,45,62,32] [(2,[45,62])] Zdv ZcK:=by have t2:Tx [45,62] [(2,[45,62])] ZcK ZcK:=ZpS (.inr ⟨rfl,rfl⟩) rfl;have:=(Zdu.app t2 Zaa).app Zdu Zaa;simpa using this
  have m:n.words.drop 2=r:=by rw[d];rfl
  rw[m];have g:=((((Zc8 (w:=[111,112]) rfl (by decide) (by decide)).app (ZcN R hn (k:=0) (s:=a) (by rw[d];rfl)) Zaa).sp).app (ZcN R hn (k:=1) (s:=b) (by rw[d];rfl)) Zaa).app l fun c=>Zcq;exact((g.app e1 Zaa).semi).less fun c=>Zbz
 ·have j:¬n.kind=3:=by rw[hk];decide
  rw[Yn j,Yn j];by_cases e:num n 0=0
  ·rw[Yo e,Yo e];exact(((Zc8 (w:=[115,116,97,116,101]) rfl (by decide) (by decide)).app (ZcN R hn (k:=0) (s:=s) (by rw[d];rfl)) Zaa).semi).less fun c=>Zbz
  ·rw[Yn e,Yn e];exact(((Zc8 (w:=[102,105,110,97,108]) rfl (by decide) (by decide)).app (ZcN R hn (k:=0) (s:=s) (by rw[d];rfl)) Zaa).semi).less fun c=>Zbz
theorem Zq0 {ns:List Nd} (R:RightP ns) {i:Nat} {n:Nd} (hn:ns[i]? = Ya n) (h:Zgp ns n):Tx (Zct ns n) (Zdx ns n) Za1 Za4:=by
 unfold Zct Zdx;rcases h with⟨s,d⟩|⟨⟨a,b,d⟩,⟨p,q,r,hm,E,H,hq,A⟩,g⟩
 ·rw[Yo (by rw[d];rfl),Yo (by rw[d];rfl),List.append_nil,List.append_nil];exact ZcN R hn (k:=0) (s:=s) (by rw[d];rfl)
 ·have u:¬n.words.length=1:=by rw[d];simp
  rw[Yn u,Yn u];have C:Zbf (num n 1):=by rw[ZcF (k:=1) (z:=q) (by rw[hm];rfl)];exact hq
  have D:Zbf (num n 2):=by rw[ZcF (k:=2) (z:=r) (by rw[hm];rfl)];exact A
  have f:Tx [58,32] [(2,[58])] Za4 ZcK:=by have s:Tx [58] [(2,[58])] Za4 Za1:=Zc6 (by decide) (by decide);have:=s.app Zdu fun c=>Zey;simpa using this
  have o:=(((f.app (ZcN R hn (k:=1) (s:=b) (by rw[d];rfl)) Zaa).sp).app (ZmQ (num n 0)) Zaa)
  have t:∀y∈n.kids,Tx (Zbl (Zb ns y)) (Zbw (Zb ns y)) Zdv Za4:=fun y m=>by
   obtain⟨I,j⟩:=ZaI R hn m;exact Zlp R j (g y m).2.2
  have v:=ZcN R hn (k:=0) (s:=a) (by rw[d];rfl);by_cases e:0<num n 2
  ·rw[Yo e,Yo e];have B:Tx [32,108,101,97,115,116,32] [(0,[108,101,97,115,116])] Zdv ZcK:=by have:=Zdu.app (Zc8 (w:=[108,101,97,115,116]) rfl (by decide) (by decide)) Zaa;simpa using this
   have l:=(o.app (B.app (ZmP C D) Zaa) fun c=>Zcq).flat (F:=fun k=>Zbl (Zb ns k)) (G:=fun k=>Zbw (Zb ns k)) n.kids t;exact v.app l ZbS
  ·have l:=o.flat (F:=fun k=>Zbl (Zb ns k)) (G:=fun k=>Zbw (Zb ns k)) n.kids t;rw[Yn e,Yn e,List.append_nil,List.append_nil];exact v.app l ZbS
theorem Zr5 {ns:List Nd} (R:RightP ns) {f i:Nat} {n:Nd} (hn:ns[i]? = Ya n) (h:Zfe ns f n):Tx (ZcH ns f n) (ZcB ns f n) Za1 Za4:=by
 unfold ZcH ZcB;rcases h with⟨hk,⟨s,m⟩,b⟩|⟨hk,⟨s,m⟩,l,k,a,g,b⟩
 ·rw[Yo hk,Yo hk]
  have e:=Zgk 0 (F:=fun k=>Zcv (Zb ns k)) (G:=fun k=>ZcP (Zb ns k)) n.kids fun k hk=>by
   obtain⟨q,hq⟩:=ZaI R hn hk;exact Zr6 R hq (b k hk).2.2
  exact(((Zc8 (w:=[112,114,111,116,111]) rfl (by decide) (by decide)).app (ZcN R hn (k:=0) (s:=s) (by rw[m];rfl)) Zaa).app e fun c=>Zcq).less fun c=>Zbz
 ·have r:¬n.kind=1:=by rw[hk];decide
  rw[Yn r,Yn r];have t2:n.kids.take (n.kids.length-1)=l:=by rw[a];simp
  have lk:n.kids[n.kids.length-1]? = Ya k:=by rw[a];simp
  obtain⟨v,j⟩:=ZaI R hn (List.mem_of_getElem? lk)
  have e:=Zgk 0 (F:=fun k=>Zq ns f 1 (Zb ns k)) (G:=fun k=>ZM ns f (Zb ns k)) (Zb ns k).kids fun u d=>by
   obtain⟨q,hq⟩:=ZaI R j d;exact ZmS R f 1 q _ hq ((b k (by simp)).2.2 u d).2.2
  rw[t2,Za2 lk];have o:=((Zc8 (w:=[102,110]) rfl (by decide) (by decide)).app (ZcN R hn (k:=0) (s:=s) (by rw[m];rfl)) Zaa).app Zjs ZbS;by_cases p:l=[]
  ·rw[p];have:=(o.app Zg1 fun c=>Zbz).app e fun c=>Zey;simpa[Zap,Zao]using this.less fun c=>Zbz
  ·have t:=ZhG (F:=fun k=>Zct ns (Zb ns k)) (G:=fun k=>Zdx ns (Zb ns k)) Ziq (fun c h=>h) Zaa l p fun k hk=>by
    obtain⟨q,hq⟩:=ZaI R hn (k:=k) (by rw[a];simp[hk]);exact Zq0 R hq (g k hk).2.2
   exact(((o.app t ZbS).app Zg1 ZbS).app e fun c=>Zey).less fun c=>Zbz
theorem ZpI {ns:List Nd} (f:Zb9 ns=true):∃b:List Tok,b.map kt=Zn1 ns/\ZbK (Zcc ns) 0=.ok (b++[(3,[],(Zcc ns).length)]):=by
 have R:=Zf7 f;have a:ns[0]? = Ya (Zb ns 0):=by have a:ns[0]? = Ya (ns[0]'R.some_):=Ym R.some_;rw[a,<-Zcg (k:=0) a];rfl
 have g:Zcc ns=Zbv 0 ((Zb ns 0).kids.map fun k=>ZcH ns ns.length (Zb ns k)):=by unfold Zcc;rw[f];rfl
 have L:=Zif 0 (F:=fun k=>ZcH ns ns.length (Zb ns k)) (G:=fun k=>ZcB ns ns.length (Zb ns k)) (Zb ns 0).kids fun k hk=>by
  obtain⟨q,hq⟩:=ZaI R a hk;exact Zr5 R hq (ZfD R k hk).2.2
 rw[<-g]at L;obtain⟨b,h,d⟩:=L [] 0 (fun c r e=>nomatch e);refine⟨b,h,?_⟩;rw[List.append_nil]at d;rw[d,Zie,Nat.zero_add];rfl
end Go.Proofs.YtdkegpkfjgloeaaGreatDoor
