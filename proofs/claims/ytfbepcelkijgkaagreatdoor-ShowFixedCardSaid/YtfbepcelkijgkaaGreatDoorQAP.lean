import Derived.Lib.ItoaLen
import Derived.Test.YtfbepcelkijgkaaGreatDoorQAA
import Derived.Test.YtfbepcelkijgkaaGreatDoorQAE
import Derived.Test.YtfbepcelkijgkaaGreatDoorQAO
set_option maxRecDepth 100000
set_option maxHeartbeats 8000000
namespace Go.Proofs.YtfbepcelkijgkaaGreatDoor
section
def runT:UInt8->Txt->Option UInt8
 |p,[]=>some p
 |p,c::r=>if c=9\/127<=c\/(c=10/\(p=32\/p=10))then none else runT c r
theorem Zg9:∀(a b:Txt) (p:UInt8),runT p (a++b)=(runT p a).bind fun q=>runT q b
 |[],_,_=>rfl
 |c::r,b,p=>by
  rw[List.cons_append,runT,runT]
  split
  ·rfl
  ·exact Zg9 r b c
def Any (x:Txt):Prop:=∀p,∃q,runT p x=some q
def Ends (x:Txt):Prop:=∀p,∃q,runT p x=some q/\33<=q
theorem Ends.any {x:Txt} (h:Ends x):Any x:=fun p=>by
 obtain⟨q,h,_⟩:=h p;exact⟨q,h⟩
theorem any_nil:Any []:=fun p=>⟨p,rfl⟩
theorem Any.app {x y:Txt} (h:Any x) (k:Any y):Any (x++y):=fun p=>by
 obtain⟨q,h⟩:=h p;obtain⟨r,k⟩:=k q;exact⟨r,by rw[Zg9,h];exact k⟩
theorem Any.ends {x y:Txt} (h:Any x) (k:Ends y):Ends (x++y):=fun p=>by
 obtain⟨q,h⟩:=h p;obtain⟨r,k,v⟩:=k q;exact⟨r,by rw[Zg9,h];exact k,v⟩
theorem Ends.line {x:Txt} (h:Ends x):Any (x++[10]):=fun p=>by
 obtain⟨q,h,v⟩:=h p;refine⟨10,?_⟩;rw[Zg9,h];show runT q [10]=some 10;have a:q≠32:=fun e=>by rw[e]at v;exact absurd v (by decide)
 have b:q≠10:=fun e=>by rw[e]at v;exact absurd v (by decide)
 simp[runT,a,b]
def Zi4 (c:UInt8):Bool:=decide (32<=c)&&decide (c<127)
def Words (ns:List Nd):Prop:=∀n∈ns,∀w∈n.words,w.all Zi4=true
end
section
open Go.RowKit
theorem ZoP {c:UInt8} (h:Za2 c=true):Zi4 c=true:=by
 have a:∀k:Fin 256,Za2 (UInt8.ofNat k.val)=true->Zi4 (UInt8.ofNat k.val)=true:=by decide +kernel
 have:=a ⟨c.toNat,c.toNat_lt⟩;simp only[UInt8.ofNat_toNat]at this;exact this h
theorem ZiA {f:UInt8->Bool}:∀(l:List UInt8),Zao f l=l.length->l.all f=true
 |[],_=>rfl
 |c::r,h=>by
  unfold Zao at h;rw[List.all_cons];cases hc:f c
  ·simp[hc]at h
  ·simp[hc]at h⊢;simpa using ZiA r h
theorem Znx {w:Txt} (h:ZN w=true):w.all Zi4=true/\w.length<=16:=by unfold ZN at h;simp only[Bool.and_eq_true,decide_eq_true_eq]at h;obtain⟨⟨⟨_,a⟩,hs⟩,_⟩:=h;refine⟨List.all_eq_true.mpr fun c hc=>ZoP (List.all_eq_true.mp (ZiA _ hs) c hc),a⟩
end
section
abbrev TS:=List (Nat×Txt)
def kt (t:Tok):Nat×Txt:=(t.1,t.2.1)
def Za3 (c:UInt8):Bool:=!Za2 c&&!(c==61)&&!(c==62)
def Za0 (c:UInt8):Bool:=!(c==61)&&!(c==62)
def ZcL (_:UInt8):Bool:=true
theorem Zbu {c:UInt8} (h:Za3 c=true):Za0 c=true:=by unfold Za3 at h;unfold Za0;simp only[Bool.and_eq_true]at h⊢;exact⟨h.1.2,h.2⟩
def Lx (x:Txt) (us:TS) (o:UInt8->Bool):Prop:=∀(b:Txt) (a:Nat),(∀c r,b=c::r->o c=true)->∃d:List Tok,d.map kt=us/\Zbv (x++b) a=(Zbv b (a+x.length)).pre d
theorem Lx.nil (o:UInt8->Bool):Lx [] [] o:=fun b a _=>⟨[],rfl,by rw[LexAns.pre_nil];rfl⟩
theorem Lx.less {x:Txt} {us:TS} {o d:UInt8->Bool} (h:Lx x us o) (k:∀c,d c=true->o c=true):Lx x us d:=fun b a f=>h b a fun c r e=>k c (f c r e)
theorem LexAns.pre_pre (x:LexAns) (us vs:List Tok):(x.pre vs).pre us=x.pre (us++vs):=by
 cases x with
 |bad a=>rfl
 |ok l=>simp[LexAns.pre]
theorem Lx.app {x y:Txt} {us vs:TS} {o f:UInt8->Bool} (h:Lx x us o) (k:Lx y vs f) (hd:∀c r,y=c::r->o c=true) (j:y=[]->∀c,f c=true->o c=true):Lx (x++y) (us++vs) f:=fun b a i=>by
 obtain⟨m,g,p⟩:=k b (a+x.length) i
 obtain⟨l,e1,n⟩:=h (y++b) a (fun c r e=>by
  cases y with
  |nil=>exact j rfl c (i c r e)
  |cons d s=>
   injection e with e1 g;subst e1
   exact hd d s rfl)
 refine⟨l++m,by rw[List.map_append,e1,g],?_⟩;rw[List.append_assoc,n,p,LexAns.pre_pre,Yj,Nat.add_assoc]
def Tx (x:Txt) (us:TS) (h o:UInt8->Bool):Prop:=Lx x us o/\∃c r,x=c::r/\h c=true
theorem Tx.app {x y:Txt} {us vs:TS} {h o f g:UInt8->Bool} (a:Tx x us h o) (b:Tx y vs f g) (k:∀c,f c=true->o c=true):Tx (x++y) (us++vs) h g:=by obtain⟨c,r,rfl,hc⟩:=a.2;obtain⟨d,s,rfl,hd⟩:=b.2;exact⟨a.1.app b.1 (fun c r e=>by injection e with e1;subst e1;exact k _ hd) (fun e=>nomatch e),c,r++d::s,rfl,hc⟩
theorem Tx.opt {x y:Txt} {us vs:TS} {h o d:UInt8->Bool} (a:Tx x us h o) (b:Lx y vs d) (hd:∀c r,y=c::r->o c=true) (e:∀c,d c=true->o c=true):Tx (x++y) (us++vs) h d:=by obtain⟨c,r,rfl,hc⟩:=a.2;exact⟨a.1.app b hd (fun _=>e),c,r++y,rfl,hc⟩
theorem Tx.head {x:Txt} {us:TS} {h b o:UInt8->Bool} (a:Tx x us h o) (k:∀c,h c=true->b c=true):Tx x us b o:=by obtain⟨c,r,e,hc⟩:=a.2;exact⟨a.1,c,r,e,k c hc⟩
theorem Tx.less {x:Txt} {us:TS} {h o b:UInt8->Bool} (a:Tx x us h o) (k:∀c,b c=true->o c=true):Tx x us h b:=⟨a.1.less k,a.2⟩
theorem Zly {c:UInt8} (d:ZdX c=true) {h:UInt8->Bool} (hc:h c=true):Tx [c] [] h ZcL:=
 ⟨fun b a _=>⟨[],rfl,by rw[LexAns.pre_nil];exact Zk7 d⟩,c,[],rfl,hc⟩
theorem ZjC {x rest:Txt} {c:UInt8} {q:Txt} {a k:Nat} (hx:x=c::q) (d:ZaJ (c::(q++rest))=(k,x.length,true)):Zbv (x++rest) a=(Zbv rest (a+x.length)).pre [(k,x,a)]:=by
 subst hx;have b:=ZkP (r:=q++rest) (c:=c) (by rw[d]);have e:ZO (c::(q++rest))=0:=ZgM b.1 b.2;have hd:(c::(q++rest)).drop (ZO (c::(q++rest)))=c::(q++rest):=by rw[e];rfl
 rw[List.cons_append,Ze6 hd (by rw[d]),d,e];dsimp only;have e1:(c::(q++rest)).drop (c::q).length=rest:=by rw[<-List.cons_append,List.drop_left]
 have f:(c::(q++rest)).take (c::q).length=c::q:=by rw[<-List.cons_append,List.take_left]
 rw[e1,f];cases Zbv rest (a+0+(c::q).length)<;>rfl
theorem ZrL {c:UInt8} (h:Za3 c=true):Za2 c=false/\ZaU c=false/\c≠61/\c≠62:=by unfold Za3 at h;simp only[Bool.and_eq_true,Bool.not_eq_true',beq_eq_false_iff_ne]at h;refine⟨h.1.1,?_,h.1.2,h.2⟩;have:=h.1.1;unfold Za2 at this;unfold ZaU;rw[Bool.or_eq_false_iff]at this;exact this.2
theorem ZpD {c:UInt8} {q:Txt} {k:Nat} (e:ZaJ (c::q)=(k,(c::q).length,true)) {h:UInt8->Bool} (hc:h c=true):Tx (c::q) [(k,c::q)] h Za3:=by
 refine⟨fun b a l=>⟨[(k,c::q,a)],rfl,ZjC rfl ?_⟩,c,q,rfl,hc⟩;cases b with
 |nil=>rw[List.append_nil];exact e
 |cons d s=>
  obtain⟨f,g,i,j⟩:=ZrL (l d s rfl);have:=Znk f g i j s c q;rw[List.cons_append]at this;rw[this];exact e
theorem ZhO {p:UInt8->Bool}:∀(l:Txt),l.all p=true->Zao p l=l.length
 |[],_=>rfl
 |c::r,h=>by
  rw[List.all_cons,Bool.and_eq_true]at h;rw[ZcF,Yo h.1,ZhO r h.2];rfl
theorem Zm2 {c:UInt8} {q:Txt} (a:ZbP c=true) (b:(c::q).all Za2=true):Tx (c::q) [(0,c::q)] Za0 Za3:=
 ZpD (by rw[ZbQ,Yo a,ZhO _ b]) (by
  have d:c≠61:=fun e=>by subst e;exact absurd a (by decide)
  have f:c≠62:=fun e=>by subst e;exact absurd a (by decide)
  simp[Za0,d,f])
theorem Zfa {w:Txt} (h:ZN w=true):Tx w [(0,w)] Za0 Za3:=by
 unfold ZN at h;simp only[Bool.and_eq_true,decide_eq_true_eq]at h;obtain⟨⟨⟨a,_⟩,hs⟩,_⟩:=h;cases w with
 |nil=>cases a
 |cons c q=>exact Zm2 a (ZiA _ hs)
theorem Zsm {c:UInt8} {q:Txt} (a:(c::q).all ZaU=true) (b:(c::q).length<=18):Tx (c::q) [(1,c::q)] Za0 Za3:=by
 have hd:ZaU c=true:=by rw[List.all_cons,Bool.and_eq_true]at a;exact a.1
 have g:ZbP c=false:=by
  cases e:ZbP c with
  |false=>rfl
  |true=>
   unfold ZbP Zf8 at e;unfold ZaU Zfx at hd;simp at e hd;omega
 exact ZpD (by rw[ZbQ,Yn (by simp[g]),Yo hd,ZhO _ a,decide_eq_true b]) (by
  have d:c≠61:=fun e=>by subst e;exact absurd hd (by decide)
  have f:c≠62:=fun e=>by subst e;exact absurd hd (by decide)
  simp[Za0,d,f])
theorem Zda {c:UInt8} (h:c∈Zb8) {p:UInt8->Bool} (f:p c=true):Tx [c] [(2,[c])] p Za0:=by
 refine⟨fun b a g=>⟨[(2,[c],a)],rfl,ZjC rfl ?_⟩,c,[],rfl,f⟩;have e:∀d∈Zb8,ZbP d=false/\ZaU d=false:=by decide
 obtain⟨i,j⟩:=e c h;rw[List.nil_append,ZbQ,Yn (by simp[i]),Yn (by simp[j]),Zex];cases b with
 |nil=>rw[Yn (by simp),Yo h];rfl
 |cons d s=>
  have hd:=g d s rfl;unfold Za0 at hd;simp only[Bool.and_eq_true,Bool.not_eq_true',beq_eq_false_iff_ne]at hd;rw[Yn (by simp[hd.1,hd.2]),Yo h];rfl
theorem ZpE {c d:UInt8} (h:(c=61/\d=61)\/(c=45/\d=62)) {p:UInt8->Bool} (e:p c=true):Tx [c,d] [(2,[c,d])] p ZcL:=by
 refine⟨fun b a _=>⟨[(2,[c,d],a)],rfl,ZjC rfl ?_⟩,c,[d],rfl,e⟩;rcases h with⟨rfl,rfl⟩|⟨rfl,rfl⟩
 ·rw[ZbQ,Yn (by decide),Yn (by decide),Zex];rfl
 ·rw[ZbQ,Yn (by decide),Yn (by decide),Zex];rfl
end
section
def Zdx (c:UInt8):Bool:=c==32||c==10
theorem Zcq {c:UInt8} (h:Zdx c=true):Za3 c=true:=by
 unfold Zdx at h;simp only[Bool.or_eq_true,beq_iff_eq]at h;rcases h with rfl|rfl<;>decide
theorem ZeA {c:UInt8} (h:Zdx c=true):Za0 c=true:=Zbu (Zcq h)
theorem ZU {p:UInt8->Bool}:∀c,p c=true->ZcL c=true:=fun _ _=>rfl
theorem ZbS {p:UInt8->Bool}:∀c,p c=true->p c=true:=fun _ h=>h
theorem Zdv:Tx [32] [] Zdx ZcL:=Zly (by decide) (by decide)
theorem Zq0:Tx [10] [] Zdx ZcL:=Zly (by decide) (by decide)
theorem Tx.sp {x:Txt} {us:TS} {h:UInt8->Bool} (a:Tx x us h Za3):Tx (x++[32]) us h ZcL:=by have:=a.app Zdv fun c=>Zcq;simpa using this
theorem Zm0:Tx [59] [(2,[59])] Za3 Za0:=Zda (by decide) (by decide)
theorem Tx.semi {x:Txt} {us:TS} {h:UInt8->Bool} (a:Tx x us h Za3):Tx (x++[59]) (us++[(2,[59])]) h Za0:=a.app Zm0 ZbS
theorem ZjL:Tx [40] [(2,[40])] Za3 Za0:=Zda (by decide) (by decide)
theorem Zhb:Tx [41] [(2,[41])] Za3 Za0:=Zda (by decide) (by decide)
theorem ZqP:Tx [45] [(2,[45])] Za0 Za0:=Zda (by decide) (by decide)
theorem ZeL {c:UInt8} (h:c∈Zb8):Tx [32,c,32] [(2,[c])] Zdx ZcL:=by have a:Tx [c] [(2,[c])] ZcL Za0:=Zda h rfl;have:=(Zdv.app a ZU).app Zdv fun c=>ZeA;simpa using this
theorem Zkv {w:Txt} {c:UInt8} {q:Txt} (e:w=c::q) (a:ZbP c=true) (b:(c::q).all Za2=true):Tx w [(0,w)] Za0 Za3:=by subst e;exact Zm2 a b
theorem ZiG:∀(k u:Nat),u<10 ^ (k+1)->(Lib.decDigits u).all ZaU=true/\(Lib.decDigits u).length<=k+1/\Lib.decDigits u≠[]
 |k,u,hu=>by
  rw[Lib.decDigits]
  split
  ·rename_i h
   have:u=0\/u=1\/u=2\/u=3\/u=4\/u=5\/u=6\/u=7\/u=8\/u=9:=by omega
   refine⟨?_,by simp,by simp⟩;rcases this with rfl|rfl|rfl|rfl|rfl|rfl|rfl|rfl|rfl|rfl<;>decide
  ·rename_i h
   cases k with
   |zero=>simp at hu;omega
   |succ k=>
    have hq:u / 10<10 ^ (k+1):=by rw[Nat.pow_succ]at hu;omega
    obtain⟨a,i2,i3⟩:=ZiG k (u / 10) hq;have hm:u % 10<10:=Nat.mod_lt _ (by decide);have:u % 10=0\/u % 10=1\/u % 10=2\/u % 10=3\/u % 10=4\/u % 10=5\/u % 10=6\/u % 10=7\/u % 10=8\/u % 10=9:=by omega
    refine⟨?_,by simp only[Yj,Yk,Yl];omega,by simp⟩;rw[List.all_append,a];rcases this with e|e|e|e|e|e|e|e|e|e<;>rw[e]<;>decide
theorem Zlz {n:Int} (h:ZaH n):Tx (ZbM n) [(1,ZbM n)] Za0 Za3:=by
 unfold ZaH at h;obtain⟨u,rfl⟩:=Int.eq_ofNat_of_zero_le h.1;have e:ZbM (u:Int)=Lib.decDigits u:=by
  unfold ZbM Lib.itoa;rw[Yn (by omega)]
  congr 1
 obtain⟨a,b,d⟩:=ZiG 17 u (by omega);rw[e];cases hd:Lib.decDigits u with
 |nil=>exact absurd hd d
 |cons c q=>
  rw[hd]at a b;exact Zsm a b
def Zaj (s:TS):List TS->TS
 |[]=>[]
 |[x]=>x
 |x::y::r=>x++s++Zaj s (y::r)
theorem ZhR {d:Type} {F:d->Txt} {G:d->TS} {s:Txt} {k:TS} {h o hs j:UInt8->Bool} (f:Tx s k hs j) (g:∀c,hs c=true->o c=true) (i:∀c,h c=true->j c=true):∀(l:List d),l≠[]->(∀a∈l,Tx (F a) (G a) h o)->Tx (Zak s (l.map F)) (Zaj k (l.map G)) h o
 |[],e,_=>absurd rfl e
 |[a],_,ha=>ha a (by simp)
 |a::b::r,_,ha=>((ha a (by simp)).app f g).app (ZhR f g i (b::r) (by simp) fun x hx=>ha x (by simp[hx])) i
theorem ZoU (d:Nat):Lx (Zdf d) [] ZcL:=by
 unfold Zdf;generalize 2*d=m
 induction m with
 |zero=>exact Lx.nil _
 |succ m a=>
  have:Lx ([32]++List.replicate m 32) ([]++[]) ZcL:=Zdv.1.app a (fun _ _ _=>rfl) (fun _ _ _=>rfl);exact this
theorem Zio {b:Type} {F:b->Txt} {G:b->TS} (d:Nat):∀(l:List b),(∀a∈l,Tx (F a) (G a) Za0 Za3)->Lx (Zbo d (l.map F)) (l.map G).flatten ZcL
 |[],_=>Lx.nil _
 |a::r,h=>by
  have f:Lx (Zdf d++F a) ([]++G a) Za3:=(ZoU d).app (h a (by simp)).1 (fun _ _ _=>rfl) (fun _ _ _=>rfl);have g:Lx (Zdf d++F a++[10]) ([]++G a++[]) ZcL:=f.app Zq0.1 (fun c r e=>by injection e with e1;subst e1;decide) (fun e=>nomatch e);have i:=g.app (Zio d r fun x hx=>h x (by simp[hx])) (fun _ _ _=>rfl) (fun _ _ _=>rfl);have e1:Zbo d ((a::r).map F)=Zdf d++F a++[10]++Zbo d (r.map F):=by unfold Zbo;simp
  rw[e1];simpa using i
def Zaw (a:List TS):TS:=[(2,[123])]++a.flatten++[(2,[125])]
theorem Zgr {b:Type} {F:b->Txt} {G:b->TS} (d:Nat) (l:List b) (h:∀a∈l,Tx (F a) (G a) Za0 Za3):Tx (ZI d (l.map F)) (Zaw (l.map G)) Zdx Za0:=by
 have f:Tx [123] [(2,[123])] ZcL Za0:=Zda (by decide) rfl;have g:Tx [125] [(2,[125])] ZcL Za0:=Zda (by decide) rfl;cases l with
 |nil=>
  have:=((Zdv.app f ZU).app Zdv fun c=>ZeA).app g ZU;simpa[ZI,Zaw]using this
 |cons a r=>
  have j:=(Zdv.app f ZU).app Zq0 fun c=>ZeA;have k:=(Zio (d+1) (a::r) h).app (ZoU d) (fun _ _ _=>rfl) (fun _ _ _=>rfl);have m:=k.app g.1 (fun _ _ _=>rfl) (fun e=>nomatch e);have n:=j.opt m (fun _ _ _=>rfl) (fun _ _=>rfl);have e1:ZI d ((a::r).map F)=[32]++[123]++[10]++(Zbo (d+1) ((a::r).map F)++Zdf d++[125]):=by simp[ZI]
  rw[e1];have i:Zaw ((a::r).map G)=[]++[(2,[123])]++[]++(((a::r).map G).flatten++[]++[(2,[125])]):=by simp[Zaw]
  rw[i];exact n
def ZhZ (k:Int):TS:=if k=0 then [(2,[60])]else if k=1 then [(2,[61,61])]else if k=2 then [(2,[43])]else if k=3 then [(2,[45])]else if k=4 then [(2,[42])]else [(2,[47])]
theorem ZqR (k:Int):Tx (Zcg k) (ZhZ k) Zdx ZcL:=by
 unfold Zcg ZhZ;have a:Tx [61,61] [(2,[61,61])] ZcL ZcL:=ZpE (.inl ⟨rfl,rfl⟩) rfl;have:=(Zdv.app a ZU).app Zdv ZU
 split
 ·exact ZeL (by decide)
 split
 ·simpa using this
 split
 ·exact ZeL (by decide)
 split
 ·exact ZeL (by decide)
 split
 ·exact ZeL (by decide)
 ·exact ZeL (by decide)
def ZR (ns:List Nd):Nat->Nd->TS
 |0,_=>[]
 |f+1,n=>
  let b:=fun(m:Nd) (a:Nat)=>if a<=ZB m then ZR ns f m else [(2,[40])]++ZR ns f m++[(2,[41])]
  if n.kind=20 then [(1,ZbM (num n 0))]
  else if n.kind=21 then [(0,word n 0)]
  else if n.kind=23 then [(2,[45])]++b (Zv ns n 0) 3
  else if n.kind=22 then b (Zv ns n 0) (max (ZB n) 1)++ZhZ (num n 0)++b (Zv ns n 1) (ZB n+1)
  else []
theorem ZgD {ns:List Nd} (R:RightP ns) {i:Nat} {d:Nd} (hd:ns[i]? = some d) {k:Nat} {s:Txt} (h:d.words[k]? = some s):ZN s=true:=List.all_eq_true.mp (R.node i d hd).1 s (List.mem_of_getElem? h)
theorem ZaA {ns:List Nd} (R:RightP ns) {i:Nat} {d:Nd} (hd:ns[i]? = some d) {k:Int} (hk:k∈d.kids):∃j:Nat,ns[j]? = some (Za ns k):=by obtain⟨m,e,rfl,_,_,a,b,_⟩:=Zf6 R hd hk;exact⟨m,by rw[b];exact a⟩
theorem Za1 {ns:List Nd} {d:Nd} {m:Nat} {k:Int} (hk:d.kids[m]? = some k):Zv ns d m=Za ns k:=by unfold Zv atI;rw[Int.toNat_natCast,hk];rfl
theorem Zh1 {ns:List Nd} (R:RightP ns):∀(f i:Nat) (n:Nd),ns[i]? = some n->ZS ns f n->Tx (ZD ns f n) (ZR ns f n) Za0 Za3
 |0,_,_,_,h=>h.elim
 |f+1,i,n,hn,h=>by
  have t:∀(m:Nat) (k:Int) (l:Nat),n.kids[m]? = some k->ZS ns f (Za ns k)->Tx (if l<=ZB (Zv ns n m)then ZD ns f (Zv ns n m)else [40]++ZD ns f (Zv ns n m)++[41]) (if l<=ZB (Zv ns n m)then ZR ns f (Zv ns n m)else [(2,[40])]++ZR ns f (Zv ns n m)++[(2,[41])]) Za0 Za3:=fun m k l hk hv=>by
   obtain⟨j,w⟩:=ZaA R hn (List.mem_of_getElem? hk);rw[Za1 hk];have e:=Zh1 R f j _ w hv
   split
   ·exact e
   ·have:=(ZjL.app e ZbS).app Zhb ZbS;exact(this.head fun c=>Zbu).less fun c=>Zbu
  obtain⟨A,⟨hk,v,r,hv,z,b⟩|⟨hk,s,r,hs⟩|⟨hk,k,g,p,hv⟩|⟨hk,j,k,g,y,hv,o,p,q⟩⟩:=h
  ·have e:ZD ns (f+1) n=ZbM (num n 0):=by simp[ZD,hk]
   have a:ZR ns (f+1) n=[(1,ZbM (num n 0))]:=by simp[ZR,hk]
   rw[e,a];have d:num n 0=v:=by unfold num;rw[hv];rfl
   rw[d];exact Zlz (ZaR (R.node i n hn).2.1 (by rw[hv];simp))
  ·have e:ZD ns (f+1) n=word n 0:=by simp[ZD,hk]
   have a:ZR ns (f+1) n=[(0,word n 0)]:=by simp[ZR,hk]
   rw[e,a];have d:word n 0=s:=by unfold word;rw[hs];rfl
   rw[d];exact Zfa (ZgD R hn (k:=0) (by rw[hs];rfl))
  ·have b:=t 0 k 3 g hv;have e:ZD ns (f+1) n=[45]++(if 3<=ZB (Zv ns n 0)then ZD ns f (Zv ns n 0)else [40]++ZD ns f (Zv ns n 0)++[41]):=by simp[ZD,hk]
   have a:ZR ns (f+1) n=[(2,[45])]++(if 3<=ZB (Zv ns n 0)then ZR ns f (Zv ns n 0)else [(2,[40])]++ZR ns f (Zv ns n 0)++[(2,[41])]):=by simp[ZR,hk]
   rw[e,a];exact ZqP.app b ZbS
  ·have b:=t 0 j (max (ZB n) 1) g hv;have u:=t 1 k (ZB n+1) o q;have e:ZD ns (f+1) n=(if max (ZB n) 1<=ZB (Zv ns n 0)then ZD ns f (Zv ns n 0)else [40]++ZD ns f (Zv ns n 0)++[41])++Zcg (num n 0)++(if ZB n+1<=ZB (Zv ns n 1)then ZD ns f (Zv ns n 1)else [40]++ZD ns f (Zv ns n 1)++[41]):=by simp[ZD,hk]
   have a:ZR ns (f+1) n=(if max (ZB n) 1<=ZB (Zv ns n 0)then ZR ns f (Zv ns n 0)else [(2,[40])]++ZR ns f (Zv ns n 0)++[(2,[41])])++ZhZ (num n 0)++(if ZB n+1<=ZB (Zv ns n 1)then ZR ns f (Zv ns n 1)else [(2,[40])]++ZR ns f (Zv ns n 1)++[(2,[41])]):=by simp[ZR,hk]
   rw[e,a];exact(b.app (ZqR _) fun c=>Zcq).app u ZU
end
end Go.Proofs.YtfbepcelkijgkaaGreatDoor
