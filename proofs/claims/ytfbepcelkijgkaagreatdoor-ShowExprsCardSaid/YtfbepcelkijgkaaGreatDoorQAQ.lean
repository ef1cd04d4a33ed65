import Derived.Test.YtfbepcelkijgkaaGreatDoorQAB
import Derived.Test.YtfbepcelkijgkaaGreatDoorQAP
set_option maxRecDepth 100000
set_option maxHeartbeats 8000000
namespace Go.Proofs.YtfbepcelkijgkaaGreatDoor
section
theorem Zhs {p:UInt8->Bool} {c:UInt8} (h:p c=false) (b:List UInt8):∀m:List UInt8,Zaq p (m++c::b)=Zaq p m
 |[]=>by rw[List.nil_append,Zcx,Yn (by simp[h]),Zpw]
 |d::r=>by rw[List.cons_append,Zcx,Zcx,Zhs h b r]
def LexAns.join (y:LexAns):LexAns->LexAns
 |.bad a=>.bad a
 |.ok l=>y.pre l.dropLast
end
section
theorem Zm2 {x:UInt8} (a:ZaW x=false) (f:Zbi x=false) (g:x≠61) (h:x≠62) (b:List UInt8) (c:UInt8) (r:List UInt8):Za9 (c::r++x::b)=Za9 (c::r):=by
 have e:c::r++x::b=c::(r++x::b):=rfl;have i:Zaq ZaW (c::(r++x::b))=Zaq ZaW (c::r):=by rw[<-e];exact Zhs a b (c::r)
 have j:Zaq Zbi (c::(r++x::b))=Zaq Zbi (c::r):=by rw[<-e];exact Zhs f b (c::r)
 have k:Zfs (c::(r++x::b))=Zfs (c::r):=by
  rw[Zek,Zek];cases r with
  |nil=>simp[g,h]
  |cons d r=>rfl
 rw[e,ZbU,ZbU,i,j,k]
theorem ZnS {c:UInt8} (r:List UInt8) (a:c≠61) (b:c≠45) (d:c ∉ ZbT):Zfs (c::r)=none:=by rw[Zek,Yn (by simp[a,b]),Yn d]
theorem Zot {c:UInt8} (r:List UInt8) (a:ZbN c=false) (b:Zbi c=false) (d:c ∉ ZbT) (e:c≠61) (f:c≠45):(Za9 (c::r)).2.2=false:=by rw[ZbU,Yn (by simp[a]),Yn (by simp[b]),ZnS r e f d]
theorem Zkw {c:UInt8} {r:List UInt8} (h:(Za9 (c::r)).2.2=true):ZdK c=false/\(c==35)=false:=by
 have a:∀d:UInt8,ZbN d=false->Zbi d=false->d ∉ ZbT->d≠61->d≠45->c≠d:=fun d b a2 a3 a4 a5 e=>by
  subst e;rw[Zot r b a2 a3 a4 a5]at h;cases h
 have f:=a 32 (by decide) (by decide) (by decide) (by decide) (by decide);have g:=a 9 (by decide) (by decide) (by decide) (by decide) (by decide);have i:=a 10 (by decide) (by decide) (by decide) (by decide) (by decide);have j:=a 13 (by decide) (by decide) (by decide) (by decide) (by decide);have k:=a 35 (by decide) (by decide) (by decide) (by decide) (by decide);refine⟨?_,by simpa using k⟩;unfold ZdK;simp[f,g,i,j]
end
section
abbrev TS:=List (Nat×Txt)
def kt (t:Tok):Nat×Txt:=(t.1,t.2.1)
def ZdI (c:UInt8):Bool:=!ZaW c&&!(c==61)&&!(c==62)
def ZcN (c:UInt8):Bool:=!(c==61)&&!(c==62)
def Zew (_:UInt8):Bool:=true
theorem ZhK {c:UInt8} (h:ZdI c=true):ZcN c=true:=by unfold ZdI at h;unfold ZcN;simp only[Bool.and_eq_true]at h⊢;exact⟨h.1.2,h.2⟩
def Lx (x:Txt) (us:TS) (o:UInt8->Bool):Prop:=∀(b:Txt) (a:Nat),(∀c r,b=c::r->o c=true)->∃d:List Tok,d.map kt=us/\Zby (x++b) a=(Zby b (a+x.length)).pre d
theorem Lx.nil (o:UInt8->Bool):Lx [] [] o:=fun b a _=>⟨[],rfl,by rw[LexAns.pre_nil];rfl⟩
theorem Lx.less {x:Txt} {us:TS} {o d:UInt8->Bool} (h:Lx x us o) (k:∀c,d c=true->o c=true):Lx x us d:=fun b a f=>h b a fun c r e=>k c (f c r e)
theorem LexAns.pre_pre (x:LexAns) (us vs:List Tok):(x.pre vs).pre us=x.pre (us++vs):=by
 cases x with
 |bad a=>rfl
 |ok l=>simp[LexAns.pre]
theorem Lx.app {x y:Txt} {us vs:TS} {o g:UInt8->Bool} (h:Lx x us o) (k:Lx y vs g) (hd:∀c r,y=c::r->o c=true) (l:y=[]->∀c,g c=true->o c=true):Lx (x++y) (us++vs) g:=fun b a j=>by
 obtain⟨n,i,q⟩:=k b (a+x.length) j
 obtain⟨m,f,p⟩:=h (y++b) a (fun c r e=>by
  cases y with
  |nil=>exact l rfl c (j c r e)
  |cons d s=>
   injection e with f i;subst f
   exact hd d s rfl)
 refine⟨m++n,by rw[List.map_append,f,i],?_⟩;rw[List.append_assoc,p,q,LexAns.pre_pre,Yj,Nat.add_assoc]
def Tx (x:Txt) (us:TS) (h o:UInt8->Bool):Prop:=Lx x us o/\∃c r,x=c::r/\h c=true
theorem Tx.app {x y:Txt} {us vs:TS} {h o f g:UInt8->Bool} (a:Tx x us h o) (b:Tx y vs f g) (k:∀c,f c=true->o c=true):Tx (x++y) (us++vs) h g:=by obtain⟨c,r,rfl,hc⟩:=a.2;obtain⟨d,s,rfl,hd⟩:=b.2;exact⟨a.1.app b.1 (fun c r e=>by injection e with e1;subst e1;exact k _ hd) (fun e=>nomatch e),c,r++d::s,rfl,hc⟩
theorem Tx.head {x:Txt} {us:TS} {h b o:UInt8->Bool} (a:Tx x us h o) (k:∀c,h c=true->b c=true):Tx x us b o:=by obtain⟨c,r,e,hc⟩:=a.2;exact⟨a.1,c,r,e,k c hc⟩
theorem Tx.less {x:Txt} {us:TS} {h o b:UInt8->Bool} (a:Tx x us h o) (k:∀c,b c=true->o c=true):Tx x us h b:=⟨a.1.less k,a.2⟩
theorem ZqA {c:UInt8} (d:ZdK c=true) {h:UInt8->Bool} (hc:h c=true):Tx [c] [] h Zew:=
 ⟨fun b a _=>⟨[],rfl,by rw[LexAns.pre_nil];exact ZkH d⟩,c,[],rfl,hc⟩
theorem Zje {x rest:Txt} {c:UInt8} {q:Txt} {a k:Nat} (hx:x=c::q) (d:Za9 (c::(q++rest))=(k,x.length,true)):Zby (x++rest) a=(Zby rest (a+x.length)).pre [(k,x,a)]:=by
 subst hx;have b:=Zkw (r:=q++rest) (c:=c) (by rw[d]);have e:ZU (c::(q++rest))=0:=Zgu b.1 b.2;have hd:(c::(q++rest)).drop (ZU (c::(q++rest)))=c::(q++rest):=by rw[e];rfl
 rw[List.cons_append,ZfO hd (by rw[d]),d,e];dsimp only;have f:(c::(q++rest)).drop (c::q).length=rest:=by rw[<-List.cons_append,List.drop_left]
 have g:(c::(q++rest)).take (c::q).length=c::q:=by rw[<-List.cons_append,List.take_left]
 rw[f,g];cases Zby rest (a+0+(c::q).length)<;>rfl
theorem Zru {c:UInt8} (h:ZdI c=true):ZaW c=false/\Zbi c=false/\c≠61/\c≠62:=by unfold ZdI at h;simp only[Bool.and_eq_true,Bool.not_eq_true',beq_eq_false_iff_ne]at h;refine⟨h.1.1,?_,h.1.2,h.2⟩;have:=h.1.1;unfold ZaW at this;unfold Zbi;rw[Bool.or_eq_false_iff]at this;exact this.2
theorem ZpB {c:UInt8} {q:Txt} {k:Nat} (e:Za9 (c::q)=(k,(c::q).length,true)) {h:UInt8->Bool} (hc:h c=true):Tx (c::q) [(k,c::q)] h ZdI:=by
 refine⟨fun b a l=>⟨[(k,c::q,a)],rfl,Zje rfl ?_⟩,c,q,rfl,hc⟩;cases b with
 |nil=>rw[List.append_nil];exact e
 |cons d s=>
  obtain⟨f,g,i,j⟩:=Zru (l d s rfl);have:=Zm2 f g i j s c q;rw[List.cons_append]at this;rw[this];exact e
theorem Zht {p:UInt8->Bool}:∀(l:Txt),l.all p=true->Zaq p l=l.length
 |[],_=>rfl
 |c::r,h=>by
  rw[List.all_cons,Bool.and_eq_true]at h;rw[Zcx,Yo h.1,Zht r h.2];rfl
theorem ZmK {c:UInt8} {q:Txt} (a:ZbN c=true) (b:(c::q).all ZaW=true):Tx (c::q) [(0,c::q)] ZcN ZdI:=
 ZpB (by rw[ZbU,Yo a,Zht _ b]) (by
  have d:c≠61:=fun e=>by subst e;exact absurd a (by decide)
  have f:c≠62:=fun e=>by subst e;exact absurd a (by decide)
  simp[ZcN,d,f])
theorem ZmI {w:Txt} (h:ZQ w=true):Tx w [(0,w)] ZcN ZdI:=by
 unfold ZQ at h;simp only[Bool.and_eq_true,decide_eq_true_eq]at h;obtain⟨⟨⟨a,_⟩,b⟩,_⟩:=h;cases w with
 |nil=>cases a
 |cons c q=>exact ZmK a (Zij _ b)
theorem Zsa {c:UInt8} {q:Txt} (a:(c::q).all Zbi=true) (b:(c::q).length<=18):Tx (c::q) [(1,c::q)] ZcN ZdI:=by
 have hd:Zbi c=true:=by rw[List.all_cons,Bool.and_eq_true]at a;exact a.1
 have g:ZbN c=false:=by
  cases e:ZbN c with
  |false=>rfl
  |true=>
   unfold ZbN ZfN at e;unfold Zbi ZfI at hd;simp at e hd;omega
 exact ZpB (by rw[ZbU,Yn (by simp[g]),Yo hd,Zht _ a,decide_eq_true b]) (by
  have d:c≠61:=fun e=>by subst e;exact absurd hd (by decide)
  have f:c≠62:=fun e=>by subst e;exact absurd hd (by decide)
  simp[ZcN,d,f])
theorem ZeV {c:UInt8} (h:c∈ZbT) {p:UInt8->Bool} (f:p c=true):Tx [c] [(2,[c])] p ZcN:=by
 refine⟨fun b a g=>⟨[(2,[c],a)],rfl,Zje rfl ?_⟩,c,[],rfl,f⟩;have e:∀d∈ZbT,ZbN d=false/\Zbi d=false:=by decide
 obtain⟨i,j⟩:=e c h;rw[List.nil_append,ZbU,Yn (by simp[i]),Yn (by simp[j]),Zek];cases b with
 |nil=>rw[Yn (by simp),Yo h];rfl
 |cons d s=>
  have hd:=g d s rfl;unfold ZcN at hd;simp only[Bool.and_eq_true,Bool.not_eq_true',beq_eq_false_iff_ne]at hd;rw[Yn (by simp[hd.1,hd.2]),Yo h];rfl
theorem Zsb {c d:UInt8} (h:(c=61/\d=61)\/(c=45/\d=62)) {p:UInt8->Bool} (e:p c=true):Tx [c,d] [(2,[c,d])] p Zew:=by
 refine⟨fun b a _=>⟨[(2,[c,d],a)],rfl,Zje rfl ?_⟩,c,[d],rfl,e⟩;rcases h with⟨rfl,rfl⟩|⟨rfl,rfl⟩
 ·rw[ZbU,Yn (by decide),Yn (by decide),Zek];rfl
 ·rw[ZbU,Yn (by decide),Yn (by decide),Zek];rfl
end
end Go.Proofs.YtfbepcelkijgkaaGreatDoor
