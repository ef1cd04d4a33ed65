import Derived.Lib.ItoaNum
import Derived.Lib.AppendStr
import Derived.Test.YtdkegpkfjgloeaaGreatDoorQAA
import Derived.Test.YtdkegpkfjgloeaaGreatDoorQAC
set_option maxRecDepth 100000
set_option maxHeartbeats 8000000
open Option renaming some → Ya, none → Yb
open Go.Value renaming slice → Yc
open Go renaming World → Yh, Value → Yi
open Go.RowKit
namespace Go.Proofs.YtdkegpkfjgloeaaGreatDoor
def Za7 (w:Yh) (v:Yi) (l:List Int):Prop:=∃A c,v=Yc A l.length c/\l.length<=c/\c<=maxLen/\ZO w w.heap.size 1 A l.length (l.map (Value.int .i64))
theorem Za7.below {w w':Yh} {v:Yi} {l:List Int} (h:Za7 w v l) (a:Below w.heap.size w w'):Za7 w' v l:=by obtain⟨A,c,b,d,e,f⟩:=h;exact⟨A,c,b,d,e,(f.below a).more a.size⟩
theorem Za7.nil (w:Yh):Za7 w (Yc Yb 0 0) []:=⟨Yb,0,rfl,Nat.le_refl _,by decide,ZO.none_⟩
theorem Za7.len {w:Yh} {v:Yi} {l:List Int} (h:Za7 w v l):l.length<=maxLen:=by obtain⟨_,_,_,a,b,_⟩:=h;omega
theorem ints_at {w wr:Yh} {A:Option Addr} {n k:Nat} {l:List Int} {x:Int} (c:ZO w w.heap.size 1 A n (l.map (Value.int .i64))) (d:Below w.heap.size w wr) (hx:l[k]? = Ya x) (hn:0<n) :
  ∃a,A=Ya a/\wr.cell? (a.add k)=Ya (.int .i64 x):=by
 obtain⟨a,e,b,hc⟩:=c.2 hn;exact⟨a,e,(d.cell (p:=a.add k) (by rw[Zbq];exact b)).trans (hc k _ (by rw[List.getElem?_map,hx];rfl))⟩
def Zdt (w:Yh) (v:Yi) (l:List (List UInt8)):Prop:=∃A c,v=Yc A l.length c/\l.length<=c/\c<=maxLen/\ZO w w.heap.size 1 A l.length (l.map txt)/\∀s∈l,s.length<=maxLen
theorem Zdt.below {w w':Yh} {v:Yi} {l:List (List UInt8)} (h:Zdt w v l) (a:Below w.heap.size w w'):Zdt w' v l:=by obtain⟨A,c,b,d,e,f,g⟩:=h;exact⟨A,c,b,d,e,(f.below a).more a.size,g⟩
theorem Zdt.nil (w:Yh):Zdt w (Yc Yb 0 0) []:=⟨Yb,0,rfl,Nat.le_refl _,by decide,ZO.none_,fun s a=>by cases a⟩
theorem Zdt.len {w:Yh} {v:Yi} {l:List (List UInt8)} (h:Zdt w v l):l.length<=maxLen:=by obtain⟨_,_,_,a,b,_⟩:=h;omega
theorem ZbR {w wr:Yh} {A:Option Addr} {n k:Nat} {l:List (List UInt8)} {x:List UInt8} (c:ZO w w.heap.size 1 A n (l.map txt)) (d:Below w.heap.size w wr) (hx:l[k]? = Ya x) (hn:0<n) :
  ∃a,A=Ya a/\wr.cell? (a.add k)=Ya (txt x):=by
 obtain⟨a,e,b,hc⟩:=c.2 hn;exact⟨a,e,(d.cell (p:=a.add k) (by rw[Zbq];exact b)).trans (hc k _ (by rw[List.getElem?_map,hx];rfl))⟩
abbrev NdV:=Yi×Yi×Yi
def Zax:List (NdV×Nd)->List Yi
 |[]=>[]
 |x::r=>.int .i64 x.2.kind::x.1.1::x.1.2.1::x.1.2.2::.int .i64 x.2.pos::Zax r
theorem Zet:∀l,(Zax l).length=l.length*5
 |[]=>rfl
 |x::r=>by
  simp only[Zax,Yk,Zet r];omega
theorem Zf3:∀(l m:List (NdV×Nd)),Zax (l++m)=Zax l++Zax m
 |[],m=>rfl
 |x::r,m=>by rw[List.cons_append,Zax,Zax,Zf3 r m];rfl
theorem ZeO:∀(l:List (NdV×Nd)) (k:Nat) (x:NdV×Nd),l[k]? = Ya x->(Zax l)[k*5]? = Ya (.int .i64 x.2.kind)/\(Zax l)[k*5+1]? = Ya x.1.1/\(Zax l)[k*5+2]? = Ya x.1.2.1/\(Zax l)[k*5+3]? = Ya x.1.2.2/\(Zax l)[k*5+4]? = Ya (.int .i64 x.2.pos)
 |[],k,x,h=>by simp at h
 |y::r,0,x,h=>by
  obtain rfl:y=x:=by simpa using h
  exact⟨rfl,rfl,rfl,rfl,rfl⟩
 |y::r,k+1,x,h=>by
  rw[List.getElem?_cons_succ]at h;obtain⟨a,b,c,d,e⟩:=ZeO r k x h;exact⟨by rw[show(k+1)*5=k*5+1+1+1+1+1 by omega];exact a,by rw[show(k+1)*5+1=k*5+1+1+1+1+1+1 by omega];exact b,by rw[show(k+1)*5+2=k*5+2+1+1+1+1+1 by omega];exact c,by rw[show(k+1)*5+3=k*5+3+1+1+1+1+1 by omega];exact d,by rw[show(k+1)*5+4=k*5+4+1+1+1+1+1 by omega];exact e⟩
def ZU (w:Yh) (x:NdV×Nd):Prop:=Zdt w x.1.1 x.2.words/\Za7 w x.1.2.1 x.2.nums/\Za7 w x.1.2.2 x.2.kids
theorem ZU.below {w w':Yh} {x:NdV×Nd} (h:ZU w x) (a:Below w.heap.size w w'):ZU w' x:=⟨h.1.below a,h.2.1.below a,h.2.2.below a⟩
def Zi (w:Yh) (v:Yi) (ns:List Nd):Prop:=
 ∃A c a,v=Yc A ns.length c/\ns.length<=c/\c<=maxLen/\a.map (·.2)=ns/\ZO w w.heap.size 5 A ns.length (Zax a)/\∀x∈a,ZU w x
theorem Zi.below {w w':Yh} {v:Yi} {ns:List Nd} (h:Zi w v ns) (a:Below w.heap.size w w'):Zi w' v ns:=by obtain⟨A,c,j,b,d,e,f,g,i⟩:=h;exact⟨A,c,j,b,d,e,f,(g.below a).more a.size,fun x hx=>(i x hx).below a⟩
theorem Zi.nil (w:Yh):Zi w (Yc Yb 0 0) []:=⟨Yb,0,[],rfl,Nat.le_refl _,by decide,rfl,ZO.none_,fun x hx=>by cases hx⟩
theorem ZaG {w wr:Yh} {A:Option Addr} {n k:Nat} {j:List (NdV×Nd)} {x:NdV×Nd} (s:ZO w w.heap.size 5 A n (Zax j)) (i:Below w.heap.size w wr) (hx:j[k]? = Ya x) (hn:0<n) :
  ∃g,A=Ya g/\wr.cell? (g.add (k*5))=Ya (.int .i64 x.2.kind)/\wr.cell? ⟨(g.add (k*5)).block,(g.add (k*5)).off+1,Yb⟩=Ya x.1.1/\wr.cell? ⟨(g.add (k*5)).block,(g.add (k*5)).off+2,Yb⟩=Ya x.1.2.1/\wr.cell? ⟨(g.add (k*5)).block,(g.add (k*5)).off+3,Yb⟩=Ya x.1.2.2/\wr.cell? ⟨(g.add (k*5)).block,(g.add (k*5)).off+4,Yb⟩=Ya (.int .i64 x.2.pos):=by
 obtain⟨g,e,h,hc⟩:=s.2 hn;obtain⟨a,b,c,d,f⟩:=ZeO j k x hx;have r:=(i.cell (p:=g.add (k*5)) (by rw[Zbq];exact h)).trans (hc _ _ a);have l:=(i.cell (p:=g.add (k*5+1)) (by rw[Zbq];exact h)).trans (hc _ _ b);have m:=(i.cell (p:=g.add (k*5+2)) (by rw[Zbq];exact h)).trans (hc _ _ c);have o:=(i.cell (p:=g.add (k*5+3)) (by rw[Zbq];exact h)).trans (hc _ _ d);have q:=(i.cell (p:=g.add (k*5+4)) (by rw[Zbq];exact h)).trans (hc _ _ f);rw[<-Zfy]at l m o q;exact⟨g,e,r,l,m,o,q⟩
abbrev Txt:=List UInt8
def word (n:Nd) (k:Nat):Txt:=(n.words[k]?).getD []
def Zx (ns:List Nd) (n:Nd) (k:Nat):Nd:=Zb ns (atI n.kids k)
def ZbP (n:Int):Txt:=Lib.itoa n
def Zcd (k:Int):Txt:=if k=0 then [32,60,32]else if k=1 then [32,61,61,32]else if k=2 then [32,43,32]else if k=3 then [32,45,32]else if k=4 then [32,42,32]else [32,47,32]
def ZaH (k:Int):Txt:=if k=0 then [117,110,105,113,117,101]else if k=1 then [102,117,108,108]else if k=2 then [115,104,97,114,101]else if k=3 then [105,109,109]else [112,117,114,101]
def ZcX (k:Int):Txt:=if k=0 then [32,97,116,32]else if k=1 then [32,116,111,32]else [32,105,110,32]
def ZD (n:Nd):Nat:=if n.kind=22 then(if num n 0<=1 then 0 else if num n 0<=3 then 1 else 2)else 3
def Zap (a:Txt):List Txt->Txt
 |[]=>[]
 |[x]=>x
 |x::y::r=>x++a++Zap a (y::r)
def Zc9 (d:Nat):Txt:=List.replicate (2*d) 32
def Zbv (d:Nat) (a:List Txt):Txt:=(a.map fun x=>Zc9 d++x++[10]).flatten
def ZX (d:Nat) (a:List Txt):Txt:=match a with
 |[]=>[32,123,32,125]
 |_=>[32,123,10]++Zbv (d+1) a++Zc9 d++[125]
def ZH (ns:List Nd):Nat->Nd->Txt
 |0,_=>[]
 |f+1,n=>
  let b:=fun(m:Nd) (a:Nat)=>if a<=ZD m then ZH ns f m else [40]++ZH ns f m++[41]
  if n.kind=20 then ZbP (num n 0)
  else if n.kind=21 then word n 0
  else if n.kind=23 then [45]++b (Zx ns n 0) 3
  else if n.kind=22 then b (Zx ns n 0) (max (ZD n) 1)++Zcd (num n 0)++b (Zx ns n 1) (ZD n+1)
  else []
def Zbl (n:Nd):Txt:=ZcX (num n 0)++Zap [124] n.words
def Zdd (n d:Int):Txt:=ZbP n++[47]++ZbP d
def Zct (ns:List Nd) (n:Nd):Txt:=
 word n 0++(if n.words.length=1 then []else [58,32]++word n 1++[32]++ZaH (num n 0)++(if 0<num n 2 then [32,108,101,97,115,116,32]++Zdd (num n 1) (num n 2)else [])++(n.kids.map fun k=>Zbl (Zb ns k)).flatten)
def Zbb:List Txt->List Txt
 |a::b::r=>(a++[32]++b)::Zbb r
 |_=>[]
def Zcv (n:Nd):Txt:=
 (if n.kind=3 then [111,112,32]++word n 0++[32]++word n 1++[32,45,62,32]++Zap [44,32] (Zbb (n.words.drop 2))
  else if num n 0=0 then [115,116,97,116,101,32]++word n 0 else [102,105,110,97,108,32]++word n 0)++[59]
def Zfv (ns:List Nd) (f:Nat) (n:Nd):Txt:=word n 0++[32,61,32]++ZH ns f (Zx ns n 0)++[59]
def Zcz (ns:List Nd) (f:Nat) (n:Nd):Txt:=if n.kind=15 then [38]++word n 0 else ZH ns f n
def Zq (ns:List Nd):Nat->Nat->Nd->Txt
 |0,_,_=>[]
 |f+1,d,n=>
  let a:=fun(e:Nat) (m:Nd)=>ZX e (m.kids.map fun k=>Zq ns f (e+1) (Zb ns k))
  if n.kind=8 then [108,101,116,32]++Zfv ns f n
  else if n.kind=9 then Zfv ns f n
  else if n.kind=10 then [111,112,101,110,32]++word n 0++[32]++word n 1++Zap [32,101,108,115,101] (n.kids.map fun k=>a d (Zb ns k))
  else if n.kind=11 then [100,111,32]++word n 0++[46]++word n 1++(if n.kids=[]then [59]else ZX d (n.kids.map fun k=>word (Zb ns k) 0++a (d+1) (Zx ns (Zb ns k) 0)))
  else if n.kind=13 then [115,112,108,105,116,32]++word n 0++[32,61,32]++word n 1++[32]++ZaH (num n 0)++[32]++Zdd (num n 1) (num n 2)++((n.kids.take (n.kids.length-1)).map fun k=>Zbl (Zb ns k)).flatten++a d (Zx ns n (n.kids.length-1))
  else if n.kind=14 then [99,97,108,108,32]++(if n.words.length=2 then word n 1++[32,61,32]else [])++word n 0++[40]++Zap [44,32] (n.kids.map fun k=>Zcz ns f (Zb ns k))++[41,59]
  else if n.kind=16 then [105,102,32]++ZH ns f (Zx ns n 0)++Zap [32,101,108,115,101] ((n.kids.drop 1).map fun k=>a d (Zb ns k))
  else if n.kind=17 then [119,104,105,108,101,32]++ZH ns f (Zx ns n 0)++a d (Zx ns n 1)
  else if n.kind=18 then [114,101,116,117,114,110,32]++ZH ns f (Zx ns n 0)++[59]
  else if n.kind=19 then [101,120,105,116,59]
  else []
def ZcH (ns:List Nd) (f:Nat) (n:Nd):Txt:=
 if n.kind=1 then [112,114,111,116,111,32]++word n 0++ZX 0 (n.kids.map fun k=>Zcv (Zb ns k))
 else [102,110,32]++word n 0++[40]++Zap [44,32] ((n.kids.take (n.kids.length-1)).map fun k=>Zct ns (Zb ns k))++[41]++ZX 0 ((Zx ns n (n.kids.length-1)).kids.map fun k=>Zq ns f 1 (Zb ns k))
def Zcc (ns:List Nd):Txt:=if Zb9 ns then Zbv 0 ((Zb ns 0).kids.map fun k=>ZcH ns ns.length (Zb ns k))else []
theorem ZbB {w:Yh} {a n b:Nat} {e:TypeId} {v:Yi} {i:List Yi} (h:w.ownsRow a e b v n i):∃A c,v=Yc A n c:=by
 rcases h.2 with⟨rfl,rfl⟩|⟨g,d,f,rfl,_⟩
 ·exact⟨_,_,rfl⟩
 ·exact⟨_,_,rfl⟩
theorem ZcC {w w1:Yh} {a n b:Nat} {e:TypeId} {v:Yi} {d:List Yi} (h:w.ownsRow a e b v n d) (c:Below w.heap.size w w1):w1.ownsRow a e b v n d:=
 h.kept (row:=Yb) ⟨c.os,c.tape,c.output,c.size,fun k hk _=>c.block k hk⟩ (by
  cases q:v.ownBlock with
  |none=>exact .inl rfl
  |some k=>exact .inr (by simp))
theorem Zgh {w:Yh} {b n a:Nat} {e:TypeId} {A:Option Addr} {c:Nat} {l:List Yi} (h:w.ownsRow b e a (Yc A n c) n l):n<=c/\c<=maxLen/\ZO w w.heap.size a A n l:=by
 rcases h.2 with⟨q,rfl⟩|⟨g,m,o,q,s,r,f,d,p,t⟩
 ·injection q with q1 q2 q3;subst q1 q3;exact⟨Nat.le_refl _,by decide,⟨h.1,fun hn=>absurd hn (Nat.lt_irrefl _)⟩⟩
 ·injection q with q1 q2 q3;subst q1 q3;refine⟨f,d,⟨h.1,fun _=>⟨⟨g,0,Yb⟩,rfl,(Array.getElem?_eq_some_iff.1 r).1,fun j u i=>?_⟩⟩⟩;have k:=(List.getElem?_eq_some_iff.1 i).1;rw[h.1]at k;have:=h.cellAt j k;rw[i]at this;rw[show(⟨g,0,Yb⟩:Addr).add j=⟨g,j,Yb⟩by unfold Addr.add;by_cases e:j=0<;>simp[e]];exact this
theorem info_parts {P:Program} {t:TypeId} {z:Option Yi} {s b:Nat} (h:(P.info? t).map (fun i=>(i.zero,i.size,i.bytes))=Ya (z,s,b)):∃i,P.info? t=Ya i/\i.zero=z/\i.size=s/\i.bytes=b:=by
 cases q:P.info? t with
 |none=>rw[q]at h;cases h
 |some i=>
  rw[q]at h;simp only[Option.map_some,Option.some.injEq,Prod.mk.injEq]at h;exact⟨i,rfl,h.1,h.2.1,h.2.2⟩
def Zk (w:Yh) (b:Nat) (ty:TypeId) (cs:Array Yi):Prop:=w.heap[b]? = Ya (.cells cs ty (0,0))
theorem Zk.blk {w:Yh} {b:Nat} {ty:TypeId} {cs:Array Yi} (h:Zk w b ty cs):Blk w b cs:=⟨ty,h⟩
theorem Zk.start (w:Yh) (cs:Array Yi) (ty:TypeId):Zk (w.alloc (.cells cs ty)) w.heap.size ty cs:=heap_alloc_new _ _
theorem Zk.lt {w:Yh} {b:Nat} {ty:TypeId} {cs:Array Yi} (h:Zk w b ty cs):b<w.heap.size:=h.blk.lt
theorem Zk.keep {w w':Yh} {b:Nat} {ty:TypeId} {cs:Array Yi} (h:Zk w b ty cs) (a:Below w.heap.size w w'):Zk w' b ty cs:=(a.block b h.lt).trans h
theorem Zk.set {w:Yh} {b:Nat} {ty:TypeId} {cs:Array Yi} (h:Zk w b ty cs) (i:Nat) (v:Yi):Zk (w.setCell ⟨b,i,Yb⟩ v) b ty (cs.setIfInBounds i v):=by
 have a:=h.lt;have c:w.heap[b]=.cells cs ty (0,0):=by unfold Zk at h;simpa[Array.getElem?_eq_getElem a]using h
 show(w.heap.modify b _)[b]? = _;rw[Array.getElem?_eq_getElem (by simpa using a),Array.getElem_modify_self,c];rfl
theorem Zk.off {w:Yh} {b a n c:Nat} {ty e:TypeId} {cs:Array Yi} {v:Yi} {l:List Yi} (h:Zk w b ty cs) (k:w.ownsRow a e c v n l) (d:ty≠e):v.ownBlock≠Ya b:=by
 rcases k.2 with⟨rfl,_⟩|⟨g,f,i,rfl,_,j,_⟩
 ·intro q;cases q
 ·intro q;injection q with q;dsimp only at q;subst q;unfold Zk at h;rw[j]at h;injection h with h;injection h with _ h _;exact d h.symm
theorem Zo6 {w:Yh} {d a n s i c:Nat} {e m:TypeId} {v o:Yi} {t l:List Yi} (h:w.ownsRow d e i v n t) (q:w.ownsRow a m c o s l) (k:e≠m):∀b,v.ownBlock=Ya b->o.ownBlock≠Ya b:=by
 intro b f;rcases h.2 with⟨rfl,_⟩|⟨g,p,j,rfl,_,r,_⟩
 ·cases f
 ·injection f with f;dsimp only at f;subst f;exact Zk.off (ty:=e) (cs:=j) r q k
theorem Zk.other {w:Yh} {b:Nat} {ty:TypeId} {cs:Array Yi} (h:Zk w b ty cs) {p:Addr} (a:p.block≠b) (v:Yi):Zk (w.setCell p v) b ty cs:=(heap_setCell_other w p b v (fun e=>a e.symm)).trans h
theorem ZdH {w:Yh} {a n b g j:Nat} {e:TypeId} {v u:Yi} {c:List Yi} (h:w.ownsRow a e b v n c) (d:v.ownBlock≠Ya g):(w.setCell ⟨g,j,Yb⟩ u).ownsRow a e b v n c:=
 h.kept (row:=Ya g) Zaw (.inr d)
theorem Zk.grown {w w':Yh} {b:Nat} {ty:TypeId} {cs:Array Yi} {row:Option Nat} (h:Zk w b ty cs) (c:w.grownBy w' row) (a:row≠Ya b):Zk w' b ty cs:=(c.block b h.lt (fun e=>a e.symm)).trans h
abbrev u8s (t:Txt):List Yi:=Lib.strCells ⟨t.toArray⟩
theorem ZmU (a b:Txt):u8s (a++b)=u8s a++u8s b:=by simp[u8s,Lib.strCells]
structure Fr (w w':Yh) (bp:Nat):Prop where
 size:w.heap.size<=w'.heap.size
 at_:∀b ty cs,b≠bp->ty≠5->Zk w b ty cs->Zk w' b ty cs
theorem Fr.refl (w:Yh) (a:Nat):Fr w w a:=⟨Nat.le_refl _,fun _ _ _ _ _ h=>h⟩
theorem Fr.trans {w w1 w2:Yh} {a:Nat} (h:Fr w w1 a) (k:Fr w1 w2 a):Fr w w2 a:=⟨Nat.le_trans h.size k.size,fun b f c d e g=>k.at_ b f c d e (h.at_ b f c d e g)⟩
theorem Fr.of_below {w w':Yh} (a:Nat) (h:Below w.heap.size w w'):Fr w w' a:=⟨h.size,fun _ _ _ _ _ k=>k.keep h⟩
structure PrS (w0 w:Yh) (bp:Nat) (t:Txt) (dp:Nat) (vn:Yi):Prop where
 box:∃v,Zk w bp 44 #[v,.int .i64 (dp:Int),vn]/\w.ownsRow w0.heap.size 5 1 v t.length (u8s t)
 below:Below w0.heap.size w0 w
 ge:w0.heap.size<=bp
theorem PrS.keep {e w w':Yh} {b:Nat} {t:Txt} {c:Nat} {d:Yi} (h:PrS e w b t c d) (a:Below w.heap.size w w'):PrS e w' b t c d:=by obtain⟨v,f,g⟩:=h.box;exact⟨⟨v,f.keep a,ZcC g a⟩,h.below.trans (a.mono h.below.size),h.ge⟩
theorem ZhF {w:Yh} {b:Nat} {d t2:TypeId} {e f:Array Yi} (c:Zk w b d e) (a:Zk w b t2 f):d=t2:=by unfold Zk at c a;rw[c]at a;injection a with a;injection a
theorem ZrC:(Tryz.prog.info? 5).map (fun i=>(i.zero,i.size,i.bytes))=Ya (Ya (.int .u8 0),1,1):=by kernel_rfl
theorem ZfK (q w:Yh) (j F u:Nat) (t:Txt) (D:Yi) (a:List Txt) (h:PrS q w j t u D) (Y:Zk w F 9 (a.map txt).toArray) (X:(t++a.flatten).length<=140737488355328) (hn:a.length<=1000) :
  Calls Tryz.prog 32 #[.pointer (Ya ⟨j,0,Yb⟩),Yc (Ya ⟨F,0,Yb⟩) a.length a.length] w fun e w'=>e=.returned (.tuple #[])/\PrS q w' j (t++a.flatten) u D/\Fr w w' j:=by
 obtain⟨i0,hi,M,N,O⟩:=info_parts ZrC;have r:=zh (zi h (zi Y (zi X hn)));clear h Y X hn;go_enter Tryz.func32,Tryz.ntmps32;go_wp2_with fail;go_loopg [8] a.length (fun g v8 wr=>∃k:Nat,v8=.int .i64 k/\k<=a.length/\g=a.length-k/\PrS q wr j (t++(a.take k).flatten) u D/\Fr w wr j)
 case atStart=>exact⟨0,rfl,Nat.zero_le _,rfl,by simpa using r.out.1,Fr.refl _ _⟩
 case round=>
  obtain⟨k,rfl,hk,K,s,hF⟩:=hrel;by_cases n:k=a.length
  ·have j1:decide (k<a.length)=false:=decide_eq_false (by omega);have H:=zh (zi (show PrS q wr j (t++a.flatten) u D by rw[n,List.take_length]at s;exact s) hF);clear hk K s hF n;go_wp2_with fail;go_end0;exact⟨rfl,H.out⟩
  ·have o:k<a.length:=by omega
   obtain⟨x,hx⟩:∃x,a[k]? = Ya x:=⟨_,Ym o⟩
   have P:(a.take (k+1)).flatten=(a.take k).flatten++x:=by rw[List.take_add_one,hx,List.flatten_append];simp
   obtain⟨bx,y,L⟩:∃p,Zk w j 44 p/\True:=by obtain⟨v,J,_⟩:=r.out.1.box;exact⟨_,J,trivial⟩
   have Z:F≠j:=fun e=>absurd (ZhF r.out.2.1 (e▸y)) (by decide);have z:=hF.at_ F _ _ Z (by decide) r.out.2.1;have d0:=(z.blk.cell k).trans (show(a.map txt).toArray[k]? = Ya (txt x)by rw[List.getElem?_toArray,List.getElem?_map,hx];rfl);obtain⟨v,hv,E⟩:=s.box;obtain⟨A,c,rfl⟩:=ZbB E;have e0:=hv.blk.cell 0;have f0:=hv.blk.free 0;simp only[List.getElem?_toArray,List.getElem?_cons_zero]at e0;have C:=hv.off E (by decide);have j1:(k:Int)<(a.length:Int):=by omega
   have j2:(0:Int)<=(k:Int):=by omega
   have wk:IntKind.i64.wrap ((k:Int)+1)=(k:Int)+1:=IntWalk.i64_in _ (by have:=r.out.2.2.2;omega);have R:(t++(a.take k).flatten).length+x.length<=140737488355328:=by have e:a=a.take (k+1)++a.drop (k+1):=(List.take_append_drop _ _).symm;have:=r.out.2.2.1;rw[e,List.flatten_append,P]at this;simp only[Yj]at this⊢;omega
   have i:=zh (zi o (zi K (zi P (zi hv (zi E (zi C (zi hF (zi s R))))))));clear n o hk K hx P y L Z z hv E C hF s R;generalize W:t++(a.take k).flatten=T at *;have HT:=zh W;clear W;go_wp2_with (at_builtin;(refine Lib.wpList_append_own_string _ rfl _ _ 40 9 rfl q.heap.size 5 i0 Tryz.underlying40 Tryz.underlying9 hi M N O _ T.length (u8s T) rfl i.out.2.2.2.2.1 ⟨x.toArray⟩ rfl ?c1 ?c2 ?c3 ?_))
   case c1=>have:=i.out.2.2.2.2.2.2.2.2;show T.length+x.toArray.size<=_;rw[List.size_toArray];unfold maxLen;omega
   case c2=>have:=i.out.2.2.2.2.2.2.2.2;show T.length+x.toArray.size<=_;rw[List.size_toArray];omega
   case c3=>exact i.out.2.2.2.2.2.2.2.1.below.size
   intro v9 Q l d _;have f:Q.ownsRow q.heap.size 5 1 v9 (T++x).length (u8s (T++x)):=by rw[ZmU,Yj];exact l
   obtain⟨G,I,rfl⟩:=ZbB f;have B:=i.out.2.2.2.1.grown d i.out.2.2.2.2.2.1;have e1:=B.blk.cell 0;have f1:=B.blk.free 0;simp only[List.getElem?_toArray,List.getElem?_cons_zero]at e1;have m:=B.off f (by decide)
   have U:=zh (show PrS q (Q.setCell ⟨j,0,Yb⟩ (Yc G (T++x).length I)) j (T++x) u D from
    ⟨⟨_,by simpa using B.set 0 (Yc G (T++x).length I),ZdH f m⟩,(i.out.2.2.2.2.2.2.2.1.below.trans (Zjb d i.out.2.2.2.2.2.2.2.1.below.size (fun k hk=>(i.out.2.2.2.2.1.lt k hk).1))).setCell i.out.2.2.2.2.2.2.2.1.ge _,i.out.2.2.2.2.2.2.2.1.ge⟩)
   have S:=zh (show Fr w (Q.setCell ⟨j,0,Yb⟩ (Yc G (T++x).length I)) j from
    i.out.2.2.2.2.2.2.1.trans ⟨by have:=d.size;simpa[World.setCell]using this,fun b ty cs J h2 V=>Zk.other (Zk.grown V d (V.off i.out.2.2.2.2.1 h2)) (fun e=>J e.symm) _⟩)
   rw[Yj]at U S;clear l f d B m;go_wp2_with fail;go_roundg (a.length-(k+1))
   case measure=>have:=i.out.1;have:=i.out.2.1;omega
   case rel=>
    refine⟨k+1,by push_cast;rfl,i.out.1,rfl,?_,S.out⟩;rw[i.out.2.2.1,<-List.append_assoc,HT.out];exact U.out
end Go.Proofs.YtdkegpkfjgloeaaGreatDoor
