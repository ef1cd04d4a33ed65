import Derived.Lib.ItoaNum
import Derived.Test.YtfbepcelkijgkaaGreatDoorQAC
set_option maxRecDepth 100000
set_option maxHeartbeats 8000000
open Option renaming some → Ya, none → Yb
open Go renaming World → Yh, Value → Yi
namespace Go.Proofs.YtfbepcelkijgkaaGreatDoor
section
open Go.RowKit
structure Nd where
 kind:Int
 words:List (List UInt8)
 nums:List Int
 kids:List Int
 pos:Int
deriving DecidableEq
def nd0:Nd:=⟨0,[],[],[],0⟩
def Zf (ns:List Nd) (k:Int):Nd:=(ns[k.toNat]?).getD nd0
def Zp (ns:List Nd) (k:Int):Int:=(Zf ns k).kind
def atI (p:List Int) (k:Int):Int:=(p[k.toNat]?).getD (-1)
def ZbO (n a:Nat):List Int->List Int->Option (List Int)
 |[],p=>Ya p
 |k::r,p=>if k<=(a:Int)\/(n:Int)<=k\/0<=atI p k then Yb else ZbO n a r (p.set k.toNat a)
def Zcd (ns:List Nd):Nat->Option (List Int)
 |0=>Ya (List.replicate ns.length (-1))
 |j+1=>(Zcd ns j).bind fun p=>if 0<j/\atI p j<0 then Yb else ZbO ns.length j (Zf ns j).kids p
def ZbJ (ns:List Nd):Option (List Int):=if ns.length=0\/1500<ns.length then Yb else Zcd ns ns.length
def ZcG (p:List Int):Nat->List Int
 |0=>[]
 |j+1=>ZcG p j++[if 0<=atI p j then 1+atI (ZcG p j) (atI p j)else 1]
def ZbR (p:List Int):List Int:=ZcG p p.length
def ZfP:List Int->Int
 |[]=>0
 |x::r=>r.foldl max x
def ZcE (k:Int):Bool:=decide (8<=k)&&decide (k<=19)&&!(k==12)&&!(k==15)
def ZF (k:Int):Bool:=decide (20<=k)&&decide (k<=23)
def Zdp (k:Int):Bool:=k==15||ZF k
def Zdz (a:List (List UInt8)):Bool:=a.all ZQ
def Zb6 (l:List Int):Bool:=l.all fun x=>decide (0<=x)&&decide (x<1000000000000000000)
def Zq (n:Nd) (w m:Nat):Bool:=decide (n.words.length=w)&&decide (n.nums.length=m)
def isB (a:List Int) (k:Int):Bool:=a.contains k
def Zam (ns:List Nd) (a:List Int) (f:Int->Bool):Bool:=a.all fun k=>f (Zp ns k)
def Zj (ns:List Nd):List Int->List (Int->Bool)->Bool
 |[],[]=>true
 |k::r,f::g=>f (Zp ns k)&&Zj ns r g
 |_,_=>false
def ZY (ns:List Nd) (k:Int):Int:=match (Zf ns k).nums with
 |[]=>-1
 |x::_=>x
def ZaC (ns:List Nd):List Int->Bool
 |[]=>true
 |[_]=>true
 |a::b::r=>decide (ZY ns a<ZY ns b)&&ZaC ns (b::r)
def num (n:Nd) (k:Nat):Int:=(n.nums[k]?).getD 0
def ZdJ (n:Nd):Bool:=decide (1<=num n 1)&&decide (1<=num n 2)
def Zcn (ns:List Nd) (n:Nd):Bool:=decide (num n 0<=4)&&((num n 1==0&&num n 2==0)||ZdJ n)&&Zam ns n.kids (isB [6])&&ZaC ns n.kids
def ZeJ (ns:List Nd) (n:Nd):Bool:=
 !(num n 0==0)&&decide (num n 0<=4)&&ZdJ n&&(Zj ns n.kids [isB [7]]||Zj ns n.kids [isB [6],isB [7]]&&ZY ns (atI n.kids 0)==2)
def Zr (ns:List Nd) (n:Nd):Bool:=
 if n.kind=0 then Zq n 0 0&&Zam ns n.kids (isB [1,4])
 else if n.kind=1 then Zq n 1 0&&Zam ns n.kids (isB [2,3])
 else if n.kind=2 then Zq n 1 1&&decide (num n 0<=1)&&Zj ns n.kids []
 else if n.kind=3 then decide (4<=n.words.length)&&decide (n.words.length % 2=0)&&Zq n n.words.length 0&&Zj ns n.kids []
 else if n.kind=4 then Zq n 1 0&&Zam ns (n.kids.take (n.kids.length-1)) (isB [5])&&Zj ns (n.kids.drop (n.kids.length-1)) [isB [7]]
 else if n.kind=5 then Zq n 1 0&&Zj ns n.kids []||Zq n 2 3&&Zcn ns n
 else if n.kind=6 then decide (1<=n.words.length)&&Zq n n.words.length 1&&decide (num n 0<=2)&&Zj ns n.kids []
 else if n.kind=7 then Zq n 0 0&&Zam ns n.kids ZcE
 else if n.kind=8\/n.kind=9 then Zq n 1 0&&Zj ns n.kids [ZF]
 else if n.kind=10 then Zq n 2 0&&Zj ns n.kids [isB [7],isB [7]]
 else if n.kind=11 then Zq n 2 0&&Zam ns n.kids (isB [12])
 else if n.kind=12 then Zq n 1 0&&Zj ns n.kids [isB [7]]
 else if n.kind=13 then Zq n 2 3&&ZeJ ns n
 else if n.kind=14 then(Zq n 1 0||Zq n 2 0)&&Zam ns n.kids Zdp
 else if n.kind=15\/n.kind=21 then Zq n 1 0&&Zj ns n.kids []
 else if n.kind=16 then Zq n 0 0&&(Zj ns n.kids [ZF,isB [7]]||Zj ns n.kids [ZF,isB [7],isB [7]])
 else if n.kind=17 then Zq n 0 0&&Zj ns n.kids [ZF,isB [7]]
 else if n.kind=18\/n.kind=23 then Zq n 0 0&&Zj ns n.kids [ZF]
 else if n.kind=19 then Zq n 0 0&&Zj ns n.kids []
 else if n.kind=20 then Zq n 0 1&&Zj ns n.kids []
 else if n.kind=22 then Zq n 0 1&&decide (num n 0<=5)&&Zj ns n.kids [ZF,ZF]
 else false
def ZD (ns:List Nd) (n:Nd):Bool:=Zdz n.words&&Zb6 n.nums&&Zr ns n
def ZcB (ns:List Nd):Bool:=match ZbJ ns with
 |none=>false
 |some p=>Zp ns 0==0&&decide (ZfP (ZbR p)<=24)&&ns.all (ZD ns)
def ZdR (ns:List Nd):Nat->Int->List Int
 |0,k=>[k]
 |d+1,k=>k::(Zf ns k).kids.flatMap (ZdR ns d)
end
section
open Go.RowKit
def ZaX (w:Yh) (v:Yi) (l:List Int):Prop:=∃A c,v=.slice A l.length c/\l.length<=c/\c<=maxLen/\ZM w w.heap.size 1 A l.length (l.map (Value.int .i64))
theorem ZaX.below {w w':Yh} {v:Yi} {l:List Int} (h:ZaX w v l) (a:Below w.heap.size w w'):ZaX w' v l:=by obtain⟨A,c,b,d,e,f⟩:=h;exact⟨A,c,b,d,e,(f.below a).more a.size⟩
theorem ZaX.nil (w:Yh):ZaX w (.slice Yb 0 0) []:=⟨Yb,0,rfl,Nat.le_refl _,by decide,ZM.none_⟩
theorem ZaX.len {w:Yh} {v:Yi} {l:List Int} (h:ZaX w v l):l.length<=maxLen:=by obtain⟨_,_,_,a,b,_⟩:=h;omega
theorem ints_at {w wr:Yh} {A:Option Addr} {n k:Nat} {l:List Int} {x:Int} (c:ZM w w.heap.size 1 A n (l.map (Value.int .i64))) (d:Below w.heap.size w wr) (hx:l[k]? = Ya x) (f:0<n) :
  ∃a,A=Ya a/\wr.cell? (a.add k)=Ya (.int .i64 x):=by
 obtain⟨a,e,b,hc⟩:=c.2 f;exact⟨a,e,(d.cell (p:=a.add k) (by rw[Zbf];exact b)).trans (hc k _ (by rw[List.getElem?_map,hx];rfl))⟩
def Zdc (w:Yh) (v:Yi) (l:List (List UInt8)):Prop:=∃A c,v=.slice A l.length c/\l.length<=c/\c<=maxLen/\ZM w w.heap.size 1 A l.length (l.map txt)/\∀s∈l,s.length<=maxLen
theorem Zdc.below {w w':Yh} {v:Yi} {l:List (List UInt8)} (h:Zdc w v l) (a:Below w.heap.size w w'):Zdc w' v l:=by obtain⟨A,c,b,d,e,f,g⟩:=h;exact⟨A,c,b,d,e,(f.below a).more a.size,g⟩
theorem Zdc.nil (w:Yh):Zdc w (.slice Yb 0 0) []:=⟨Yb,0,rfl,Nat.le_refl _,by decide,ZM.none_,fun s a=>by cases a⟩
theorem Zdc.len {w:Yh} {v:Yi} {l:List (List UInt8)} (h:Zdc w v l):l.length<=maxLen:=by obtain⟨_,_,_,a,b,_⟩:=h;omega
theorem ZbH {w wr:Yh} {A:Option Addr} {n k:Nat} {l:List (List UInt8)} {x:List UInt8} (c:ZM w w.heap.size 1 A n (l.map txt)) (d:Below w.heap.size w wr) (hx:l[k]? = Ya x) (f:0<n) :
  ∃a,A=Ya a/\wr.cell? (a.add k)=Ya (txt x):=by
 obtain⟨a,e,b,hc⟩:=c.2 f;exact⟨a,e,(d.cell (p:=a.add k) (by rw[Zbf];exact b)).trans (hc k _ (by rw[List.getElem?_map,hx];rfl))⟩
abbrev NdV:=Yi×Yi×Yi
def Zas:List (NdV×Nd)->List Yi
 |[]=>[]
 |x::r=>.int .i64 x.2.kind::x.1.1::x.1.2.1::x.1.2.2::.int .i64 x.2.pos::Zas r
theorem Zei:∀l,(Zas l).length=l.length*5
 |[]=>rfl
 |x::r=>by
  simp only[Zas,Yk,Zei r];omega
theorem ZfQ:∀(l m:List (NdV×Nd)),Zas (l++m)=Zas l++Zas m
 |[],m=>rfl
 |x::r,m=>by rw[List.cons_append,Zas,Zas,ZfQ r m];rfl
theorem ZeF:∀(l:List (NdV×Nd)) (k:Nat) (x:NdV×Nd),l[k]? = Ya x->(Zas l)[k*5]? = Ya (.int .i64 x.2.kind)/\(Zas l)[k*5+1]? = Ya x.1.1/\(Zas l)[k*5+2]? = Ya x.1.2.1/\(Zas l)[k*5+3]? = Ya x.1.2.2/\(Zas l)[k*5+4]? = Ya (.int .i64 x.2.pos)
 |[],k,x,h=>by simp at h
 |y::r,0,x,h=>by
  obtain rfl:y=x:=by simpa using h
  exact⟨rfl,rfl,rfl,rfl,rfl⟩
 |y::r,k+1,x,h=>by
  rw[List.getElem?_cons_succ]at h;obtain⟨a,b,c,d,e⟩:=ZeF r k x h;exact⟨by rw[show(k+1)*5=k*5+1+1+1+1+1 by omega];exact a,by rw[show(k+1)*5+1=k*5+1+1+1+1+1+1 by omega];exact b,by rw[show(k+1)*5+2=k*5+2+1+1+1+1+1 by omega];exact c,by rw[show(k+1)*5+3=k*5+3+1+1+1+1+1 by omega];exact d,by rw[show(k+1)*5+4=k*5+4+1+1+1+1+1 by omega];exact e⟩
def ZS (w:Yh) (x:NdV×Nd):Prop:=Zdc w x.1.1 x.2.words/\ZaX w x.1.2.1 x.2.nums/\ZaX w x.1.2.2 x.2.kids
theorem ZS.below {w w':Yh} {x:NdV×Nd} (h:ZS w x) (a:Below w.heap.size w w'):ZS w' x:=⟨h.1.below a,h.2.1.below a,h.2.2.below a⟩
def Zi (w:Yh) (v:Yi) (ns:List Nd):Prop:=
 ∃A c a,v=.slice A ns.length c/\ns.length<=c/\c<=maxLen/\a.map (·.2)=ns/\ZM w w.heap.size 5 A ns.length (Zas a)/\∀x∈a,ZS w x
theorem Zi.below {w w':Yh} {v:Yi} {ns:List Nd} (h:Zi w v ns) (a:Below w.heap.size w w'):Zi w' v ns:=by obtain⟨A,c,j,b,d,e,f,g,i⟩:=h;exact⟨A,c,j,b,d,e,f,(g.below a).more a.size,fun x hx=>(i x hx).below a⟩
theorem Zi.nil (w:Yh):Zi w (.slice Yb 0 0) []:=⟨Yb,0,[],rfl,Nat.le_refl _,by decide,rfl,ZM.none_,fun x hx=>by cases hx⟩
theorem Zan {w wr:Yh} {A:Option Addr} {n k:Nat} {j:List (NdV×Nd)} {x:NdV×Nd} (s:ZM w w.heap.size 5 A n (Zas j)) (i:Below w.heap.size w wr) (hx:j[k]? = Ya x) (t:0<n) :
  ∃g,A=Ya g/\wr.cell? (g.add (k*5))=Ya (.int .i64 x.2.kind)/\wr.cell? ⟨(g.add (k*5)).block,(g.add (k*5)).off+1,Yb⟩=Ya x.1.1/\wr.cell? ⟨(g.add (k*5)).block,(g.add (k*5)).off+2,Yb⟩=Ya x.1.2.1/\wr.cell? ⟨(g.add (k*5)).block,(g.add (k*5)).off+3,Yb⟩=Ya x.1.2.2/\wr.cell? ⟨(g.add (k*5)).block,(g.add (k*5)).off+4,Yb⟩=Ya (.int .i64 x.2.pos):=by
 obtain⟨g,e,h,hc⟩:=s.2 t;obtain⟨a,b,c,d,f⟩:=ZeF j k x hx;have r:=(i.cell (p:=g.add (k*5)) (by rw[Zbf];exact h)).trans (hc _ _ a);have l:=(i.cell (p:=g.add (k*5+1)) (by rw[Zbf];exact h)).trans (hc _ _ b);have m:=(i.cell (p:=g.add (k*5+2)) (by rw[Zbf];exact h)).trans (hc _ _ c);have o:=(i.cell (p:=g.add (k*5+3)) (by rw[Zbf];exact h)).trans (hc _ _ d);have q:=(i.cell (p:=g.add (k*5+4)) (by rw[Zbf];exact h)).trans (hc _ _ f);rw[<-Zfl]at l m o q;exact⟨g,e,r,l,m,o,q⟩
end
section
abbrev Txt:=List UInt8
def word (n:Nd) (k:Nat):Txt:=(n.words[k]?).getD []
def Zaa (ns:List Nd) (n:Nd) (k:Nat):Nd:=Zf ns (atI n.kids k)
def ZbE (n:Int):Txt:=Lib.itoa n
def ZbZ (k:Int):Txt:=if k=0 then [32,60,32]else if k=1 then [32,61,61,32]else if k=2 then [32,43,32]else if k=3 then [32,45,32]else if k=4 then [32,42,32]else [32,47,32]
def ZaR (k:Int):Txt:=if k=0 then [117,110,105,113,117,101]else if k=1 then [102,117,108,108]else if k=2 then [115,104,97,114,101]else if k=3 then [105,109,109]else [112,117,114,101]
def Zdd (k:Int):Txt:=if k=0 then [32,97,116,32]else if k=1 then [32,116,111,32]else [32,105,110,32]
def Zz (n:Nd):Nat:=if n.kind=22 then(if num n 0<=1 then 0 else if num n 0<=3 then 1 else 2)else 3
def Za5 (a:Txt):List Txt->Txt
 |[]=>[]
 |[x]=>x
 |x::y::r=>x++a++Za5 a (y::r)
def ZeA (d:Nat):Txt:=List.replicate (2*d) 32
def Zb1 (d:Nat) (a:List Txt):Txt:=(a.map fun x=>ZeA d++x++[10]).flatten
def Zcs (d:Nat) (a:List Txt):Txt:=match a with
 |[]=>[32,123,32,125]
 |_=>[32,123,10]++Zb1 (d+1) a++ZeA d++[125]
def ZH (ns:List Nd):Nat->Nd->Txt
 |0,_=>[]
 |f+1,n=>
  let b:=fun(m:Nd) (a:Nat)=>if a<=Zz m then ZH ns f m else [40]++ZH ns f m++[41]
  if n.kind=20 then ZbE (num n 0)
  else if n.kind=21 then word n 0
  else if n.kind=23 then [45]++b (Zaa ns n 0) 3
  else if n.kind=22 then b (Zaa ns n 0) (max (Zz n) 1)++ZbZ (num n 0)++b (Zaa ns n 1) (Zz n+1)
  else []
def Zca (n:Nd):Txt:=Zdd (num n 0)++Za5 [124] n.words
def Zez (n d:Int):Txt:=ZbE n++[47]++ZbE d
def ZdB (ns:List Nd) (n:Nd):Txt:=
 word n 0++(if n.words.length=1 then []else [58,32]++word n 1++[32]++ZaR (num n 0)++(if 0<num n 2 then [32,108,101,97,115,116,32]++Zez (num n 1) (num n 2)else [])++(n.kids.map fun k=>Zca (Zf ns k)).flatten)
def ZcA:List Txt->List Txt
 |a::b::r=>(a++[32]++b)::ZcA r
 |_=>[]
def Zdg (n:Nd):Txt:=
 (if n.kind=3 then [111,112,32]++word n 0++[32]++word n 1++[32,45,62,32]++Za5 [44,32] (ZcA (n.words.drop 2))
  else if num n 0=0 then [115,116,97,116,101,32]++word n 0 else [102,105,110,97,108,32]++word n 0)++[59]
def Zho (ns:List Nd) (f:Nat) (n:Nd):Txt:=word n 0++[32,61,32]++ZH ns f (Zaa ns n 0)++[59]
def ZdM (ns:List Nd) (f:Nat) (n:Nd):Txt:=if n.kind=15 then [38]++word n 0 else ZH ns f n
def ZaB (ns:List Nd):Nat->Nat->Nd->Txt
 |0,_,_=>[]
 |f+1,d,n=>
  let a:=fun(e:Nat) (m:Nd)=>Zcs e (m.kids.map fun k=>ZaB ns f (e+1) (Zf ns k))
  if n.kind=8 then [108,101,116,32]++Zho ns f n
  else if n.kind=9 then Zho ns f n
  else if n.kind=10 then [111,112,101,110,32]++word n 0++[32]++word n 1++Za5 [32,101,108,115,101] (n.kids.map fun k=>a d (Zf ns k))
  else if n.kind=11 then [100,111,32]++word n 0++[46]++word n 1++(if n.kids=[]then [59]else Zcs d (n.kids.map fun k=>word (Zf ns k) 0++a (d+1) (Zaa ns (Zf ns k) 0)))
  else if n.kind=13 then [115,112,108,105,116,32]++word n 0++[32,61,32]++word n 1++[32]++ZaR (num n 0)++[32]++Zez (num n 1) (num n 2)++((n.kids.take (n.kids.length-1)).map fun k=>Zca (Zf ns k)).flatten++a d (Zaa ns n (n.kids.length-1))
  else if n.kind=14 then [99,97,108,108,32]++(if n.words.length=2 then word n 1++[32,61,32]else [])++word n 0++[40]++Za5 [44,32] (n.kids.map fun k=>ZdM ns f (Zf ns k))++[41,59]
  else if n.kind=16 then [105,102,32]++ZH ns f (Zaa ns n 0)++Za5 [32,101,108,115,101] ((n.kids.drop 1).map fun k=>a d (Zf ns k))
  else if n.kind=17 then [119,104,105,108,101,32]++ZH ns f (Zaa ns n 0)++a d (Zaa ns n 1)
  else if n.kind=18 then [114,101,116,117,114,110,32]++ZH ns f (Zaa ns n 0)++[59]
  else if n.kind=19 then [101,120,105,116,59]
  else []
def ZeB (ns:List Nd) (f:Nat) (n:Nd):Txt:=
 if n.kind=1 then [112,114,111,116,111,32]++word n 0++Zcs 0 (n.kids.map fun k=>Zdg (Zf ns k))
 else [102,110,32]++word n 0++[40]++Za5 [44,32] ((n.kids.take (n.kids.length-1)).map fun k=>ZdB ns (Zf ns k))++[41]++Zcs 0 ((Zaa ns n (n.kids.length-1)).kids.map fun k=>ZaB ns f 1 (Zf ns k))
def ZiT (ns:List Nd):Txt:=if ZcB ns then Zb1 0 ((Zf ns 0).kids.map fun k=>ZeB ns ns.length (Zf ns k))else []
end
end Go.Proofs.YtfbepcelkijgkaaGreatDoor
