import Derived.Lib.ItoaNum
import Derived.Test.YtfbepcelkijgkaaGreatDoorQAD
set_option maxRecDepth 100000
set_option maxHeartbeats 8000000
open Option renaming some → Ya, none → Yb
open Go renaming World → Yh, Value → Yi
namespace Go.Proofs.YtfbepcelkijgkaaGreatDoor
section
open Go.RowKit
structure Nd where
 kind:Int
 words:List (List UInt8)
 nums:List Int
 kids:List Int
 pos:Int
deriving DecidableEq
def nd0:Nd:=⟨0,[],[],[],0⟩
def Za (ns:List Nd) (k:Int):Nd:=(ns[k.toNat]?).getD nd0
def ZJ (ns:List Nd) (k:Int):Int:=(Za ns k).kind
def atI (p:List Int) (k:Int):Int:=(p[k.toNat]?).getD (-1)
def Zb1 (n a:Nat):List Int->List Int->Option (List Int)
 |[],p=>Ya p
 |k::r,p=>if k<=(a:Int)\/(n:Int)<=k\/0<=atI p k then Yb else Zb1 n a r (p.set k.toNat a)
def Zcy (ns:List Nd):Nat->Option (List Int)
 |0=>Ya (List.replicate ns.length (-1))
 |j+1=>(Zcy ns j).bind fun p=>if 0<j/\atI p j<0 then Yb else Zb1 ns.length j (Za ns j).kids p
def Zcc (ns:List Nd):Option (List Int):=if ns.length=0\/1500<ns.length then Yb else Zcy ns ns.length
def Zc0 (p:List Int):Nat->List Int
 |0=>[]
 |j+1=>Zc0 p j++[if 0<=atI p j then 1+atI (Zc0 p j) (atI p j)else 1]
def Zb4 (p:List Int):List Int:=Zc0 p p.length
def Zgb:List Int->Int
 |[]=>0
 |x::r=>r.foldl max x
def ZcJ (k:Int):Bool:=decide (8<=k)&&decide (k<=19)&&!(k==12)&&!(k==15)
def Zat (k:Int):Bool:=decide (20<=k)&&decide (k<=23)
def Zed (k:Int):Bool:=k==15||Zat k
def ZcD (a:List (List UInt8)):Bool:=a.all ZN
def ZbR (l:List Int):Bool:=l.all fun x=>decide (0<=x)&&decide (x<1000000000000000000)
def ZF (n:Nd) (w m:Nat):Bool:=decide (n.words.length=w)&&decide (n.nums.length=m)
def isB (a:List Int) (k:Int):Bool:=a.contains k
def ZbJ (ns:List Nd) (a:List Int) (f:Int->Bool):Bool:=a.all fun k=>f (ZJ ns k)
def Zp (ns:List Nd):List Int->List (Int->Bool)->Bool
 |[],[]=>true
 |k::r,f::g=>f (ZJ ns k)&&Zp ns r g
 |_,_=>false
def ZaC (ns:List Nd) (k:Int):Int:=match (Za ns k).nums with
 |[]=>-1
 |x::_=>x
def Zbl (ns:List Nd):List Int->Bool
 |[]=>true
 |[_]=>true
 |a::b::r=>decide (ZaC ns a<ZaC ns b)&&Zbl ns (b::r)
def num (n:Nd) (k:Nat):Int:=(n.nums[k]?).getD 0
def ZdW (n:Nd):Bool:=decide (1<=num n 1)&&decide (1<=num n 2)
def ZcI (ns:List Nd) (n:Nd):Bool:=decide (num n 0<=4)&&((num n 1==0&&num n 2==0)||ZdW n)&&ZbJ ns n.kids (isB [6])&&Zbl ns n.kids
def Zep (ns:List Nd) (n:Nd):Bool:=
 !(num n 0==0)&&decide (num n 0<=4)&&ZdW n&&(Zp ns n.kids [isB [7]]||Zp ns n.kids [isB [6],isB [7]]&&ZaC ns (atI n.kids 0)==2)
def Zm (ns:List Nd) (n:Nd):Bool:=
 if n.kind=0 then ZF n 0 0&&ZbJ ns n.kids (isB [1,4])
 else if n.kind=1 then ZF n 1 0&&ZbJ ns n.kids (isB [2,3])
 else if n.kind=2 then ZF n 1 1&&decide (num n 0<=1)&&Zp ns n.kids []
 else if n.kind=3 then decide (4<=n.words.length)&&decide (n.words.length % 2=0)&&ZF n n.words.length 0&&Zp ns n.kids []
 else if n.kind=4 then ZF n 1 0&&ZbJ ns (n.kids.take (n.kids.length-1)) (isB [5])&&Zp ns (n.kids.drop (n.kids.length-1)) [isB [7]]
 else if n.kind=5 then ZF n 1 0&&Zp ns n.kids []||ZF n 2 3&&ZcI ns n
 else if n.kind=6 then decide (1<=n.words.length)&&ZF n n.words.length 1&&decide (num n 0<=2)&&Zp ns n.kids []
 else if n.kind=7 then ZF n 0 0&&ZbJ ns n.kids ZcJ
 else if n.kind=8\/n.kind=9 then ZF n 1 0&&Zp ns n.kids [Zat]
 else if n.kind=10 then ZF n 2 0&&Zp ns n.kids [isB [7],isB [7]]
 else if n.kind=11 then ZF n 2 0&&ZbJ ns n.kids (isB [12])
 else if n.kind=12 then ZF n 1 0&&Zp ns n.kids [isB [7]]
 else if n.kind=13 then ZF n 2 3&&Zep ns n
 else if n.kind=14 then(ZF n 1 0||ZF n 2 0)&&ZbJ ns n.kids Zed
 else if n.kind=15\/n.kind=21 then ZF n 1 0&&Zp ns n.kids []
 else if n.kind=16 then ZF n 0 0&&(Zp ns n.kids [Zat,isB [7]]||Zp ns n.kids [Zat,isB [7],isB [7]])
 else if n.kind=17 then ZF n 0 0&&Zp ns n.kids [Zat,isB [7]]
 else if n.kind=18\/n.kind=23 then ZF n 0 0&&Zp ns n.kids [Zat]
 else if n.kind=19 then ZF n 0 0&&Zp ns n.kids []
 else if n.kind=20 then ZF n 0 1&&Zp ns n.kids []
 else if n.kind=22 then ZF n 0 1&&decide (num n 0<=5)&&Zp ns n.kids [Zat,Zat]
 else false
def Zc3 (ns:List Nd) (n:Nd):Bool:=ZcD n.words&&ZbR n.nums&&Zm ns n
def Zcu (ns:List Nd):Bool:=match Zcc ns with
 |none=>false
 |some p=>ZJ ns 0==0&&decide (Zgb (Zb4 p)<=24)&&ns.all (Zc3 ns)
def Zd3 (ns:List Nd):Nat->Int->List Int
 |0,k=>[k]
 |d+1,k=>k::(Za ns k).kids.flatMap (Zd3 ns d)
end
section
open Go.RowKit
def Zbh (w:Yh) (v:Yi) (l:List Int):Prop:=∃A c,v=.slice A l.length c/\l.length<=c/\c<=maxLen/\ZM w w.heap.size 1 A l.length (l.map (Value.int .i64))
theorem Zbh.below {w w':Yh} {v:Yi} {l:List Int} (h:Zbh w v l) (a:Below w.heap.size w w'):Zbh w' v l:=by obtain⟨A,c,b,d,e,f⟩:=h;exact⟨A,c,b,d,e,(f.below a).more a.size⟩
theorem Zbh.nil (w:Yh):Zbh w (.slice Yb 0 0) []:=⟨Yb,0,rfl,Nat.le_refl _,by decide,ZM.none_⟩
theorem Zbh.len {w:Yh} {v:Yi} {l:List Int} (h:Zbh w v l):l.length<=maxLen:=by obtain⟨_,_,_,a,b,_⟩:=h;omega
theorem ints_at {w wr:Yh} {A:Option Addr} {n k:Nat} {l:List Int} {x:Int} (c:ZM w w.heap.size 1 A n (l.map (Value.int .i64))) (d:Below w.heap.size w wr) (hx:l[k]? = Ya x) (hn:0<n) :
  ∃a,A=Ya a/\wr.cell? (a.add k)=Ya (.int .i64 x):=by
 obtain⟨a,e,b,hc⟩:=c.2 hn;exact⟨a,e,(d.cell (p:=a.add k) (by rw[ZbL];exact b)).trans (hc k _ (by rw[List.getElem?_map,hx];rfl))⟩
def ZdV (w:Yh) (v:Yi) (l:List (List UInt8)):Prop:=∃A c,v=.slice A l.length c/\l.length<=c/\c<=maxLen/\ZM w w.heap.size 1 A l.length (l.map txt)/\∀s∈l,s.length<=maxLen
theorem ZdV.below {w w':Yh} {v:Yi} {l:List (List UInt8)} (h:ZdV w v l) (a:Below w.heap.size w w'):ZdV w' v l:=by obtain⟨A,c,b,d,e,f,g⟩:=h;exact⟨A,c,b,d,e,(f.below a).more a.size,g⟩
theorem ZdV.nil (w:Yh):ZdV w (.slice Yb 0 0) []:=⟨Yb,0,rfl,Nat.le_refl _,by decide,ZM.none_,fun s hs=>by cases hs⟩
theorem ZdV.len {w:Yh} {v:Yi} {l:List (List UInt8)} (h:ZdV w v l):l.length<=maxLen:=by obtain⟨_,_,_,a,b,_⟩:=h;omega
theorem Zcj {w wr:Yh} {A:Option Addr} {n k:Nat} {l:List (List UInt8)} {x:List UInt8} (c:ZM w w.heap.size 1 A n (l.map txt)) (d:Below w.heap.size w wr) (hx:l[k]? = Ya x) (hn:0<n) :
  ∃a,A=Ya a/\wr.cell? (a.add k)=Ya (txt x):=by
 obtain⟨a,e,b,hc⟩:=c.2 hn;exact⟨a,e,(d.cell (p:=a.add k) (by rw[ZbL];exact b)).trans (hc k _ (by rw[List.getElem?_map,hx];rfl))⟩
abbrev NdV:=Yi×Yi×Yi
def ZaV:List (NdV×Nd)->List Yi
 |[]=>[]
 |x::r=>.int .i64 x.2.kind::x.1.1::x.1.2.1::x.1.2.2::.int .i64 x.2.pos::ZaV r
theorem Zgd:∀l,(ZaV l).length=l.length*5
 |[]=>rfl
 |x::r=>by
  simp only[ZaV,Yk,Zgd r];omega
theorem Zgc:∀(l m:List (NdV×Nd)),ZaV (l++m)=ZaV l++ZaV m
 |[],m=>rfl
 |x::r,m=>by rw[List.cons_append,ZaV,ZaV,Zgc r m];rfl
theorem ZeX:∀(l:List (NdV×Nd)) (k:Nat) (x:NdV×Nd),l[k]? = Ya x->(ZaV l)[k*5]? = Ya (.int .i64 x.2.kind)/\(ZaV l)[k*5+1]? = Ya x.1.1/\(ZaV l)[k*5+2]? = Ya x.1.2.1/\(ZaV l)[k*5+3]? = Ya x.1.2.2/\(ZaV l)[k*5+4]? = Ya (.int .i64 x.2.pos)
 |[],k,x,h=>by simp at h
 |y::r,0,x,h=>by
  obtain rfl:y=x:=by simpa using h
  exact⟨rfl,rfl,rfl,rfl,rfl⟩
 |y::r,k+1,x,h=>by
  rw[List.getElem?_cons_succ]at h;obtain⟨a,b,c,d,e⟩:=ZeX r k x h;exact⟨by rw[show(k+1)*5=k*5+1+1+1+1+1 by omega];exact a,by rw[show(k+1)*5+1=k*5+1+1+1+1+1+1 by omega];exact b,by rw[show(k+1)*5+2=k*5+2+1+1+1+1+1 by omega];exact c,by rw[show(k+1)*5+3=k*5+3+1+1+1+1+1 by omega];exact d,by rw[show(k+1)*5+4=k*5+4+1+1+1+1+1 by omega];exact e⟩
def Za5 (w:Yh) (x:NdV×Nd):Prop:=ZdV w x.1.1 x.2.words/\Zbh w x.1.2.1 x.2.nums/\Zbh w x.1.2.2 x.2.kids
theorem Za5.below {w w':Yh} {x:NdV×Nd} (h:Za5 w x) (a:Below w.heap.size w w'):Za5 w' x:=⟨h.1.below a,h.2.1.below a,h.2.2.below a⟩
def Zu (w:Yh) (v:Yi) (ns:List Nd):Prop:=
 ∃A c a,v=.slice A ns.length c/\ns.length<=c/\c<=maxLen/\a.map (·.2)=ns/\ZM w w.heap.size 5 A ns.length (ZaV a)/\∀x∈a,Za5 w x
theorem Zu.below {w w':Yh} {v:Yi} {ns:List Nd} (h:Zu w v ns) (a:Below w.heap.size w w'):Zu w' v ns:=by obtain⟨A,c,j,b,d,e,f,g,i⟩:=h;exact⟨A,c,j,b,d,e,f,(g.below a).more a.size,fun x hx=>(i x hx).below a⟩
theorem Zu.nil (w:Yh):Zu w (.slice Yb 0 0) []:=⟨Yb,0,[],rfl,Nat.le_refl _,by decide,rfl,ZM.none_,fun x hx=>by cases hx⟩
theorem Zby {w wr:Yh} {A:Option Addr} {n k:Nat} {j:List (NdV×Nd)} {x:NdV×Nd} (s:ZM w w.heap.size 5 A n (ZaV j)) (i:Below w.heap.size w wr) (hx:j[k]? = Ya x) (hn:0<n) :
  ∃g,A=Ya g/\wr.cell? (g.add (k*5))=Ya (.int .i64 x.2.kind)/\wr.cell? ⟨(g.add (k*5)).block,(g.add (k*5)).off+1,Yb⟩=Ya x.1.1/\wr.cell? ⟨(g.add (k*5)).block,(g.add (k*5)).off+2,Yb⟩=Ya x.1.2.1/\wr.cell? ⟨(g.add (k*5)).block,(g.add (k*5)).off+3,Yb⟩=Ya x.1.2.2/\wr.cell? ⟨(g.add (k*5)).block,(g.add (k*5)).off+4,Yb⟩=Ya (.int .i64 x.2.pos):=by
 obtain⟨g,e,h,hc⟩:=s.2 hn;obtain⟨a,b,c,d,f⟩:=ZeX j k x hx;have r:=(i.cell (p:=g.add (k*5)) (by rw[ZbL];exact h)).trans (hc _ _ a);have l:=(i.cell (p:=g.add (k*5+1)) (by rw[ZbL];exact h)).trans (hc _ _ b);have m:=(i.cell (p:=g.add (k*5+2)) (by rw[ZbL];exact h)).trans (hc _ _ c);have o:=(i.cell (p:=g.add (k*5+3)) (by rw[ZbL];exact h)).trans (hc _ _ d);have q:=(i.cell (p:=g.add (k*5+4)) (by rw[ZbL];exact h)).trans (hc _ _ f);rw[<-ZgK]at l m o q;exact⟨g,e,r,l,m,o,q⟩
end
section
abbrev Txt:=List UInt8
def word (n:Nd) (k:Nat):Txt:=(n.words[k]?).getD []
def Zv (ns:List Nd) (n:Nd) (k:Nat):Nd:=Za ns (atI n.kids k)
def ZbM (n:Int):Txt:=Lib.itoa n
def Zcg (k:Int):Txt:=if k=0 then [32,60,32]else if k=1 then [32,61,61,32]else if k=2 then [32,43,32]else if k=3 then [32,45,32]else if k=4 then [32,42,32]else [32,47,32]
def Zax (k:Int):Txt:=if k=0 then [117,110,105,113,117,101]else if k=1 then [102,117,108,108]else if k=2 then [115,104,97,114,101]else if k=3 then [105,109,109]else [112,117,114,101]
def ZcY (k:Int):Txt:=if k=0 then [32,97,116,32]else if k=1 then [32,116,111,32]else [32,105,110,32]
def ZB (n:Nd):Nat:=if n.kind=22 then(if num n 0<=1 then 0 else if num n 0<=3 then 1 else 2)else 3
def Zak (a:Txt):List Txt->Txt
 |[]=>[]
 |[x]=>x
 |x::y::r=>x++a++Zak a (y::r)
def Zdf (d:Nat):Txt:=List.replicate (2*d) 32
def Zbo (d:Nat) (a:List Txt):Txt:=(a.map fun x=>Zdf d++x++[10]).flatten
def ZI (d:Nat) (a:List Txt):Txt:=match a with
 |[]=>[32,123,32,125]
 |_=>[32,123,10]++Zbo (d+1) a++Zdf d++[125]
def ZD (ns:List Nd):Nat->Nd->Txt
 |0,_=>[]
 |f+1,n=>
  let b:=fun(m:Nd) (a:Nat)=>if a<=ZB m then ZD ns f m else [40]++ZD ns f m++[41]
  if n.kind=20 then ZbM (num n 0)
  else if n.kind=21 then word n 0
  else if n.kind=23 then [45]++b (Zv ns n 0) 3
  else if n.kind=22 then b (Zv ns n 0) (max (ZB n) 1)++Zcg (num n 0)++b (Zv ns n 1) (ZB n+1)
  else []
def ZaT (n:Nd):Txt:=ZcY (num n 0)++Zak [124] n.words
def Zdh (n d:Int):Txt:=ZbM n++[47]++ZbM d
def ZbO (ns:List Nd) (n:Nd):Txt:=
 word n 0++(if n.words.length=1 then []else [58,32]++word n 1++[32]++Zax (num n 0)++(if 0<num n 2 then [32,108,101,97,115,116,32]++Zdh (num n 1) (num n 2)else [])++(n.kids.map fun k=>ZaT (Za ns k)).flatten)
def Za9:List Txt->List Txt
 |a::b::r=>(a++[32]++b)::Za9 r
 |_=>[]
def ZbU (n:Nd):Txt:=
 (if n.kind=3 then [111,112,32]++word n 0++[32]++word n 1++[32,45,62,32]++Zak [44,32] (Za9 (n.words.drop 2))
  else if num n 0=0 then [115,116,97,116,101,32]++word n 0 else [102,105,110,97,108,32]++word n 0)++[59]
def Ze8 (ns:List Nd) (f:Nat) (n:Nd):Txt:=word n 0++[32,61,32]++ZD ns f (Zv ns n 0)++[59]
def Zb9 (ns:List Nd) (f:Nat) (n:Nd):Txt:=if n.kind=15 then [38]++word n 0 else ZD ns f n
def Zk (ns:List Nd):Nat->Nat->Nd->Txt
 |0,_,_=>[]
 |f+1,d,n=>
  let a:=fun(e:Nat) (m:Nd)=>ZI e (m.kids.map fun k=>Zk ns f (e+1) (Za ns k))
  if n.kind=8 then [108,101,116,32]++Ze8 ns f n
  else if n.kind=9 then Ze8 ns f n
  else if n.kind=10 then [111,112,101,110,32]++word n 0++[32]++word n 1++Zak [32,101,108,115,101] (n.kids.map fun k=>a d (Za ns k))
  else if n.kind=11 then [100,111,32]++word n 0++[46]++word n 1++(if n.kids=[]then [59]else ZI d (n.kids.map fun k=>word (Za ns k) 0++a (d+1) (Zv ns (Za ns k) 0)))
  else if n.kind=13 then [115,112,108,105,116,32]++word n 0++[32,61,32]++word n 1++[32]++Zax (num n 0)++[32]++Zdh (num n 1) (num n 2)++((n.kids.take (n.kids.length-1)).map fun k=>ZaT (Za ns k)).flatten++a d (Zv ns n (n.kids.length-1))
  else if n.kind=14 then [99,97,108,108,32]++(if n.words.length=2 then word n 1++[32,61,32]else [])++word n 0++[40]++Zak [44,32] (n.kids.map fun k=>Zb9 ns f (Za ns k))++[41,59]
  else if n.kind=16 then [105,102,32]++ZD ns f (Zv ns n 0)++Zak [32,101,108,115,101] ((n.kids.drop 1).map fun k=>a d (Za ns k))
  else if n.kind=17 then [119,104,105,108,101,32]++ZD ns f (Zv ns n 0)++a d (Zv ns n 1)
  else if n.kind=18 then [114,101,116,117,114,110,32]++ZD ns f (Zv ns n 0)++[59]
  else if n.kind=19 then [101,120,105,116,59]
  else []
def Zcl (ns:List Nd) (f:Nat) (n:Nd):Txt:=
 if n.kind=1 then [112,114,111,116,111,32]++word n 0++ZI 0 (n.kids.map fun k=>ZbU (Za ns k))
 else [102,110,32]++word n 0++[40]++Zak [44,32] ((n.kids.take (n.kids.length-1)).map fun k=>ZbO ns (Za ns k))++[41]++ZI 0 ((Zv ns n (n.kids.length-1)).kids.map fun k=>Zk ns f 1 (Za ns k))
def ZbC (ns:List Nd):Txt:=if Zcu ns then Zbo 0 ((Za ns 0).kids.map fun k=>Zcl ns ns.length (Za ns k))else []
end
end Go.Proofs.YtfbepcelkijgkaaGreatDoor
