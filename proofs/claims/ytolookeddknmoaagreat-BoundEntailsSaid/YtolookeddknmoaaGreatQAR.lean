import Derived.Deep.SlicePairs
import Derived.Carry
import Derived.Deep.CutRange
import Derived.Test.YtolookeddknmoaaGreatQAE
import Derived.Test.YtolookeddknmoaaGreatQAI
import Derived.Test.YtolookeddknmoaaGreatQAJ
import Derived.Test.YtolookeddknmoaaGreatQAL
import Derived.Test.YtolookeddknmoaaGreatQAM
import Derived.Test.YtolookeddknmoaaGreatQAN
import Derived.Test.YtolookeddknmoaaGreatQAQ
set_option maxRecDepth 100000
set_option maxHeartbeats 8000000
namespace Go.Proofs.YtolookeddknmoaaGreat
section
open Go.RowKit
theorem ZmQ {P:Int} {Q:Nat} {y:Int×Int} (hQ:0<Q) (hy:OkR y) (h:y.1*(Q:Int)=P*y.2):Zcr P Q=(y,0):=by
 obtain ⟨d,e,v⟩:=hy
 obtain ⟨a,b,c⟩:=Zli (P:=P) hQ v (by rw [h,e])
 unfold Zcr
 rw [a,b,c]
 exact Prod.ext (Prod.ext rfl e.symm) rfl
theorem ZmO {P:Int} {Q:Nat} (hQ:0<Q) (h:(Zcr P Q).2=0):OkR (Zcr P Q).1/\(Zcr P Q).1.1*(Q:Int)=P*(Zcr P Q).1.2:=by
 obtain ⟨d,h1,h2,h3⟩:=ZoA hQ h
 refine ⟨⟨d,h1,h2⟩,?_⟩
 show ZcK P Q*(Q:Int)=P*ZcP P Q
 rw [h1]
 exact h3
theorem OkR.ext {x y:Int×Int} (hx:OkR x) (hy:OkR y) (h:x.1*y.2=y.1*x.2):x=y:=by
 obtain ⟨d,e,v⟩:=hx
 obtain ⟨d',e',v'⟩:=hy
 rw [e,e'] at h
 obtain ⟨a,b⟩:=v.unique v' h
 exact Prod.ext a (by rw [e,e',b])
theorem OkR.zero {x:Int×Int} (hx:OkR x) (h:x.1=0):x=(0,1):=hx.ext Zah (by rw [h];simp)
theorem OkR.neg {x:Int×Int} (hx:OkR x):OkR (-x.1,x.2):=by
 obtain ⟨d,e,v⟩:=hx
 exact ⟨d,e,⟨v.pos,v.d_le,by show (-x.1).natAbs<=_;rw [Int.natAbs_neg];exact v.n_le,by show Nat.gcd (-x.1).natAbs d=1;rw [Int.natAbs_neg];exact v.low⟩⟩
theorem OkR.den {x:Int×Int} (hx:OkR x):0<x.2:=by
 have:=hx.pos
 omega
theorem Zdn:OkR (1,1):=⟨1,rfl,by decide,by decide,by decide,by decide⟩
theorem ZpC:OkR (-1,1):=⟨1,rfl,by decide,by decide,by decide,by decide⟩
theorem Zi6 {x y:Int×Int} (hx:OkR x) (hy:OkR y) (h:(Zo x y).2=0):OkR (Zo x y).1/\(Zo x y).1.1*(x.2*y.2)=(x.1*y.2+y.1*x.2)*(Zo x y).1.2:=by
 have:=ZmO (Nat.mul_pos hx.pos hy.pos) h
 rw [Int.natCast_mul,<- hx.eta.1,<- hy.eta.1] at this
 exact this
theorem ZhB {x y:Int×Int} (hx:OkR x) (hy:OkR y) (h:(ZT x y).2=0):OkR (ZT x y).1/\(ZT x y).1.1*(x.2*y.2)=x.1*y.1*(ZT x y).1.2:=by
 have:=ZmO (Nat.mul_pos hx.pos hy.pos) h
 rw [Int.natCast_mul,<- hx.eta.1,<- hy.eta.1] at this
 exact this
theorem Zqc {x y z:Int×Int} (hx:OkR x) (hy:OkR y) (hz:OkR z) (h:z.1*(x.2*y.2)=(x.1*y.2+y.1*x.2)*z.2):Zo x y=(z,0):=
 ZmQ (Nat.mul_pos hx.pos hy.pos) hz (by rw [Int.natCast_mul,<- hx.eta.1,<- hy.eta.1];exact h)
theorem ZhC {x y z:Int×Int} (hx:OkR x) (hy:OkR y) (hz:OkR z) (h:z.1*(x.2*y.2)=x.1*y.1*z.2):ZT x y=(z,0):=
 ZmQ (Nat.mul_pos hx.pos hy.pos) hz (by rw [Int.natCast_mul,<- hx.eta.1,<- hy.eta.1];exact h)
theorem Zc9 {x:Int×Int} (hx:OkR x):Zo x (0,1)=(x,0):=Zqc hx Zah hx (by show x.1*(x.2*1)=(x.1*1+0*x.2)*x.2;grind)
theorem ZjN {x:Int×Int} (hx:OkR x):ZT x (-1,1)=((-x.1,x.2),0):=ZhC hx ZpC hx.neg (by show -x.1*(x.2*1)=x.1*(-1)*x.2;grind)
theorem Zbq {l:List (Int×Int)} (h:ZF l) (i:Int):atL (Zw l) i=atL l i:=by
 have key:∀ (n:Nat) (a:List (Int×Int)),a.length=n->ZF a->atL (Zw a) i=atL a i:=by
  intro n
  induction n with
  | zero=>
   intro a ha _
   obtain rfl:=List.eq_nil_of_length_eq_zero ha
   rfl
  | succ n ih=>
   intro a ha hok
   have hne:a≠[]:=by intro e;rw [e] at ha;cases ha
   obtain ⟨b,x,rfl⟩:∃ b x,a=b++[x]:=⟨a.dropLast,a.getLast hne,(List.dropLast_concat_getLast hne).symm⟩
   rw [Zgu]
   split
   ·rename_i hz
    have hx:x=(0,1):=(hok x (by simp)).zero hz
    rw [ih b (by simpa using ha) (fun y hy=>hok y (by simp [hy]))]
    unfold atL
    split
    ·by_cases g:i.toNat<b.length
     ·rw [List.getElem?_append_left g]
     ·rw [List.getElem?_eq_none (by omega)]
      by_cases g2:i.toNat=b.length
      ·rw [g2,List.getElem?_append_right (Nat.le_refl _)]
       simp [hx]
      ·rw [List.getElem?_eq_none (by simp;omega)]
    ·rfl
   ·rfl
 exact key l.length l rfl h
theorem ZeI (h:How) (l m:List (Int×Int)) (k:Nat):atL (ZaD h l m) k=if k<max l.length m.length then (h (atL l k) (atL m k)).1 else (0,1):=by
 unfold atL ZaD
 rw [if_pos (by omega),Int.toNat_natCast,List.getElem?_map]
 split
 ·rename_i g
  rw [List.getElem?_range g]
  unfold atL
  rfl
 ·rename_i g
  rw [List.getElem?_eq_none (by simpa using g)]
  rfl
theorem Zgv {l m:List (Int×Int)} (hl:ZF l) (hm:ZF m) (h:∀ k:Nat,atL l k=atL m k):Zw l=Zw m:=by
 have hlen:(Zw l).length=(Zw m).length:=by
  have Zpo:∀ (a b:List (Int×Int)),ZF a->ZF b->(∀ k:Nat,atL a k=atL b k)->(Zw a).length<=(Zw b).length:=by
   intro a b ha hb hk
   rcases Nat.lt_or_ge (Zw b).length (Zw a).length with g | g
   ·exfalso
    obtain ⟨x,hx⟩:∃ x,(Zw a)[(Zw a).length-1]? = some x:=⟨_,List.getElem?_eq_getElem (by omega)⟩
    have hne:=ZnM a x hx (by omega)
    have e1:atL (Zw a) (((Zw a).length-1:Nat):Int)=x:=ZcT hx
    have e2:atL (Zw b) (((Zw a).length-1:Nat):Int)=(0,1):=Zbt (.inr (by omega))
    rw [Zbq ha] at e1
    rw [Zbq hb,<- hk,e1] at e2
    rw [e2] at hne
    exact hne rfl
   ·exact g
  exact Nat.le_antisymm (Zpo l m hl hm h) (Zpo m l hm hl fun k=>(h k).symm)
 apply List.ext_getElem?
 intro i
 by_cases g:i<(Zw l).length
 ·have e1:atL (Zw l) (i:Int)=(Zw l)[i]:=ZcT (List.getElem?_eq_getElem g)
  have e2:atL (Zw m) (i:Int)=(Zw m)[i]:=ZcT (List.getElem?_eq_getElem (by omega))
  rw [Zbq hl] at e1
  rw [Zbq hm] at e2
  rw [List.getElem?_eq_getElem g,List.getElem?_eq_getElem (show i<(Zw m).length by omega),<- e1,<- e2,h i]
 ·rw [List.getElem?_eq_none (by omega),List.getElem?_eq_none (by omega)]
theorem Zqq {h:How} (hh:HowOk h) {l m:List (Int×Int)} {kx ky:Int×Int} (hl:ZF l) (hm:ZF m) (hx:OkR kx) (hy:OkR ky) (h8:l.length<=8) (h8':m.length<=8) (he:(Za3 h l m kx ky).2.2=0) :
  (h kx ky).2=0/\Zad h l m (max l.length m.length)/\Za3 h l m kx ky=(Zw (ZaD h l m),(h kx ky).1,0)/\ZF (ZaD h l m)/\(ZaD h l m).length<=8/\OkR (h kx ky).1:=by
 unfold Za3 at *
 split at he
 ·rename_i g
  rw [if_pos g]
  exact ⟨g.1,g.2,rfl,ZcW hh hl hm g.2,by rw [Zea];omega,hh.ok _ _ hx hy g.1⟩
 ·cases he
theorem Zjk {h:How} {l m:List (Int×Int)} {kx ky kz:Int×Int} (hk:h kx ky=(kz,0)) (hc:Zad h l m (max l.length m.length)):Za3 h l m kx ky=(Zw (ZaD h l m),kz,0):=by
 unfold Za3
 rw [if_pos ⟨by rw [hk],hc⟩,hk]
structure TB where
 b:Nat
 v:Value
 kn:Int
 kd:Int
 l:List (Int×Int)
structure LiveT (w wr:World) (xs:List TB):Prop where
 below:Below w.heap.size w wr
 all:∀ x,x∈xs->FracBox wr x.b x.v (.int .i64 x.kn) (.int .i64 x.kd)/\Zb wr x.v x.l
section
variable {w wr w2:World} {xs:List TB}
theorem LiveT.start (w:World):LiveT w w []:=⟨Below.refl _ _,fun x hx=>by cases hx⟩
theorem LiveT.call (h:LiveT w wr xs) (hb:Below wr.heap.size wr w2):LiveT w w2 xs:=
 ⟨h.below.trans (hb.mono h.below.size),fun x hx=>⟨(h.all x hx).1.keep hb,(h.all x hx).2.below hb⟩⟩
theorem LiveT.box (h:LiveT w wr xs) {v:Value} {l:List (Int×Int)} (hr:Zb wr v l) (kn kd:Int) (ty:TypeId):LiveT w (wr.alloc (.cells #[v,.int .i64 kn,.int .i64 kd] ty)) (⟨wr.heap.size,v,kn,kd,l⟩::xs):=by
 have a:=Za wr (.cells #[v,.int .i64 kn,.int .i64 kd] ty)
 refine ⟨(h.call a).below,fun x hx=>?_⟩
 rcases List.mem_cons.1 hx with rfl | hx
 ·exact ⟨FracBox.start wr v (.int .i64 kn) (.int .i64 kd) ty,hr.below a⟩
 ·exact (h.call a).all x hx
theorem LiveT.f (h:LiveT w wr xs) (i:Nat) {x:TB} (hi:xs[i]? = some x):FracBox wr x.b x.v (.int .i64 x.kn) (.int .i64 x.kd):=(h.all x (List.mem_of_getElem? hi)).1
theorem LiveT.r (h:LiveT w wr xs) (i:Nat) {x:TB} (hi:xs[i]? = some x):Zb wr x.v x.l:=(h.all x (List.mem_of_getElem? hi)).2
end
end
section
open Go.RowKit
def Zrt (nm:Nat->List UInt8):Nat->List (Int×Int)->List (List UInt8)
 | _,[]=>[]
 | k,x::r=>(if x.1=0 then [] else [Zro x.1 x.2.toNat++42::nm k])++Zrt nm (k+1) r
end
section
open Go.RowKit Go.WideShapes Go.ChangeShapes Go.ChangeAt Go.Joins Go.Deep
theorem Zg7:∀ (l:List (Int×Int)) (j:Nat) (u:Value),(Zr l)[j]? = some u->∃ i x,l[i]? = some x/\((j=i*2/\u=.int .i64 x.1)\/(j=i*2+1/\u=.int .i64 x.2))
 | [],j,u,h=>by simp [Zr] at h
 | y::r,0,u,h=>⟨0,y,rfl,.inl ⟨rfl,by simpa [Zr] using h.symm⟩⟩
 | y::r,1,u,h=>⟨0,y,rfl,.inr ⟨rfl,by simpa [Zr] using h.symm⟩⟩
 | y::r,j+2,u,h=>by
  obtain ⟨i,x,hx,hc⟩:=Zg7 r j u (by simpa [Zr] using h)
  refine ⟨i+1,x,by simpa using hx,?_⟩
  rcases hc with ⟨rfl,rfl⟩ | ⟨rfl,rfl⟩
  ·exact .inl ⟨by omega,rfl⟩
  ·exact .inr ⟨by omega,rfl⟩
section
variable {H:Type} {enc:TypeId×Value->H} {w:World} {base:Nat} {spare:Nat->Bool} {held:Bool}
theorem Zoo {fuel:Nat} {c0:Value} {x:DataW H×List MemPlace} (h:DataW.trod enc Tryz.prog w base spare held fuel 23 [c0]=some x):∃ l,Zb w c0 l/\Zv l:=by
 rcases open_slice_pairs Tryz.underlying23 Tryz.underlying25 Tryz.cellsRat rfl rfl (by kernel_rfl) (by kernel_rfl) h with ⟨hc,_⟩ | ⟨a,len,cap,m,n,V0,V1,D0,D1,P0,P1,hc,hb,hl,hm,hmm,_,hi⟩
 ·obtain rfl:c0=.slice none 0 0:=by simpa using hc
  exact ⟨[],Zb.nil w,fun x hx=>by cases hx⟩
 ·obtain rfl:c0=.slice (some a) len cap:=by simpa using hc
  have hlm:len<=m:=by rw [hmm];split<;>omega
  have each:∀ i,i<len->∃ q:Int×Int,(w.cell? (a.add (i*2))=some (.int .i64 q.1)/\w.cell? (a.add (i*2+1))=some (.int .i64 q.2))/\(-9223372036854775808<=q.1/\q.1<=9223372036854775807)/\(-9223372036854775808<=q.2/\q.2<=9223372036854775807):=by
   intro i hil
   obtain ⟨c0,c1,t0,t1⟩:=hi i (by omega)
   obtain ⟨n0,e0,_,w0⟩:=DataW.trod_int Tryz.underlying2 t0
   obtain ⟨n1,e1,_,w1⟩:=DataW.trod_int Tryz.underlying2 t1
   simp only [List.cons.injEq,and_true] at e0 e1
   rw [e0] at c0
   rw [e1] at c1
   exact ⟨(n0,n1),⟨c0,c1⟩,Zhr w0,Zhr w1⟩
  obtain ⟨q,hq⟩:=choose_lt each
  have hlen:((List.range len).map q).length=len:=by simp
  refine ⟨(List.range len).map q,⟨some a,cap,by rw [hlen],by rw [hlen];exact hl,hm,?_⟩,fun x hx=>?_⟩
  ·rw [hlen]
   refine ⟨by rw [Zck,hlen],fun hn=>⟨a,rfl,?_,fun j u hu=>?_⟩⟩
   ·have:=World.block_lt_of_cell? _ _ (hq 0 hn).1.1
    rwa [ZL] at this
   ·obtain ⟨i,x,hx,hc⟩:=Zg7 _ j u hu
    rw [List.getElem?_map] at hx
    have hil:i<len:=by
     rcases Nat.lt_or_ge i len with g | g
     ·exact g
     ·rw [List.getElem?_eq_none (by simpa using g)] at hx;cases hx
    rw [List.getElem?_range hil] at hx
    obtain rfl:q i=x:=by simpa using hx
    rcases hc with ⟨rfl,rfl⟩ | ⟨rfl,rfl⟩
    ·exact (hq i hil).1.1
    ·exact (hq i hil).1.2
  ·obtain ⟨i,hil,rfl⟩:=List.mem_map.1 hx
   exact (hq i (List.mem_range.1 hil)).2
end
end
section
open Go.RowKit
theorem ZfS:ZF []:=fun x hx=>by cases hx
end
section
open Go.RowKit
theorem ZlW (s:Bool) (k:Nat):ZbG s 0 k=0:=by
 unfold ZbG
 split
 ·cases s<;>simp
 ·rfl
theorem ZhH {P:Int} {Q N:Nat} {S:Bool} (hN:N=P.natAbs) (hs:P≠0->S=decide (P<0)):toV N Q S=ZcQ P Q:=by
 subst hN
 unfold toV ZcQ ZcK ZcP ZcJ
 by_cases hP:P=0
 ·subst hP
  simp [ZlW]
 ·rw [hs hP]
theorem ZhV (s t:Bool) (X:Nat):Zbh s X t 0=X/\ZbH s X t 0=s:=by
 unfold Zbh ZbH
 refine ⟨?_,?_⟩
 ·split
  ·rfl
  ·rw [if_neg (Nat.not_lt_zero _)];rfl
 ·split
  ·rfl
  ·rw [if_neg (Nat.not_lt_zero _)]
theorem Zo8 (n m:Int) (d e:Nat):toV (Zbh (decide (n<0)) (n.natAbs*(e:Int).natAbs) (decide (m<0)) (m.natAbs*(d:Int).natAbs)) ((d:Int).natAbs*(e:Int).natAbs) (ZbH (decide (n<0)) (n.natAbs*(e:Int).natAbs) (decide (m<0)) (m.natAbs*(d:Int).natAbs))=ZcQ (n*e+m*d) (d*e):=by
 rw [Int.natAbs_natCast,Int.natAbs_natCast]
 obtain ⟨a,b⟩:=Zd6 n m e d
 exact ZhH a b
theorem Zj2 (n m:Int) (d e:Nat):Zbh (decide (n<0)) (n.natAbs*e) (!decide (m<0)) (m.natAbs*d)=(n*e-m*d).natAbs ∧
  (n*e-m*d≠0->ZbH (decide (n<0)) (n.natAbs*e) (!decide (m<0)) (m.natAbs*d)=decide (n*e-m*d<0)):=by
 obtain ⟨a,b⟩:=Zd6 n (-m) e d
 rw [Int.natAbs_neg] at a b
 rw [show n*e+-m*d=n*e-m*d by rw [Int.neg_mul];omega] at a b
 by_cases hm:m=0
 ·subst hm
  rw [show (0:Int).natAbs*d=0 by simp] at a b ⊢
  obtain ⟨x1,x2⟩:=ZhV (decide (n<0)) (decide (-(0:Int)<0)) (n.natAbs*e)
  obtain ⟨y1,y2⟩:=ZhV (decide (n<0)) (!decide ((0:Int)<0)) (n.natAbs*e)
  rw [x1] at a
  rw [x2] at b
  rw [y1,y2]
  exact ⟨a,b⟩
 ·have:(!decide (m<0))=decide (-m<0):=by
   by_cases h:m<0
   ·rw [decide_eq_true h,decide_eq_false (by omega)];rfl
   ·rw [decide_eq_false h,decide_eq_true (by omega)];rfl
  rw [this]
  exact ⟨a,b⟩
theorem ZpT (n m:Int) (d e:Nat):toV (Zbh (decide (n<0)) (n.natAbs*(e:Int).natAbs) (!decide (m<0)) (m.natAbs*(d:Int).natAbs)) ((d:Int).natAbs*(e:Int).natAbs) (ZbH (decide (n<0)) (n.natAbs*(e:Int).natAbs) (!decide (m<0)) (m.natAbs*(d:Int).natAbs))=ZcQ (n*e-m*d) (d*e):=by
 rw [Int.natAbs_natCast,Int.natAbs_natCast]
 obtain ⟨a,b⟩:=Zj2 n m d e
 exact ZhH a b
theorem Zk6 (n m:Int) (h:n*m≠0):(decide (n<0) != decide (m<0))=decide (n*m<0):=by
 have hn:n≠0:=fun e=>h (by rw [e,Int.zero_mul])
 have hm:m≠0:=fun e=>h (by rw [e,Int.mul_zero])
 by_cases a:n<0<;>by_cases b:m<0
 ·have:=Int.mul_pos_of_neg_of_neg a b
  rw [decide_eq_true a,decide_eq_true b,decide_eq_false (by omega)];rfl
 ·have:=Int.mul_neg_of_neg_of_pos a (show 0<m by omega)
  rw [decide_eq_true a,decide_eq_false b,decide_eq_true this];rfl
 ·have:=Int.mul_neg_of_pos_of_neg (show 0<n by omega) b
  rw [decide_eq_false a,decide_eq_true b,decide_eq_true this];rfl
 ·have:=Int.mul_pos (show 0<n by omega) (show 0<m by omega)
  rw [decide_eq_false a,decide_eq_false b,decide_eq_false (by omega)];rfl
theorem Zpx (n m:Int) (d e:Nat):toV (n.natAbs*m.natAbs) ((d:Int).natAbs*(e:Int).natAbs) (decide (n<0) != decide (m<0))=ZcQ (n*m) (d*e):=by
 rw [Int.natAbs_natCast,Int.natAbs_natCast]
 exact ZhH (Int.natAbs_mul n m).symm (Zk6 n m)
theorem Zpg (n m:Int) (d e:Nat) (he:0<e):toV (n.natAbs*(e:Int).natAbs) ((d:Int).natAbs*m.natAbs) (decide (n<0) != decide (m<0))=ZcQ (n*(if m<0 then -(e:Int) else e)) (d*m.natAbs):=by
 rw [Int.natAbs_natCast,Int.natAbs_natCast]
 have hs:decide (m<0)=decide ((if m<0 then -(e:Int) else e)<0):=by
  split
  ·rename_i h
   rw [decide_eq_true h,decide_eq_true (by omega)]
  ·rename_i h
   rw [decide_eq_false h,decide_eq_false (by omega)]
 have ha:(if m<0 then -(e:Int) else (e:Int)).natAbs=e:=by split<;>omega
 generalize (if m<0 then -(e:Int) else (e:Int))=E at *
 rw [hs]
 exact ZhH (by rw [Int.natAbs_mul,ha]) (Zk6 n E)
end
section
open Go.RowKit
theorem Zdp (w:World) (x y:Int×Int) (hx:OkR x) (hy:OkR y) :
  Calls Tryz.prog 32 #[.int .i64 0,Ze x.1 x.2,Ze y.1 y.2] w fun r w2=>r=.returned (.tuple #[Ze (Zo x y).1.1 (Zo x y).1.2,.int .i64 (Zo x y).2])/\Below w.heap.size w w2:=by
 obtain ⟨d,e,v⟩:=hx
 obtain ⟨d',e',v'⟩:=hy
 have:=ZqW v v' w
 rw [Zo8] at this
 unfold Zo Zcr
 rw [e,e']
 exact this
theorem ZdV (w:World) (x y:Int×Int) (hx:OkR x) (hy:OkR y) :
  Calls Tryz.prog 32 #[.int .i64 2,Ze x.1 x.2,Ze y.1 y.2] w fun r w2=>r=.returned (.tuple #[Ze (ZT x y).1.1 (ZT x y).1.2,.int .i64 (ZT x y).2])/\Below w.heap.size w w2:=by
 obtain ⟨d,e,v⟩:=hx
 obtain ⟨d',e',v'⟩:=hy
 have:=ZqY v v' w
 rw [Zpx] at this
 unfold ZT Zcr
 rw [e,e']
 exact this
theorem Zb6 {w4 w5:World} {B n:Nat} {v:Value} {xs:List Value} {o:Obj} (hB:B<=w4.heap.size) (hown:w4.ownsRow B 25 2 v n xs) (hg:(w4.alloc o).grownBy w5 v.ownBlock):Below B w4 w5:=
 ((Below.refl B w4).alloc hB o).grown hg (by simp;omega) (fun _ hk=>Zg6 hown hk)
theorem FracBox.setC {w:World} {b:Nat} {x y z:Value} (h:FracBox w b x y z) (u:Value):FracBox (w.setCell ⟨b,0,none⟩ u) b u y z where
 k0:=World.cell?_setCell_same _ _ _ h.k0
 k1:=(World.cell?_setCell_other _ _ _ _ (by simp)).trans h.k1
 k2:=(World.cell?_setCell_other _ _ _ _ (by simp)).trans h.k2
 l0:=by rw [World.frozen?_setCell];exact h.l0
 l1:=by rw [World.frozen?_setCell];exact h.l1
 l2:=by rw [World.frozen?_setCell];exact h.l2
 lt:=by rw [World.size_setCell];exact h.lt
theorem ZdT (w:World) (x y:Value):∀ (j:Nat) (u:Value),[x,y][j]? = some u->(w.alloc (.cells #[x,y] 25)).cell? ((⟨w.heap.size,0,none⟩:Addr).add j)=some u:=by
 intro j u hu
 match j,hu with
 | 0,hu=>
  obtain rfl:x=u:=by simpa using hu
  show (w.alloc _).cell? ⟨w.heap.size,0,none⟩=_
  go_simp
 | 1,hu=>
  obtain rfl:y=u:=by simpa using hu
  show (w.alloc _).cell? ⟨w.heap.size,1,none⟩=_
  go_simp
 | j+2,hu=>simp at hu
def ZaH (h:How) (l m:List (Int×Int)) (k:Nat):List (Int×Int):=(List.range k).map fun i:Nat=>(h (atL l i) (atL m i)).1
theorem Zjv (h:How) (l m:List (Int×Int)) (k:Nat):(ZaH h l m k).length=k:=by simp [ZaH]
theorem Zc5 (h:How) (l m:List (Int×Int)) (k:Nat):ZaH h l m (k+1)=ZaH h l m k++[(h (atL l k) (atL m k)).1]:=by
 unfold ZaH
 rw [List.range_succ,List.map_append]
 rfl
theorem ZdF:∀ (a b:List (Int×Int)),Zr (a++b)=Zr a++Zr b
 | [],b=>rfl
 | x::r,b=>by rw [List.cons_append,Zr,Zr,ZdF r b];rfl
structure DoS (w wr:World) (b k:Nat) (s:Value) (xn xd:Int) (t:Value) (yn yd zn zd:Int) (v:Value) (xs:List (Int×Int)):Prop where
 F:FracBox wr w.heap.size s (.int .i64 xn) (.int .i64 xd)
 G:FracBox wr (w.heap.size+1) t (.int .i64 yn) (.int .i64 yd)
 E:FracBox wr (w.heap.size+1+1) (.slice none 0 0) (.int .i64 0) (.int .i64 0)
 O:FracBox wr (b+1) v (.int .i64 zn) (.int .i64 zd)
 o:wr.ownsRow (b+2) 25 2 v k (Zr xs)
 lt:w.heap.size+1+1<b
 below:Below w.heap.size w wr
section
variable {w wr w2:World} {b k:Nat} {s t v:Value} {xn xd yn yd zn zd:Int} {xs:List (Int×Int)}
theorem DoS.keep (h:DoS w wr b k s xn xd t yn yd zn zd v xs) (hb:Below wr.heap.size wr w2):DoS w w2 b k s xn xd t yn yd zn zd v xs:=
 ⟨h.F.keep hb,h.G.keep hb,h.E.keep hb,h.O.keep hb,ZH h.o hb,h.lt,h.below.trans (hb.mono h.below.size)⟩
theorem Zao {A:Prop} (h:A/\DoS w wr b k s xn xd t yn yd zn zd v xs):DoS w wr b k s xn xd t yn yd zn zd v xs:=h.2
theorem DoS.cells {c:Nat} {p q:Int} (h:DoS w wr b k s xn xd t yn yd zn zd v xs) (hr:RatAt wr c p q) :
  ((wr.cell? ⟨w.heap.size,0,none⟩=some s/\wr.cell? ⟨w.heap.size,1,none⟩=some (.int .i64 xn)/\wr.cell? ⟨w.heap.size,2,none⟩=some (.int .i64 xd))/\(wr.cell? ⟨c,0,none⟩=some (.int .i64 p)/\wr.cell? ⟨c,1,none⟩=some (.int .i64 q))/\RatAt wr c p q)/\DoS w wr b k s xn xd t yn yd zn zd v xs:=
 ⟨⟨⟨h.F.k0,h.F.k1,h.F.k2⟩,⟨hr.k0,hr.k1⟩,hr⟩,h⟩
theorem Zp {c:Nat} {p q:Int} {A B:Prop} (hb:Below wr.heap.size wr w2) (h:(A/\B/\RatAt wr c p q)/\DoS w wr b k s xn xd t yn yd zn zd v xs) :
  ((w2.cell? ⟨w.heap.size,0,none⟩=some s/\w2.cell? ⟨w.heap.size,1,none⟩=some (.int .i64 xn)/\w2.cell? ⟨w.heap.size,2,none⟩=some (.int .i64 xd))/\(w2.cell? ⟨c,0,none⟩=some (.int .i64 p)/\w2.cell? ⟨c,1,none⟩=some (.int .i64 q))/\RatAt w2 c p q)/\DoS w w2 b k s xn xd t yn yd zn zd v xs:=
 (h.2.keep hb).cells (h.1.2.2.keep hb)
structure HoleC (wA wr:World) (c:Nat):Prop where
 hc:c=wA.heap.size
 k0:wr.cell? ⟨c,0,none⟩=some (.int .i64 0)
 k1:wr.cell? ⟨c,1,none⟩=some (.int .i64 0)
 l0:wr.frozen? ⟨c,0,none⟩=false
 l1:wr.frozen? ⟨c,1,none⟩=false
 lt:c<wr.heap.size
 below:Below wA.heap.size wA wr
theorem HoleC.start (wA:World) (ty:TypeId):HoleC wA (wA.alloc (.cells #[.int .i64 0,.int .i64 0] ty)) wA.heap.size where
 hc:=rfl
 k0:=by go_simp
 k1:=by go_simp
 l0:=by go_simp
 l1:=by go_simp
 lt:=by simp
 below:=Za _ _
theorem HoleC.keep {wA wr w2:World} {c:Nat} (h:HoleC wA wr c) (hb:Below wr.heap.size wr w2):HoleC wA w2 c:=
 have z:=hb.size
 have l:=h.lt
 ⟨h.hc,Zf hb l h.k0,Zf hb l h.k1,Zu hb l h.l0,Zu hb l h.l1,by omega,h.below.trans (hb.mono h.below.size)⟩
theorem ZaC {w wA:World} {b k:Nat} {s t v:Value} {xn xd yn yd zn zd:Int} {xs:List (Int×Int)} {A:Prop} {ty:TypeId} (_:A/\DoS w (wA.alloc (.cells #[.int .i64 0,.int .i64 0] ty)) b k s xn xd t yn yd zn zd v xs):HoleC wA (wA.alloc (.cells #[.int .i64 0,.int .i64 0] ty)) wA.heap.size:=HoleC.start wA ty
theorem Zan {w wq:World} {b k:Nat} {s t v:Value} {xn xd yn yd zn zd:Int} {xs:List (Int×Int)} {A:Prop} {ty:TypeId} (_:A/\DoS w (wq.alloc (.cells #[.int .i64 0,.int .i64 0] ty)).drew b k s xn xd t yn yd zn zd v xs):HoleC wq.drew (wq.alloc (.cells #[.int .i64 0,.int .i64 0] ty)).drew wq.heap.size:=HoleC.start wq.drew ty
theorem HoleC.fill {wA wr:World} {c:Nat} (h:HoleC wA wr c) (p q:Int):Below wA.heap.size wA ((wr.setCell ⟨c,0,none⟩ (.int .i64 p)).setCell ⟨c,1,none⟩ (.int .i64 q))/\RatAt ((wr.setCell ⟨c,0,none⟩ (.int .i64 p)).setCell ⟨c,1,none⟩ (.int .i64 q)) c p q:=by
 obtain ⟨c0,c1⟩:=ZaJ (x:=.int .i64 p) (y:=.int .i64 q) h.k0 h.k1
 have e:=h.hc
 exact ⟨(h.below.setCell (by show _<=c;omega) _).setCell (by show _<=c;omega) _,c0,c1,by rw [World.size_setCell,World.size_setCell];exact h.lt⟩
theorem Zdo {w:World} {B n:Nat} {v:Value} {xs:List Value} (h:w.ownsRow B 25 2 v n xs):∃ A c,v=.slice A n c:=by
 rcases h.2 with ⟨rfl,rfl⟩ | ⟨g,cap,cur,rfl,_⟩
 ·exact ⟨none,0,rfl⟩
 ·exact ⟨_,cap,rfl⟩
def ZcR (w:World) (b k:Nat) (s:Value) (xn xd:Int) (t:Value) (yn yd zn zd:Int) (v:Value) (xs:List (Int×Int)) (p q e:Int) (v13 v14:Value) (wx:World):Prop:=
 ∃ c,v13=.pointer (some ⟨c,0,none⟩)/\v14=.int .i64 e/\RatAt wx c p q/\DoS w wx b k s xn xd t yn yd zn zd v xs
theorem ZcG {w wA wr:World} {b k c:Nat} {s t v:Value} {xn xd yn yd zn zd p q e:Int} {xs:List (Int×Int)} (h:DoS w wA b k s xn xd t yn yd zn zd v xs) (hc:HoleC wA wr c) :
  ZcR w b k s xn xd t yn yd zn zd v xs p q e (.pointer (some ⟨c,0,none⟩)) (.int .i64 e) ((wr.setCell ⟨c,0,none⟩ (.int .i64 p)).setCell ⟨c,1,none⟩ (.int .i64 q)):=
 ⟨_,rfl,rfl,(hc.fill p q).2,h.keep (hc.fill p q).1⟩
theorem Zcj {w wA:World} {b k:Nat} {s t v:Value} {xn xd yn yd zn zd p q e:Int} {xs:List (Int×Int)} (h:DoS w wA b k s xn xd t yn yd zn zd v xs) (ty:TypeId) :
  ZcR w b k s xn xd t yn yd zn zd v xs p q e (.pointer (some ⟨wA.heap.size,0,none⟩)) (.int .i64 e) (wA.alloc (.cells #[.int .i64 p,.int .i64 q] ty)):=
 ⟨_,rfl,rfl,RatAt.start wA p q ty,h.keep (Za _ _)⟩
theorem DoS.push {w4 w7:World} {v':Value} {q:Int×Int} {o:Obj} (h:DoS w w4 b k s xn xd t yn yd zn zd v xs) (hg:(w4.alloc o).grownBy w7 v.ownBlock) (ho:w7.ownsRow (b+2) 25 2 v' (k+1) (Zr xs++[.int .i64 q.1,.int .i64 q.2])) :
  DoS w (w7.setCell ⟨b+1,0,none⟩ v') b (k+1) s xn xd t yn yd zn zd v' (xs++[q]):=by
 have hl:=h.lt
 have ol:=h.O.lt
 have g:=Zb6 (by omega) h.o hg
 have e:Zr (xs++[q])=Zr xs++[.int .i64 q.1,.int .i64 q.2]:=ZdF xs [q]
 have hb:Below (b+1) w7 (w7.setCell ⟨b+1,0,none⟩ v'):=(Below.refl (b+1) w7).setCell (p:=⟨b+1,0,none⟩) (Nat.le_refl _) v'
 have gb:=(g.mono (Nat.le_succ _)).trans hb
 refine ⟨h.F.keepB gb (by omega),h.G.keepB gb (by omega),h.E.keepB gb (by omega),(h.O.keepB g (by omega)).setC v',?_,hl,h.below.trans (gb.mono (by omega))⟩
 rw [e]
 exact ownsRow_setCell_below ho (by show b+1<b+2;omega) v'
end
end
section
open Go.RowKit
theorem Zld (n d m e:Int) (w:World) (ra:∀ w,Calls Tryz.prog 31 #[Ze n d] w fun r w'=>r=.returned (.bool (Zas n d))/\Below w.heap.size w w')
  (rb:∀ w,Calls Tryz.prog 31 #[Ze m e] w fun r w'=>r=.returned (.bool (Zas m e))/\Below w.heap.size w w') (h:Zas n d=false\/(Zas n d=true/\Zas m e=false)) :
  Calls Tryz.prog 123 #[Ze n d,Ze m e] w fun r w'=>r=.returned (.int .i64 0)/\Below w.heap.size w w':=by
 have L:=((Live.start w).box n d).boxAt m e (w.heap.size+1) (by simp)
 rcases h with h | ⟨h,g⟩
 ·rw [h] at ra
  clear h rb
  go_enter Tryz.func123,Tryz.ntmps123
  go_wp2_with (go_at_call 31;(with_reducible refine (ra _).mono ?_);rintro e w1 ⟨rfl,hb⟩;have L:=L.call hb)
  go_ret
  exact ⟨rfl,L.below⟩
 ·rw [h] at ra
  rw [g] at rb
  clear h g
  go_enter Tryz.func123,Tryz.ntmps123
  go_wp2_with (go_at_call 31;(first | with_reducible refine (ra _).mono ?_ | with_reducible refine (rb _).mono ?_);rintro e w1 ⟨rfl,hb⟩;have L:=L.call hb;have a0:=L.n 0 rfl;have a1:=L.d 0 rfl)
  go_ret
  exact ⟨rfl,L.below⟩
theorem ZkI {n m:Int} {d e:Nat} (v:Valid n d) (u:Valid m e) (w:World) :
  Calls Tryz.prog 123 #[Ze n d,Ze m e] w fun r w'=>r=.returned (.int .i64 (Zco n m d e))/\Below w.heap.size w w':=by
 obtain ⟨a,b⟩:=Zj2 n m d e
 refine Zkl v u rfl rfl ?_ w
 rw [Int.natAbs_natCast,Int.natAbs_natCast,a]
 unfold Zco
 by_cases z:n*(e:Int)=m*(d:Int)
 ·rw [if_neg (by omega),if_pos z,if_pos (by omega)]
 ·rw [b (by omega),if_neg (show ¬ (n*(e:Int)-m*(d:Int)).natAbs=0 by omega)]
  by_cases l:n*(e:Int)<m*(d:Int)
  ·rw [if_pos l,if_pos (decide_eq_true (by omega))]
  ·rw [if_neg l,if_neg z,if_neg (by simp;omega)]
end
end Go.Proofs.YtolookeddknmoaaGreat
