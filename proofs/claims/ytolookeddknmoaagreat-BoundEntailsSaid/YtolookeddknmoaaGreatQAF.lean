import Derived.Deep.DeepCutAuto
import Derived.Test.YtolookeddknmoaaGreatQAA
import Derived.Test.YtolookeddknmoaaGreatQAE
set_option maxRecDepth 100000
set_option maxHeartbeats 8000000
namespace Go.Proofs.YtolookeddknmoaaGreat
section
open Go.RowKit
theorem ZiJ:(Tryz.prog.info? 4).map (fun i=>(i.zero,i.size,i.bytes))=some (some (.bool false),1,1):=by kernel_rfl
theorem ZhE {w:World} {base:Nat} {l:List Bool} {v:Value} (h:w.ownsRow base 4 1 v l.length (l.map Value.bool)):Zk w v l:=by
 have h0:=h
 rcases h.2 with ⟨rfl,hn⟩ | ⟨g,cap,cur,rfl,_,hh,hnc,hrest⟩
 ·have:l=[]:=List.eq_nil_of_length_eq_zero (by simpa using hn)
  subst this
  exact Zk.nil w
 ·exact ⟨some _,cap,rfl,hnc,hrest.1,ZB.of_own h0⟩
def Zs (B:Nat) (v:Value):Prop:=∀ k,v.ownBlock=some k->B<=k
theorem Zs.none_ (B n c:Nat):Zs B (.slice none n c):=fun _ h=>by cases h
theorem Zs.mono {B B':Nat} {v:Value} (h:Zs B v) (hB:B'<=B):Zs B' v:=fun k hk=>Nat.le_trans hB (h k hk)
theorem Zs.of_eq {B:Nat} {v u:Value} (h:Zs B v) (e:u.ownBlock=v.ownBlock):Zs B u:=fun k hk=>h k (e.symm.trans hk)
def Zfs (w:World) (l:List Bool) (e:Ending) (w':World):Prop:=∃ v',e=.returned v'/\Zk w' v' l/\Below w.heap.size w w'/\Zs w.heap.size v'
theorem Zoq {w:World} {base k n:Nat} {v:Value} {xs:List Value} (h:w.ownsRow base 4 1 v n xs) (hk:v.ownBlock=some k):base<=k:=by
 rcases h.2 with ⟨rfl,_⟩ | ⟨g,cap,cur,rfl,hg,_⟩
 ·cases hk
 ·have:g=k:=by simpa [Value.ownBlock] using hk
  omega
theorem Zc1 {w:World} {base n:Nat} {v:Value} {xs:List Value} (h:w.ownsRow base 4 1 v n xs):Zs base v:=fun _ hk=>Zoq h hk
theorem Zio {w:World} {base:Nat} {v:Value} {l:List Bool} {b:Bool} (h:w.ownsRow base 4 1 v (l.length+1) (l.map Value.bool++[.bool b])):w.ownsRow base 4 1 v (l++[b]).length ((l++[b]).map Value.bool):=by
 rw [List.length_append,List.map_append];exact h
theorem ZfW {w0 w w1:World} {n:Nat} {v:Value} {xs:List Value} {o:Obj} (hb:Below w0.heap.size w0 w) (hown:w.ownsRow w0.heap.size 4 1 v n xs) (hg:(w.alloc o).grownBy w1 v.ownBlock):Below w0.heap.size w0 w1:=
 (hb.alloc hb.size o).grown hg (by have:=hb.size;simp;omega) (fun _ hk=>Zoq hown hk)
theorem ZfJ {w:World} {b:Bool}:∀ (j:Nat) (u:Value),[Value.bool b][j]? = some u->(w.alloc (.cells #[.bool b] 4)).cell? ((⟨w.heap.size,0,none⟩:Addr).add j)=some u:=by
 intro j u h
 rcases j with _ | j
 ·have:Value.bool b=u:=by simpa using h
  subst this
  show (w.alloc (.cells #[.bool b] 4)).cell? ⟨w.heap.size,0,none⟩=_
  go_simp
 ·simp at h
def Zra (n:Nat) (w:World) (g:Nat) (v0 v3:Value) (wr:World):Prop:=∃ (m:Nat) (l:List Bool),v0=.int .u64 m/\g=m/\m<=n/\l++Zc m=Zc n/\wr.ownsRow w.heap.size 4 1 v3 l.length (l.map Value.bool)/\Below w.heap.size w wr
theorem Zk9 (n:Nat) (w:World) (hn:n<18446744073709551616) :
  Calls Tryz.prog 95 #[.int .u64 n] w (Zfs w (Zc n)):=by
 obtain ⟨i0,hi,hz0,hz1,hz2⟩:=info_parts ZiJ
 have hlen:=ZbF n 64 hn
 have HN:=Lib.hid hn
 have HL:=Lib.hid hlen
 clear hn hlen
 go_enter Tryz.func95,Tryz.ntmps95
 go_wp2_with fail
 go_loopg [0,3] n (fun g v0 v3 wr=>Zra n w g v0 v3 wr)
 case atStart=>exact ⟨n,[],rfl,rfl,Nat.le_refl _,rfl,⟨rfl,.inl ⟨rfl,rfl⟩⟩,Below.refl _ _⟩
 case round=>
  obtain ⟨m,l,rfl,rfl,hm,hb,hown,hbelow⟩:=hrel
  have HB:=Lib.hid hb
  have HM:=Lib.hid hm
  clear hb hm
  by_cases h0:gk=0
  ·subst h0
   have hl:l=Zc n:=by have:=HB.out;rw [ZaO,List.append_nil] at this;exact this
   subst hl
   go_wp2_with fail
   go_ret
   exact ⟨_,rfl,ZhE hown,hbelow,Zc1 hown⟩
  ·have hpos:(0:Int)<(gk:Int):=by omega
   have hl:l.length+(Zc gk).length<=64:=by have:=HL.out;rw [<- HB.out,List.length_append] at this;exact this
   have hl2:l.length<64:=by rw [Zbz h0,List.length_cons] at hl;omega
   have e1:(gk:Int) % 2=((gk % 2:Nat):Int):=by omega
   obtain ⟨r,hr⟩:∃ r,r=gk % 2:=⟨_,rfl⟩
   rw [<- hr] at e1
   have hrb:((r:Int)==1)=(gk % 2==1):=by rw [hr,Bool.eq_iff_iff];simp;omega
   have wq:IntKind.u64.wrap ((gk:Int) / 2)=((gk / 2:Nat):Int):=by have:=HM.out;have:=HN.out;rw [IntWalk.u64_in _ (by omega)];omega
   have H0:=Lib.hid h0
   have HR:=Lib.hid hr
   have HRB:=Lib.hid hrb
   have HX:=Lib.hid (And.intro hl hl2)
   clear hr h0 hl hl2 hrb
   go_wp2_with (at_builtin;refine wpList_append_own _ rfl _ _ 99 rfl w.heap.size 4 i0 (.bool false) 1 1 Tryz.underlying99 hi hz0 hz1 hz2 rfl (by decide) _ _ _ rfl (hown.alloc _) ⟨wr.heap.size,0,none⟩ 1 1 [.bool ((r:Int)==1)] rfl rfl ?c1 ?c2 ?c3 ?c4 ?c5 ?_)
   case c1=>exact ZfJ
   case c2=>intro u hu;simp at hu;subst hu;rfl
   case c3=>have:=HX.out;unfold maxLen;omega
   case c4=>have:=HX.out;omega
   case c5=>have:=hbelow.size;simp;omega
   intro v' w1 hown' hgrow _
   have L1:=Lib.hid (ZfW hbelow hown hgrow)
   have O1:=Lib.hid (Zio hown')
   clear hown hown' hgrow hbelow
   go_wp2_with fail
   go_roundg (gk / 2)
   case measure=>omega
   case rel=>exact ⟨gk / 2,l++[(r:Int)==1],by rfl,rfl,by have:=HM.out;omega,by rw [HRB.out,List.append_assoc,<- HB.out,Zbz H0.out];rfl,O1.out,L1.out⟩
theorem Zim (w:World) (x y:Value) (a b:Nat) (hx:Zk w x (Zc a)) (hy:Zk w y (Zc b)) :
  Calls Tryz.prog 97 #[x,y] w (Ziy w (.bool (decide (a<b)))):=by
 obtain ⟨A,c,rfl,h2,h3,h4⟩:=hx
 obtain ⟨B,d,rfl,k2,k3,k4⟩:=hy
 unfold maxLen at h3 k3
 obtain ⟨n,hn⟩:∃ n,n=(Zc a).length:=⟨_,rfl⟩
 obtain ⟨m,hm⟩:∃ m,m=(Zc b).length:=⟨_,rfl⟩
 obtain ⟨r,hr⟩:∃ r,r=decide (a<b):=⟨_,rfl⟩
 rw [<- hn] at h2 h4 ⊢
 rw [<- hm] at k2 k4 ⊢
 rw [<- hr]
 have hn6:n<=9223372036854775807:=by omega
 have hm6:m<=9223372036854775807:=by omega
 have HR:=Lib.hid hr
 have HN:=Lib.hid hn
 have HM:=Lib.hid hm
 by_cases hnm:n=m
 ·subst hnm
  have HC:=Lib.hid (And.intro h2 k2)
  clear hr hn hm h2 k2 h3 k3 hm6
  go_enter Tryz.func97,Tryz.ntmps97
  go_wp2_with fail
  go_loopg [5] n (fun g v5 wx=>∃ (k q:Nat) (z:Int),k<=n/\g=k/\z=(k:Int)-1/\v5=.int .i64 z/\Zj ((Zc a).drop k)=Zj ((Zc b).drop k)/\wx=w.drewN q)
  case atStart=>exact ⟨n,0,_,Nat.le_refl _,rfl,rfl,rfl,by rw [List.drop_eq_nil_of_le (Nat.le_of_eq HN.out.symm),List.drop_eq_nil_of_le (Nat.le_of_eq HM.out.symm)],rfl⟩
  case round=>
   obtain ⟨k,q,z,hk,hg,hz,rfl,hd,rfl⟩:=hrel
   have HD:=Lib.hid hd
   have HG:=Lib.hid hg
   clear hd hg
   by_cases hk0:k=0
   ·obtain rfl:z=-1:=by omega
    have hab:a=b:=by
     have:=HD.out
     rw [hk0,List.drop_zero,List.drop_zero,Zae,Zae] at this
     exact this
    obtain rfl:r=false:=by rw [HR.out];exact decide_eq_false (by omega)
    clear hz hk hab hk0
    go_wp2_with fail
    go_ret
    exact ⟨rfl,_,rfl⟩
   ·obtain ⟨j,hj⟩:∃ j,j=k-1:=⟨_,rfl⟩
    obtain rfl:z=(j:Int):=by omega
    have hjn:j<n:=by omega
    have hj1:j+1=k:=by omega
    have hd:=HD.out
    rw [<- hj1] at hd
    obtain ⟨ad,rfl,c1⟩:=Zk.bit HN.out.symm h4 hjn
    obtain ⟨bd,rfl,c2⟩:=Zk.bit HM.out.symm k4 hjn
    have wj:IntKind.i64.wrap ((j:Int)-1)=(j:Int)-1:=IntWalk.i64_in _ (by omega)
    have i1:(j:Int)<(n:Int):=by omega
    have i2:(0:Int)<=(j:Int):=by omega
    by_cases hb:Zag (Zc a) j=Zag (Zc b) j
    ·have nx:=Zkj hd hb
     rw [hb] at c1
     generalize Zag (Zc b) j=bb at *
     have NX:=Lib.hid nx
     have HJ:=Lib.hid (And.intro hj hj1)
     clear nx hb hd hj hj1 hz hk hk0
     go_upto_region 6 with fail
     go_quiet (fail)
     go_wp2_with fail
     go_roundg j
     case measure=>have:=HG.out;have:=HJ.out;omega
     case rel=>exact ⟨j,_,_,by omega,rfl,rfl,rfl,NX.out,rfl⟩
    ·have dec:=Zri j hd hb
     rw [Zae,Zae] at dec
     rw [<- HR.out] at dec
     subst dec
     have hne:(Zag (Zc a) j==Zag (Zc b) j)=false:=by simpa using hb
     generalize Zag (Zc a) j=ab at *
     generalize Zag (Zc b) j=bb at *
     have HB:=Lib.hid hb
     clear hb hd hj hj1 hz hk hk0 HR
     go_upto_region 6 with fail
     go_quiet (fail)
     go_wp2_with fail
     go_ret
     exact ⟨rfl,_,rfl⟩
 ·have e1:((n:Int)==(m:Int))=false:=by simp;omega
  have e2:((n:Int) != (m:Int))=true:=by simp;omega
  obtain rfl:r=decide (n<m):=by
   rw [hr]
   rcases Nat.lt_or_ge n m with g | g
   ·rw [decide_eq_true g];exact decide_eq_true (Zg1 (by omega))
   ·rw [show decide (n<m)=false from decide_eq_false (by omega)]
    exact decide_eq_false (by have:=Zg1 (a:=b) (b:=a) (by omega);omega)
  clear hr hn hm h2 k2 h3 k3 hnm HR HN HM h4 k4
  go_enter Tryz.func97,Tryz.ntmps97
  go_wp2_with fail
  go_ret
  exact ⟨rfl,0,rfl⟩
def ZqE (la lb:List Bool) (w:World) (g:Nat) (v5 v6 v7:Value) (wr:World):Prop:=∃ (k cy:Nat) (z:Int) (l:List Bool),g=500-k/\cy<=1/\z=(cy:Int)/\v6=.int .i64 z/\v7=.int .i64 k/\l.length=k ∧
 Zj l+2 ^ k*(cy+Zj (la.drop k)+Zj (lb.drop k))=Zj la+Zj lb/\(k<=max la.length lb.length+1/\(k=max la.length lb.length+1->cy=0))/\wr.ownsRow w.heap.size 4 1 v5 l.length (l.map Value.bool)/\Below w.heap.size w wr
theorem ZgN {l:List Bool} {k:Nat} (h:¬ k<l.length):Zag l k=false:=by
 unfold Zag
 rw [List.getD_eq_getElem?_getD,List.getElem?_eq_none (by omega)];rfl
theorem ZnU {la lb l:List Bool} {k cy:Nat} (hl:l.length=k) (hs:Zj l+2 ^ k*(cy+Zj (la.drop k)+Zj (lb.drop k))=Zj la+Zj lb) (p q:Bool) (hp:Zag la k=p) (hq:Zag lb k=q)
  (bt:Bool) (c2:Nat) (ht:cy+p.toNat+q.toNat=bt.toNat+2*c2) :
  Zj (l++[bt])+2 ^ (k+1)*(c2+Zj (la.drop (k+1))+Zj (lb.drop (k+1)))=Zj la+Zj lb:=by
 rw [ZbM la k,ZbM lb k,hp,hq] at hs
 rw [ZdC,hl,<- hs,Nat.pow_succ,Nat.mul_assoc,Nat.add_assoc,<- Nat.mul_add]
 congr 2
 omega
theorem Zi7 (w:World) (x y:Value) (a b:Nat) (hx:Zk w x (Zc a)) (hy:Zk w y (Zc b)) (ha:(Zc a).length<=300) (hb:(Zc b).length<=300) :
  Calls Tryz.prog 94 #[x,y] w (Zfs w (Zc (a+b))):=by
 have bx:=fun (wr:World) (hw:Below w.heap.size w wr) (i:Nat)=>Zhw wr x (Zc a) (hx.below hw) i
 have by_:=fun (wr:World) (hw:Below w.heap.size w wr) (i:Nat)=>Zhw wr y (Zc b) (hy.below hw) i
 obtain ⟨i0,hi,hz0,hz1,hz2⟩:=info_parts ZiJ
 obtain ⟨A,c,rfl,h2,h3,h4⟩:=hx
 obtain ⟨B,d,rfl,k2,k3,k4⟩:=hy
 have na:Zj (Zc a)=a:=Zae a
 have nb:Zj (Zc b)=b:=Zae b
 obtain ⟨la,hla⟩:∃ la,la=Zc a:=⟨_,rfl⟩
 obtain ⟨lb,hlb⟩:∃ lb,lb=Zc b:=⟨_,rfl⟩
 rw [<- hla] at bx ha na ⊢
 rw [<- hlb] at by_ hb nb ⊢
 obtain ⟨n,hn⟩:∃ n,n=la.length:=⟨_,rfl⟩
 obtain ⟨m,hm⟩:∃ m,m=lb.length:=⟨_,rfl⟩
 rw [<- hn] at bx ha ⊢
 rw [<- hm] at by_ hb ⊢
 have HA:=Lib.hid (And.intro na (And.intro nb (And.intro hn hm)))
 have HL:=Lib.hid (And.intro ha hb)
 clear h2 h3 h4 k2 k3 k4 na nb hla hlb hn hm
 go_enter Tryz.func94,Tryz.ntmps94
 go_wp2_with fail
 go_loopg [5,6,7] 500 (fun g v5 v6 v7 wr=>ZqE la lb w g v5 v6 v7 wr)
 case atStart=>exact ⟨0,0,0,[],rfl,by omega,rfl,rfl,rfl,rfl,by simp [Zj],⟨by omega,fun _=>rfl⟩,⟨rfl,.inl ⟨rfl,rfl⟩⟩,Below.refl _ _⟩
 case round=>
  obtain ⟨k,cy,z,l,hg,hc,hz,rfl,rfl,hl,hsum,hor,hown,hbelow⟩:=hrel
  have hnm:n=la.length/\m=lb.length:=HA.out.2.2
  have hk:k<=301:=by have:=HL.out;omega
  by_cases hgo:k<n\/k<m\/0<cy
  ·have hk2:k+1<=max la.length lb.length+1/\(k+1=max la.length lb.length+1->¬ k<n/\¬ k<m):=by omega
   have T:(∃ b1,decide (k<n)=b1/\b1=true)\/(decide (k<n)=false/\decide (k<m)=true)\/(decide (k<n)=false/\decide (k<m)=false/\cy=1):=by
    by_cases g1:k<n
    ·exact .inl ⟨_,rfl,decide_eq_true g1⟩
    ·by_cases g2:k<m
     ·exact .inr (.inl ⟨decide_eq_false g1,decide_eq_true g2⟩)
     ·exact .inr (.inr ⟨decide_eq_false g1,decide_eq_false g2,by omega⟩)
   have nxt:∀ (p q bt:Bool) (c2:Nat),Zag la k=p->Zag lb k=q->cy+p.toNat+q.toNat=bt.toNat+2*c2->c2<=1/\Zj (l++[bt])+2 ^ (k+1)*(c2+Zj (la.drop (k+1))+Zj (lb.drop (k+1)))=Zj la+Zj lb/\(k+1<=max la.length lb.length+1/\(k+1=max la.length lb.length+1->c2=0)):=by
    intro p q bt c2 hp hq ht
    have p1:=ZcM p
    have q1:=ZcM q
    refine ⟨by omega,ZnU hl hsum p q hp hq bt c2 ht,hk2.1,fun e=>?_⟩
    obtain ⟨x1,x2⟩:=hk2.2 e
    rw [ZgN (by omega)] at hp
    rw [ZgN (by omega)] at hq
    subst hp hq
    have z0:false.toNat=0:=rfl
    omega
   have wk:IntKind.i64.wrap ((k:Int)+1)=((k+1:Nat):Int):=by rw [IntWalk.i64_in _ (by omega)];omega
   have bxk:=bx wr hbelow k
   have byk:=by_ wr hbelow k
   have NX:=Lib.hid nxt
   have HG:=Lib.hid (And.intro hg (And.intro hl hk))
   have hcs:(z=0/\cy=0)\/(z=1/\cy=1):=by omega
   generalize hpa:Zag la k=pa at *
   generalize hpb:Zag lb k=pb at *
   have HP:=Lib.hid (And.intro hpa hpb)
   clear nxt hsum hor hg hl hk hk2 hgo hnm hc hz hpa hpb bx by_
   go_upto_region 4 with fail
   go_cut [21] (fun v wx=>v=.bool true/\wr=wx)
   case first=>
    rcases T with ⟨b1,t1,rfl⟩ | ⟨t1,t2⟩ | ⟨t1,t2,t3⟩
    ·go_wp2_with fail
     go_meet
     exact ⟨rfl,rfl⟩
    ·go_wp2_with fail
     go_meet
     exact ⟨rfl,rfl⟩
    ·obtain rfl:z=1:=by omega
     go_wp2_with fail
     go_meet
     exact ⟨rfl,rfl⟩
   case rest=>
    obtain ⟨rfl,rfl⟩:=hcut
    clear T
    rcases hcs with ⟨rfl,rfl⟩ | ⟨rfl,rfl⟩<;>cases pa<;>cases pb
    all_goals
     go_wp2_with (first
      | (go_at_call 116;(first | with_reducible refine bxk.mono ?_ | with_reducible refine byk.mono ?_);rintro e w' ⟨rfl,rfl⟩)
      | (at_builtin;first
        | refine wpList_append_own _ rfl _ _ 99 rfl w.heap.size 4 i0 (.bool false) 1 1 Tryz.underlying99 hi hz0 hz1 hz2 rfl (by decide) _ _ _ rfl (hown.alloc _) ⟨wr.heap.size,0,none⟩ 1 1 [.bool false] rfl rfl (ZfJ (b:=false)) ?c2 ?c3 ?c4 ?c5 ?_
        | refine wpList_append_own _ rfl _ _ 99 rfl w.heap.size 4 i0 (.bool false) 1 1 Tryz.underlying99 hi hz0 hz1 hz2 rfl (by decide) _ _ _ rfl (hown.alloc _) ⟨wr.heap.size,0,none⟩ 1 1 [.bool true] rfl rfl (ZfJ (b:=true)) ?c2 ?c3 ?c4 ?c5 ?_))
     case c2=>intro u hu;simp at hu;subst hu;rfl
     case c3=>have:=HG.out;unfold maxLen;omega
     case c4=>have:=HG.out;omega
     case c5=>have:=hbelow.size;simp;omega
     intro v' w1 hown' hgrow _
     have L1:=Lib.hid (ZfW hbelow hown hgrow)
     have O1:=Lib.hid (Zio hown')
     clear hown hown' hgrow hbelow
     go_wp2_with fail
     go_roundg (500-(k+1))
     case measure=>have:=HG.out;omega
     case rel=>
      first
       | (obtain ⟨r1,r2,r3⟩:=NX.out _ _ false 0 rfl rfl (by decide);exact ⟨k+1,0,_,l++[false],rfl,r1,rfl,rfl,by go_num,by rw [List.length_append,HG.out.2.1];rfl,r2,r3,O1.out,L1.out⟩)
       | (obtain ⟨r1,r2,r3⟩:=NX.out _ _ false 1 rfl rfl (by decide);exact ⟨k+1,1,_,l++[false],rfl,r1,rfl,rfl,by go_num,by rw [List.length_append,HG.out.2.1];rfl,r2,r3,O1.out,L1.out⟩)
       | (obtain ⟨r1,r2,r3⟩:=NX.out _ _ true 0 rfl rfl (by decide);exact ⟨k+1,0,_,l++[true],rfl,r1,rfl,rfl,by go_num,by rw [List.length_append,HG.out.2.1];rfl,r2,r3,O1.out,L1.out⟩)
       | (obtain ⟨r1,r2,r3⟩:=NX.out _ _ true 1 rfl rfl (by decide);exact ⟨k+1,1,_,l++[true],rfl,r1,rfl,rfl,by go_num,by rw [List.length_append,HG.out.2.1];rfl,r2,r3,O1.out,L1.out⟩)
  ·have hcy:cy=0:=by omega
   obtain rfl:z=0:=by omega
   have hfin:Zj l=a+b:=by
    rw [List.drop_eq_nil_of_le (show la.length<=k by omega),List.drop_eq_nil_of_le (show lb.length<=k by omega),hcy] at hsum
    have:=HA.out
    simp [Zj] at hsum
    omega
   have d1:decide (k<n)=false:=decide_eq_false (by omega)
   have d2:decide (k<m)=false:=decide_eq_false (by omega)
   have ht:=ZeV wr _ l (ZhE hown)
   have hfr:=Zc1 hown
   rw [hfin] at ht
   clear hg hc hz hl hsum hor hown hnm hk hgo hcy hfin bx by_
   go_wp2_with (go_at_call 99;(with_reducible refine ht.mono ?_);rintro e w' ⟨v',rfl,hv,rfl,ho⟩;have HV:=Lib.hid (And.intro hv (hfr.of_eq ho));clear hv ho)
   go_ret
   exact ⟨_,rfl,HV.out.1,hbelow,HV.out.2⟩
end
section
open Go.RowKit
def ZqN (la lb:List Bool) (w:World) (g:Nat) (v5 v6 v7:Value) (wr:World):Prop:=∃ (k br:Nat) (z:Int) (l:List Bool),g=500-k/\br<=1/\z=(br:Int)/\v6=.int .i64 z/\v7=.int .i64 k/\l.length=k ∧
 Zj l+2 ^ k*Zj (la.drop k)+Zj lb=Zj la+2 ^ k*(Zj (lb.drop k)+br)/\k<=la.length/\wr.ownsRow w.heap.size 4 1 v5 l.length (l.map Value.bool)/\Below w.heap.size w wr
theorem ZoN {la lb l:List Bool} {k br:Nat} (hl:l.length=k) (hs:Zj l+2 ^ k*Zj (la.drop k)+Zj lb=Zj la+2 ^ k*(Zj (lb.drop k)+br)) (p q:Bool) (hp:Zag la k=p) (hq:Zag lb k=q)
  (bt:Bool) (b2:Nat) (ht:p.toNat+2*b2=q.toNat+br+bt.toNat) :
  Zj (l++[bt])+2 ^ (k+1)*Zj (la.drop (k+1))+Zj lb=Zj la+2 ^ (k+1)*(Zj (lb.drop (k+1))+b2):=by
 rw [ZbM la k,ZbM lb k,hp,hq] at hs
 rw [ZdC,hl,Nat.pow_succ,Nat.mul_assoc,Nat.mul_assoc]
 generalize Zj (la.drop (k+1))=x at *
 generalize Zj (lb.drop (k+1))=y at *
 generalize 2 ^ k=P at *
 have e:P*(p.toNat+2*b2)=P*(q.toNat+br+bt.toNat):=by rw [ht]
 simp only [Nat.mul_add] at e hs ⊢
 omega
theorem Zqx {la lb l:List Bool} {n br:Nat} (hn:la.length=n) (hl:l.length=n) (hs:Zj l+2 ^ n*Zj (la.drop n)+Zj lb=Zj la+2 ^ n*(Zj (lb.drop n)+br)) (h:Zj lb<=Zj la):Zj l=Zj la-Zj lb:=by
 rw [List.drop_eq_nil_of_le (Nat.le_of_eq hn)] at hs
 have hlt:=Zb8 l
 rw [hl] at hlt
 generalize Zj (lb.drop n)+br=X at *
 generalize 2 ^ n=P at *
 simp only [Zj,Nat.mul_zero,Nat.add_zero] at hs
 rcases Nat.eq_zero_or_pos X with h0 | h0
 ·rw [h0,Nat.mul_zero] at hs;omega
 ·have:=Nat.le_mul_of_pos_right P h0;omega
theorem Zjo (w:World) (x y:Value) (a b:Nat) (hx:Zk w x (Zc a)) (hy:Zk w y (Zc b)) (ha:(Zc a).length<=300) (hb:(Zc b).length<=300) (hle:b<=a) :
  Calls Tryz.prog 98 #[x,y] w (Zfs w (Zc (a-b))):=by
 have bx:=fun (wr:World) (hw:Below w.heap.size w wr) (i:Nat)=>Zhw wr x (Zc a) (hx.below hw) i
 have by_:=fun (wr:World) (hw:Below w.heap.size w wr) (i:Nat)=>Zhw wr y (Zc b) (hy.below hw) i
 obtain ⟨i0,hi,hz0,hz1,hz2⟩:=info_parts ZiJ
 obtain ⟨A,c,rfl,h2,h3,h4⟩:=hx
 obtain ⟨B,d,rfl,k2,k3,k4⟩:=hy
 have na:Zj (Zc a)=a:=Zae a
 have nb:Zj (Zc b)=b:=Zae b
 obtain ⟨la,hla⟩:∃ la,la=Zc a:=⟨_,rfl⟩
 obtain ⟨lb,hlb⟩:∃ lb,lb=Zc b:=⟨_,rfl⟩
 rw [<- hla] at bx ha na ⊢
 rw [<- hlb] at by_ hb nb ⊢
 obtain ⟨n,hn⟩:∃ n,n=la.length:=⟨_,rfl⟩
 obtain ⟨m,hm⟩:∃ m,m=lb.length:=⟨_,rfl⟩
 rw [<- hn] at bx ha ⊢
 rw [<- hm] at by_ hb ⊢
 have HA:=Lib.hid (And.intro na (And.intro nb (And.intro hn hm)))
 have HL:=Lib.hid (And.intro ha hb)
 clear h2 h3 h4 k2 k3 k4 na nb hla hlb hn hm
 go_enter Tryz.func98,Tryz.ntmps98
 go_wp2_with fail
 go_loopg [5,6,7] 500 (fun g v5 v6 v7 wr=>ZqN la lb w g v5 v6 v7 wr)
 case atStart=>exact ⟨0,0,0,[],rfl,by omega,rfl,rfl,rfl,rfl,by simp [Zj],Nat.zero_le _,⟨rfl,.inl ⟨rfl,rfl⟩⟩,Below.refl _ _⟩
 case round=>
  obtain ⟨k,br,z,l,hg,hc,hz,rfl,rfl,hl,hsum,hkl,hown,hbelow⟩:=hrel
  have hnm:n=la.length/\m=lb.length:=HA.out.2.2
  have hk:k<=300:=by have:=HL.out;omega
  by_cases hgo:k<n
  ·have nxt:∀ (p q bt:Bool) (b2:Nat),Zag la k=p->Zag lb k=q->p.toNat+2*b2=q.toNat+br+bt.toNat->b2<=1/\Zj (l++[bt])+2 ^ (k+1)*Zj (la.drop (k+1))+Zj lb=Zj la+2 ^ (k+1)*(Zj (lb.drop (k+1))+b2)/\k+1<=la.length:=by
    intro p q bt b2 hp hq ht
    have p1:=ZcM p
    have q1:=ZcM q
    have r1:=ZcM bt
    exact ⟨by omega,ZoN hl hsum p q hp hq bt b2 ht,by omega⟩
   have wk:IntKind.i64.wrap ((k:Int)+1)=((k+1:Nat):Int):=by rw [IntWalk.i64_in _ (by omega)];omega
   have d1:decide (k<n)=true:=decide_eq_true hgo
   have bxk:=bx wr hbelow k
   have byk:=by_ wr hbelow k
   have NX:=Lib.hid nxt
   have HG:=Lib.hid (And.intro hg (And.intro hl hk))
   have hcs:(z=0/\br=0)\/(z=1/\br=1):=by omega
   generalize hpa:Zag la k=pa at *
   generalize hpb:Zag lb k=pb at *
   clear nxt hsum hkl hg hl hk hgo hnm hc hz hpa hpb bx by_
   rcases hcs with ⟨rfl,rfl⟩ | ⟨rfl,rfl⟩<;>cases pa<;>cases pb
   all_goals
    go_wp2_with (first
     | (go_at_call 116;(first | with_reducible refine bxk.mono ?_ | with_reducible refine byk.mono ?_);rintro e w' ⟨rfl,rfl⟩)
     | (at_builtin;first
       | refine wpList_append_own _ rfl _ _ 99 rfl w.heap.size 4 i0 (.bool false) 1 1 Tryz.underlying99 hi hz0 hz1 hz2 rfl (by decide) _ _ _ rfl (hown.alloc _) ⟨wr.heap.size,0,none⟩ 1 1 [.bool false] rfl rfl (ZfJ (b:=false)) ?c2 ?c3 ?c4 ?c5 ?_
       | refine wpList_append_own _ rfl _ _ 99 rfl w.heap.size 4 i0 (.bool false) 1 1 Tryz.underlying99 hi hz0 hz1 hz2 rfl (by decide) _ _ _ rfl (hown.alloc _) ⟨wr.heap.size,0,none⟩ 1 1 [.bool true] rfl rfl (ZfJ (b:=true)) ?c2 ?c3 ?c4 ?c5 ?_))
    case c2=>intro u hu;simp at hu;subst hu;rfl
    case c3=>have:=HG.out;unfold maxLen;omega
    case c4=>have:=HG.out;omega
    case c5=>have:=hbelow.size;simp;omega
    intro v' w1 hown' hgrow _
    have L1:=Lib.hid (ZfW hbelow hown hgrow)
    have O1:=Lib.hid (Zio hown')
    clear hown hown' hgrow hbelow
    go_wp2_with fail
    go_roundg (500-(k+1))
    case measure=>have:=HG.out;omega
    case rel=>
     first
      | (obtain ⟨r1,r2,r3⟩:=NX.out _ _ false 0 rfl rfl rfl;exact ⟨k+1,0,_,l++[false],rfl,r1,rfl,rfl,by go_num,by rw [List.length_append,HG.out.2.1];rfl,r2,r3,O1.out,L1.out⟩)
      | (obtain ⟨r1,r2,r3⟩:=NX.out _ _ false 1 rfl rfl rfl;exact ⟨k+1,1,_,l++[false],rfl,r1,rfl,rfl,by go_num,by rw [List.length_append,HG.out.2.1];rfl,r2,r3,O1.out,L1.out⟩)
      | (obtain ⟨r1,r2,r3⟩:=NX.out _ _ true 0 rfl rfl rfl;exact ⟨k+1,0,_,l++[true],rfl,r1,rfl,rfl,by go_num,by rw [List.length_append,HG.out.2.1];rfl,r2,r3,O1.out,L1.out⟩)
      | (obtain ⟨r1,r2,r3⟩:=NX.out _ _ true 1 rfl rfl rfl;exact ⟨k+1,1,_,l++[true],rfl,r1,rfl,rfl,by go_num,by rw [List.length_append,HG.out.2.1];rfl,r2,r3,O1.out,L1.out⟩)
  ·have hkn:k=n:=by omega
   have hfin:Zj l=a-b:=by
    have:=HA.out
    have e:=Zqx (br:=br) (show la.length=k by omega) hl hsum (by omega)
    omega
   have d1:decide (k<n)=false:=decide_eq_false hgo
   have ht:=ZeV wr _ l (ZhE hown)
   have hfr:=Zc1 hown
   rw [hfin] at ht
   clear hg hc hz hl hsum hkl hown hnm hk hgo hkn hfin bx by_
   go_wp2_with (go_at_call 99;(with_reducible refine ht.mono ?_);rintro e w' ⟨v',rfl,hv,rfl,ho⟩;have HV:=Lib.hid (And.intro hv (hfr.of_eq ho));clear hv ho)
   go_ret
   exact ⟨_,rfl,HV.out.1,hbelow,HV.out.2⟩
end
end Go.Proofs.YtolookeddknmoaaGreat
