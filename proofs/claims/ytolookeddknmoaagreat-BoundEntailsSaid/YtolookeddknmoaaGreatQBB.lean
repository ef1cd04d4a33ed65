import Derived.BigQuiet
import Derived.Deep.QuietTactic
import Derived.Test.YtolookeddknmoaaGreatQAL
import Derived.Test.YtolookeddknmoaaGreatQAQ
import Derived.Test.YtolookeddknmoaaGreatQAR
import Derived.Test.YtolookeddknmoaaGreatQAX
import Derived.Test.YtolookeddknmoaaGreatQAY
import Derived.Test.YtolookeddknmoaaGreatQBA
set_option maxRecDepth 100000
set_option maxHeartbeats 8000000
namespace Go.Proofs.YtolookeddknmoaaGreat
section
open Go.RowKit
theorem ZkX {l:List Int} {k:Nat} {x c:Int} (hk:l[k]? = some x) (h:(l.take k).contains c=false):(l.take (k+1)).contains c=(c==x):=by
 rw [List.take_add_one,hk,List.contains_eq_any_beq,List.any_append,<- List.contains_eq_any_beq,h,Bool.false_or]
 simp
def Zfr (l:List Int) (c:Int) (z:Int):Prop:=decide (0<=z)=l.contains c
theorem Znd (w:World) (v:Value) (l:List Int) (c:Int) (h:ZaT w v l) :
  Calls Tryz.prog 88 #[v,.int .i64 c] w fun e w'=>(∃ z:Int,e=.returned (.int .i64 z)/\Zfr l c z)/\w=w':=by
 obtain ⟨A,cp,rfl,h2,h3,h4⟩:=h
 obtain ⟨n,hn⟩:∃ n,n=l.length:=⟨_,rfl⟩
 have hmx:n<=9223372036854775807:=by unfold maxLen at h3;omega
 rw [<- hn] at h2 h4 ⊢
 have HN:=Lib.hid (And.intro hn hmx)
 have H4:=Lib.hid h4
 clear hn h2 h3 h4 hmx
 go_enter Tryz.func88,Tryz.ntmps88
 go_wp2_with fail
 go_loopg [8] n (fun g v8 wr=>w=wr/\∃ k:Nat,v8=.int .i64 k/\k<=n/\g=n-k/\(l.take k).contains c=false)
 case atStart=>exact ⟨rfl,0,rfl,Nat.zero_le _,rfl,rfl⟩
 case round=>
  obtain ⟨rfl,k,rfl,hk,hg,hall⟩:=hrel
  by_cases hkn:k=n
  ·have e:l.take k=l:=by rw [hkn,HN.out.1];exact List.take_length
   rw [e] at hall
   have FIN:=Lib.hid (show Zfr l c (-1) from by unfold Zfr;rw [hall];rfl)
   subst hkn
   clear hk hg hall e
   go_wp2_with fail
   go_ret
   exact ⟨⟨_,rfl,FIN.out⟩,rfl⟩
  ·have hlt:k<n:=by omega
   obtain ⟨x,hx⟩:∃ x,l[k]? = some x:=⟨_,List.getElem?_eq_getElem (by have:=HN.out.1;omega)⟩
   obtain ⟨ad,rfl,d0⟩:=ZbL H4.out (Below.refl _ _) hx (by omega)
   have nxt:=ZkX (c:=c) hx hall
   have hit:(c==x)=true->Zfr l c k:=fun q=>by
    unfold Zfr
    have q:c=x:=by simpa using q
    rw [show l.contains c=true by rw [q];simpa using List.mem_of_getElem? hx]
    exact decide_eq_true (by omega)
   have i1:(k:Int)<(n:Int):=by omega
   have i2:(0:Int)<=(k:Int):=by omega
   have wk:IntKind.i64.wrap ((k:Int)+1)=(k:Int)+1:=IntWalk.i64_in _ (by have:=HN.out.2;omega)
   have HK:=Lib.hid (And.intro hlt hg)
   have NX:=Lib.hid (And.intro nxt hit)
   clear nxt hit hx hkn hlt hk hg hall
   cases hq:(c==x)
   ·go_wp2_with fail
    go_roundg (n-(k+1))
    case measure=>have:=HK.out;omega
    case rel=>exact ⟨rfl,k+1,by push_cast;rfl,by have:=HK.out;omega,rfl,NX.out.1.trans hq⟩
   ·go_wp2_with fail
    go_ret
    exact ⟨⟨_,rfl,NX.out.2 hq⟩,rfl⟩
theorem Znc (w:World) (v:Value) (l:List Int) (c:Int) (h:ZaT w v l) :
  Calls Tryz.prog 62 #[v,.int .i64 c] w fun e w'=>e=.returned (.bool (l.contains c))/\w=w':=by
 have ix:=Znd w v l c h
 clear h
 go_enter Tryz.func62,Tryz.ntmps62
 go_wp2_with (go_at_call 88;(with_reducible refine ix.mono ?_);rintro e w1 ⟨⟨z,rfl,hz⟩,rfl⟩)
 go_ret
 exact ⟨by unfold Zfr at hz;rw [<- hz];rfl,rfl⟩
theorem Zbl.cells {w:World} {B n:Nat} {xs:List Value} (h:Zbl w B n xs):∀ (j:Nat) (u:Value),xs[j]? = some u->w.cell? ((⟨n,0,none⟩:Addr).add j)=some u:=fun j u hu=>by
 rw [Addr.add_lit,Nat.zero_add]
 exact h.2.2 j u hu
def Zay (P:List Int):Nat->List Int
 | 0=>[]
 | k+1=>if P.contains (k:Int)=true then Zay P k else Zay P k++[(k:Int)]
theorem Ze0 (P:List Int):∀ k,(Zay P k).length<=k
 | 0=>Nat.le_refl _
 | k+1=>by
  have:=Ze0 P k
  unfold Zay
  split<;>simp<;>omega
def Zp6 (w:World) (l:List Int) (e:Ending) (w':World):Prop:=∃ A c,e=.returned (.slice A l.length c)/\ZaT w' (.slice A l.length c) l/\Below w.heap.size w w'
theorem Zii (w:World) (v:Value) (P:List Int) (h:ZaT w v P):Calls Tryz.prog 23 #[v] w (Zp6 w (Zay P 8)):=by
 obtain ⟨iI,hiI,zI0,zI1,zI2⟩:=info_parts Znb
 obtain ⟨A,c,rfl⟩:∃ A c,v=.slice A P.length c:=by obtain ⟨A,c,e,_⟩:=h;exact ⟨A,c,e⟩
 have H:=Lib.hid h
 clear h
 go_enter Tryz.func23,Tryz.ntmps23
 go_wp2_with fail
 go_loopg [3,5] 8 (fun g v3 v5 wr=>∃ (k:Nat) (vr:Value),vr=v3/\v5=.int .i64 k/\k<=8/\g=8-k/\wr.ownsRow w.heap.size 3 1 vr (Zay P k).length (ZbQ (Zay P k))/\Below w.heap.size w wr)
 case atStart=>exact ⟨0,_,rfl,rfl,by omega,rfl,World.ownsRow_nil _ _ _ _,Below.refl _ _⟩
 case round=>
  obtain ⟨k,vr,rfl,rfl,hk,hg,ho,hb⟩:=hrel
  by_cases hk8:8<=k
  ·have hr:=ZdU ho
   rw [show k=8 by omega] at hr
   obtain ⟨A3,c3,rfl⟩:∃ A c,vr=.slice A (Zay P 8).length c:=by obtain ⟨A,c,e,_⟩:=hr;exact ⟨A,c,e⟩
   have i1:¬ (k:Int)<8:=by omega
   have FIN:=Lib.hid (And.intro hr hb)
   clear hr hb ho hk hg hk8
   go_wp2_with fail
   go_ret
   exact ⟨_,_,rfl,FIN.out.1,FIN.out.2⟩
  ·have i1:(k:Int)<8:=by omega
   have wk:IntKind.i64.wrap ((k:Int)+1)=(k:Int)+1:=IntWalk.i64_in _ (by omega)
   have cc:=Znc wr _ P k (H.out.below hb)
   have nx:Zay P (k+1)=if P.contains (k:Int)=true then Zay P k else Zay P k++[(k:Int)]:=rfl
   have hl:=Ze0 P k
   have KK:=Lib.hid (And.intro hk8 hg)
   cases hq:P.contains (k:Int)
   ·rw [hq] at cc nx
    rw [if_neg (by decide)] at nx
    have CC:=Lib.hid cc
    have NX:=Lib.hid (And.intro nx hb)
    have ON:=Lib.hid ho
    have HL:=Lib.hid hl
    clear cc nx hq hb hk8 hg ho hl
    go_wp2_with (first
     | (go_at_call 62;(with_reducible refine CC.out.mono ?_);rintro e w1 ⟨rfl,rfl⟩)
     | (at_builtin;refine wpList_append_own _ rfl _ _ 52 rfl w.heap.size 3 iI (.int .i64 0) 1 8 Tryz.underlying52 hiI zI0 zI1 zI2 rfl (by decide) _ _ _ rfl (ON.out.alloc _) ⟨wr.heap.size,0,none⟩ 1 1 [.int .i64 k] rfl rfl ?c1 ?c2 ?c3 ?c4 ?c5 ?_))
    case c1=>exact (Zav (wo:=wr) (x:=#[.int .i64 (k:Int)]) (ty:=3) (Nat.zero_le _)).cells
    case c2=>intro u hu;simp at hu;rw [hu];rfl
    case c3=>have:=HL.out;unfold maxLen;omega
    case c4=>have:=HL.out;omega
    case c5=>have:=NX.out.2.size;simp;omega
    intro v' w8 hown' hgrow _
    have REL:=Lib.hid (show w8.ownsRow w.heap.size 3 1 v' (Zay P (k+1)).length (ZbQ (Zay P (k+1)))/\Below w.heap.size w w8 by
     rw [NX.out.1]
     refine ⟨?_,((NX.out.2).alloc NX.out.2.size _).grown hgrow (by have:=NX.out.2.size;simp;omega) (fun q hq=>(ON.out.lt q hq).1)⟩
     rw [List.length_append,ZbQ,List.map_append]
     exact hown')
    clear hown' hgrow
    go_wp2_with fail
    go_roundg (8-(k+1))
    case measure=>have:=KK.out;omega
    case rel=>exact ⟨k+1,_,rfl,by push_cast;rfl,by have:=KK.out;omega,rfl,REL.out⟩
   ·rw [hq] at cc nx
    rw [if_pos rfl] at nx
    have CC:=Lib.hid cc
    have REL:=Lib.hid (show wr.ownsRow w.heap.size 3 1 vr (Zay P (k+1)).length (ZbQ (Zay P (k+1)))/\Below w.heap.size w wr by rw [nx];exact ⟨ho,hb⟩)
    clear cc nx hq hb hk8 hg ho hl
    go_wp2_with (go_at_call 62;(with_reducible refine CC.out.mono ?_);rintro e w1 ⟨rfl,rfl⟩)
    go_roundg (8-(k+1))
    case measure=>have:=KK.out;omega
    case rel=>exact ⟨k+1,_,rfl,by push_cast;rfl,by have:=KK.out;omega,rfl,REL.out⟩
end
section
open Go.RowKit Go.WideShapes Go.ChangeShapes Go.ChangeAt Go.Joins Go.Deep
section
variable {H:Type} {enc:TypeId×Value->H} {w:World} {base:Nat} {spare:Nat->Bool} {held:Bool}
theorem Zl2 {fuel:Nat} {cs:List Value} {x:DataW H×List MemPlace} (hl:cs.length=3) (h:DataW.trod enc Tryz.prog w base spare held fuel 27 cs=some x) :
  ∃ s l kn kd,cs=[s,.int .i64 kn,.int .i64 kd]/\Zb w s l/\Zv l/\(-9223372036854775808<=kn/\kn<=9223372036854775807)/\(-9223372036854775808<=kd/\kd<=9223372036854775807):=by
 have hA:Tryz.prog.cellsOf 23=1:=by kernel_rfl
 match cs,hl with
 | [c0,c1,c2],_=>
  obtain ⟨xs,n,_,_,_,hlen,hg⟩:=DataW.trod_struct Tryz.underlying27 h
  match xs,hlen with
  | [y0,y1],_=>
   have g0:=hg 0 _ rfl
   have g1:=hg 1 _ rfl
   simp [hA,Tryz.cellsRat] at g0 g1
   obtain ⟨l,hl,hw⟩:=Zoo g0
   obtain ⟨ys,n',_,_,_,hlen',hg'⟩:=DataW.trod_struct Tryz.underlying25 g1
   match ys,hlen' with
   | [z0,z1],_=>
    have hI:Tryz.prog.cellsOf 2=1:=by kernel_rfl
    have k0:=hg' 0 _ rfl
    have k1:=hg' 1 _ rfl
    simp [hI] at k0 k1
    obtain ⟨n0,e0,_,w0⟩:=DataW.trod_int Tryz.underlying2 k0
    obtain ⟨n1,e1,_,w1⟩:=DataW.trod_int Tryz.underlying2 k1
    simp only [List.cons.injEq,and_true] at e0 e1
    subst e0 e1
    exact ⟨c0,l,n0,n1,rfl,hl,hw,Zhr w0,Zhr w1⟩
end
end
section
open Go.RowKit
theorem Zgg {w:World} {b:Nat} {cs:Array Value} {ty:TypeId} {l:List (Int×Int)} (h:w.heap[b]? = some (.cells cs ty (0,0))) (e:cs.toList=Zr l) (hl:l.length<=maxLen):Zb w (.slice (some ⟨b,0,none⟩) l.length l.length) l:=by
 refine ⟨some ⟨b,0,none⟩,l.length,rfl,Nat.le_refl _,hl,by rw [Zck],fun _=>⟨_,rfl,(Array.getElem?_eq_some_iff.1 h).1,fun j u hu=>?_⟩⟩
 rw [Addr.add_lit,Nat.zero_add,cell_of_row w b j cs ty (0,0) h]
 rw [<- e] at hu
 simpa using hu
theorem ZeL {w:World} {o:Obj} {b:Nat} (h:w.heap.size=b):(w.alloc o).heap[b]? = some o:=by rw [<- h];exact heap_alloc_new w o
theorem Zb9 {w:World} {o u:Obj} {b:Nat} (h:w.heap[b]? = some u):(w.alloc o).heap[b]? = some u:=(Below.heap_alloc w o b (Array.getElem?_eq_some_iff.1 h).1).trans h
end
section
open Go.RowKit
theorem ZmV {ts:List Trm} (hw:∀ t∈ts,Zv t.1/\Bd t.2) (h:ts.any ZW=false):∀ t∈ts,TrmOk t:=fun t ht=>by
 have q:ZW t=false:=by
  cases e:ZW t
  ·rfl
  ·have:=List.any_eq_true.2 ⟨t,ht,e⟩
   rw [h] at this
   cases this
 unfold ZW at q
 obtain ⟨p,a,b⟩:=Zam (by simpa using q) (hw t ht).1 (hw t ht).2.1.1 (hw t ht).2.1.2 (hw t ht).2.2.1 (hw t ht).2.2.2
 exact ⟨a,b,p⟩
theorem Zey {ts a:List Trm} {p:List Int} (hw:∀ t∈ts,Zv t.1/\Bd t.2) (h:Zy ts=((a,p),0)):(∀ t∈ts,TrmOk t)/\∃ l,Zat ts 8=some (l,a,p)/\l.any prK=false:=by
 unfold Zy at h
 split at h
 ·rename_i g
  refine ⟨ZmV hw g.2,?_⟩
  split at h
  ·simp at h
  ·rename_i s hs
   split at h
   ·simp at h
   ·rename_i hq
    obtain ⟨l,a',p'⟩:=s
    simp only [Prod.mk.injEq,and_true] at h
    obtain ⟨rfl,rfl⟩:=h
    exact ⟨l,hs,by simpa using hq⟩
 ·simp at h
theorem Zmi (ts:List Trm):(Zy ts).2=0\/((Zy ts).2=1/\(Zy ts).1=([],[]))\/((Zy ts).2=2/\(Zy ts).1=([],[])):=by
 unfold Zy
 split
 ·split
  ·exact .inr (.inr ⟨rfl,rfl⟩)
  ·split
   ·exact .inr (.inl ⟨rfl,rfl⟩)
   ·exact .inl rfl
 ·exact .inr (.inr ⟨rfl,rfl⟩)
structure PivOk (a:List Trm) (p:List Int):Prop where
 len:a.length=p.length
 rng:∀ (i:Nat) (x:Int),p[i]? = some x->0<=x/\x<8
 inc:∀ (i j:Nat) (x y:Int),i<j->p[i]? = some x->p[j]? = some y->x<y
 at_:∀ (i k:Nat) (x:Int) (t:Trm),p[i]? = some x->a[k]? = some t->atL t.1 x=if k=i then (1,1) else (0,1)
theorem Zot {ts a:List Trm} {p:List Int} (hw:∀ t∈ts,Zv t.1/\Bd t.2) (h:Zy ts=((a,p),0)):PivOk a p:=by
 obtain ⟨hok,l,hk,_⟩:=Zey hw h
 obtain ⟨so,E⟩:=Zfz hok 8 _ hk
 refine ⟨so.ql,E.rng,E.inc,fun i k x t hx ht=>?_⟩
 have u:=E.unit i k x t hx ht
 have ok:=(so.q t (List.mem_of_getElem? ht)).ok.at x
 by_cases g:k=i
 ·rw [if_pos g]
  rw [if_pos g.symm] at u
  exact ok.inj Zdn (by rw [Zp4];exact u)
 ·rw [if_neg g]
  rw [if_neg (fun e=>g e.symm)] at u
  exact ok.inj Zah (by rw [Zoy];exact u)
structure PivS (w3 wr:World) (b8:Nat) (q1:Int):Prop where
 b:Below w3.heap.size w3 wr
 k0:wr.cell? ⟨b8,0,none⟩=some (.int .i64 q1)
 k1:wr.cell? ⟨b8,1,none⟩=some (.int .i64 1)
theorem PivS.keep {w3 wr w2:World} {b8:Nat} {q1:Int} (h:PivS w3 wr b8 q1) (hb:Below wr.heap.size wr w2):PivS w3 w2 b8 q1:=
 ⟨h.b.trans (hb.mono h.b.size),Zf hb (World.block_lt_of_cell? _ _ h.k0) h.k0,Zf hb (World.block_lt_of_cell? _ _ h.k1) h.k1⟩
end
section
open Go.RowKit
theorem Zn9 {p t:Trm} {v:Int} (h:(atL t.1 v).1=0):ZQ p v t=some t:=by
 unfold ZQ
 have e:Zar t.1 t.2 p.1 p.2 v=(t.1,t.2,0):=if_pos h
 rw [e]
 rfl
end
section
open Go.RowKit
def Zct (f:Nat->Rat):Nat->Rat
 | 0=>0
 | k+1=>Zct f k+f k
theorem Zd1 (f g h:Nat->Rat) (c:Rat) (e:∀ k,f k=g k+c*h k):∀ k,Zct f k=Zct g k+c*Zct h k
 | 0=>by unfold Zct;grind
 | k+1=>by
  have:=Zd1 f g h c e k
  have:=e k
  unfold Zct
  grind
theorem Zfa (f:Nat->Rat):∀ k:Nat,(∀ i,i<k->f i=0)->Zct f k=0
 | 0,_=>rfl
 | k+1,h=>by
  have:=Zfa f k fun i hi=>h i (by omega)
  have:=h k (by omega)
  unfold Zct
  grind
def ev (t:Trm) (x:Nat->Rat):Rat:=q t.2+Zct (fun k=>co t k*x k) 8
theorem ZoP {l m:List (Int×Int)} {kx:Int×Int} (hl:ZF l) (hm:ZF m) (hx:OkR kx):∀ (k:Nat) (s:Int×Int),ZaE l m kx k=some s->q s=q kx+Zct (fun i=>q (atL l i)*q (atL m i)) k
 | 0,s,h=>by
  obtain rfl:kx=s:=by simpa [ZaE] using h
  unfold Zct
  grind
 | k+1,s,h=>by
  rw [ZaE,Option.bind_eq_some_iff] at h
  obtain ⟨a,ha,hb⟩:=h
  have ih:=ZoP hl hm hx k a ha
  split at hb
  ·rename_i g
   obtain rfl:_=s:=Option.some.inj hb
   obtain ⟨om,qm⟩:=ZiN (hl.at k) (hm.at k) g.1
   obtain ⟨_,qs⟩:=ZkC (Zcy hl hm hx k a ha) om g.2
   rw [qs,qm,ih]
   show _=q kx+(Zct (fun i=>q (atL l i)*q (atL m i)) k+q (atL l k)*q (atL m k))
   grind
  ·cases hb
theorem Zq9 {t:Trm} {m:List (Int×Int)} (hl:Zv t.1) (hx:Bd t.2) (hm:Zv m) (h:(ZS t.1 m t.2).2=0):OkR (ZS t.1 m t.2).1/\q (ZS t.1 m t.2).1=ev t (fun k=>q (atL (m.take 8) k)):=by
 obtain ⟨a,b,c,_,e⟩:=Zd3 hl hx hm h
 exact ⟨Zcy a c b _ _ e,ZoP a c b 8 _ e⟩
theorem Zhx {p t u:Trm} {v:Int} (hp:TrmOk p) (ht:TrmOk t) (h:ZQ p v t=some u) (x:Nat->Rat):ev u x=ev t x-co t v*ev p x:=by
 obtain ⟨a,b⟩:=ZgQ hp ht h
 have:=Zd1 (fun k=>co u k*x k) (fun k=>co t k*x k) (fun k=>co p k*x k) (- co t v) (fun k=>by have:=a k;grind) 8
 unfold ev
 grind
theorem Zq0 {t:Trm} {v:Int} (ht:TrmOk t) (hv:Zbb v t=true) (e:(ZM t v).2.2=0) (x:Nat->Rat):ev ((ZM t v).1,(ZM t v).2.1) x*co t v=ev t x:=by
 obtain ⟨a,b,_⟩:=Zp1 ht hv e
 have:=Zd1 (fun k=>co t k*x k) (fun _=>0) (fun k=>co ((ZM t v).1,(ZM t v).2.1) k*x k) (co t v) (fun k=>by have:=a k;grind) 8
 have z:=Zfa (fun _=>0) 8 (fun _ _=>rfl)
 unfold ev
 dsimp only
 grind
def ZmZ (x:Nat->Rat) (s:ZbY):Prop:=(∀ t∈s.1,ev t x=0)/\∀ t∈s.2.1,ev t x=0
theorem Zol {L:List Trm} {i:Nat} {t u:Trm} (ht:L[i]? = some t) (hu:u∈L):u=t\/u∈L.eraseIdx i:=by
 obtain ⟨j,hj⟩:=List.mem_iff_getElem?.1 hu
 rcases Nat.lt_trichotomy j i with g | g | g
 ·exact .inr (List.mem_iff_getElem?.2 ⟨j,by rw [List.getElem?_eraseIdx_of_lt g];exact hj⟩)
 ·subst g
  rw [ht] at hj
  exact .inl (Option.some.inj hj).symm
 ·exact .inr (List.mem_iff_getElem?.2 ⟨j-1,by rw [List.getElem?_eraseIdx_of_ge (by omega),show j-1+1=j by omega];exact hj⟩)
theorem Zo1 {n k:Nat} {s r:ZbY} {x:Nat->Rat} (so:SolOk n k s) (e:ZaB s k=some r):ZmZ x s↔ZmZ x r:=by
 obtain ⟨L,Q,P⟩:=s
 unfold ZaB at e
 dsimp only at e
 split at e
 ·obtain rfl:=Option.some.inj e
  exact Iff.rfl
 ·rename_i i hi
  obtain ⟨t,ht,hp⟩:=Zdz hi
  rw [ht,Option.bind_some] at e
  split at e
  ·rename_i he
   rw [Option.bind_eq_some_iff] at e
   obtain ⟨l,hl,e⟩:=e
   obtain ⟨q',hq,rfl⟩:=Option.map_eq_some_iff.1 e
   have tm:=List.mem_of_getElem? ht
   have tok:=so.l t tm
   have pok:=Zfy tok hp he
   have dv:=Zq0 tok hp he x
   have tk:=(ZkR tok).1 hp
   generalize ((ZM t k).1,(ZM t k).2.1)=p at *
   constructor
   ·intro ⟨h1,h2⟩
    have pz:ev p x=0:=by have:=h1 t tm;grind
    refine ⟨fun u hu=>?_,fun u hu=>?_⟩
    ·obtain ⟨t',ht',et⟩:=ZeJ hl u hu
     have t'm:=List.mem_of_mem_eraseIdx ht'
     have:=Zhx pok (so.l t' t'm) et x
     have:=h1 t' t'm
     grind
    ·rcases List.mem_append.1 hu with g | g
     ·obtain ⟨t',ht',et⟩:=ZeJ hq u g
      have:=Zhx pok (so.q t' ht') et x
      have:=h2 t' ht'
      grind
     ·rw [List.mem_singleton] at g
      rw [g]
      exact pz
   ·intro ⟨h1,h2⟩
    have pz:ev p x=0:=h2 p (by simp)
    refine ⟨fun u hu=>?_,fun u hu=>?_⟩
    ·rcases Zol ht hu with rfl | g
     ·grind
     ·obtain ⟨j,hj⟩:=List.mem_iff_getElem?.1 g
      obtain ⟨u',hu',eu⟩:=ZfC hl j u hj
      have:=Zhx pok (so.l u hu) eu x
      have:=h1 u' (List.mem_of_getElem? hu')
      grind
    ·obtain ⟨j,hj⟩:=List.mem_iff_getElem?.1 hu
     obtain ⟨u',hu',eu⟩:=ZfC hq j u hj
     have:=Zhx pok (so.q u hu) eu x
     have:=h2 u' (by simp [List.mem_of_getElem? hu'])
     grind
  ·cases e
theorem Zix {ts:List Trm} (h:∀ t∈ts,TrmOk t) (x:Nat->Rat):∀ (k:Nat) (s:ZbY),Zat ts k=some s->((∀ t∈ts,ev t x=0)↔ZmZ x s)
 | 0,s,e=>by
  obtain rfl:=Option.some.inj e
  exact ⟨fun q=>⟨q,fun _ ht=>by cases ht⟩,fun q=>q.1⟩
 | k+1,s,e=>by
  rw [Zat,Option.bind_eq_some_iff] at e
  obtain ⟨r,hr,e⟩:=e
  exact (Zix h x k r hr).trans (Zo1 (ZcC h k r hr) e)
theorem ZmE {l a:List Trm} {p:List Int} (E:Ech 8 (l,a,p)) {t:Trm} (ht:t∈l) (x:Nat->Rat):ev t x=q t.2:=by
 unfold ev
 rw [Zfa _ 8 fun i hi=>by rw [E.left t ht i (by omega)];grind]
 grind
theorem Zog {ts a:List Trm} {p:List Int} (hw:∀ t∈ts,Zv t.1/\Bd t.2) (h:Zy ts=((a,p),0)) (x:Nat->Rat):(∀ t∈ts,ev t x=0)↔∀ t∈a,ev t x=0:=by
 obtain ⟨hok,l,hk,hl⟩:=Zey hw h
 obtain ⟨so,E⟩:=Zfz hok 8 _ hk
 refine (Zix hok x 8 _ hk).trans ⟨fun q=>q.2,fun q=>⟨fun t ht=>?_,q⟩⟩
 rw [ZmE E ht x]
 have tk:t.2.1=0:=by
  have:=List.any_eq_false.1 hl t ht
  unfold prK at this
  simpa using this
 exact (Zge (so.l t ht).k).2 tk
theorem Zlq {ts:List Trm} {r:List Trm×List Int} (hw:∀ t∈ts,Zv t.1/\Bd t.2) (h:Zy ts=(r,1)):r=([],[])/\(∀ t∈ts,TrmOk t)/\∃ s,Zat ts 8=some s/\s.1.any prK=true:=by
 unfold Zy at h
 split at h
 ·rename_i g
  split at h
  ·simp at h
  ·rename_i s hs
   split at h
   ·rename_i hq
    simp only [Prod.mk.injEq,and_true] at h
    exact ⟨h.symm,ZmV hw g.2,s,hs,hq⟩
   ·simp at h
 ·simp at h
theorem Zl0 {ts:List Trm} {r:List Trm×List Int} (hw:∀ t∈ts,Zv t.1/\Bd t.2) (h:Zy ts=(r,1)) (x:Nat->Rat):¬ ∀ t∈ts,ev t x=0:=by
 obtain ⟨_,hok,⟨l,a,p⟩,hk,hl⟩:=Zlq hw h
 obtain ⟨so,E⟩:=Zfz hok 8 _ hk
 intro q0
 have Z:=(Zix hok x 8 _ hk).1 q0
 obtain ⟨t,ht,hp⟩:=List.any_eq_true.1 hl
 have:=Z.1 t ht
 rw [ZmE E ht x,Zge (so.l t ht).k] at this
 unfold prK at hp
 rw [this] at hp
 cases hp
end
section
open Go.RowKit
theorem ZmU (n:Nat) (c:Rat):∀ k:Nat,Zct (fun i=>if i=n then c else 0) k=if n<k then c else 0
 | 0=>by simp [Zct]
 | k+1=>by
  unfold Zct
  rw [ZmU n c k]
  by_cases h:k=n
  ·subst h
   rw [if_neg (by omega),if_pos rfl,if_pos (by omega)]
   grind
  ·rw [if_neg h]
   by_cases g:n<k
   ·rw [if_pos g,if_pos (by omega)]
    grind
   ·rw [if_neg g,if_neg (by omega)]
    grind
theorem Zgr (f g:Nat->Rat):∀ k:Nat,(∀ i,i<k->f i=g i)->Zct f k=Zct g k
 | 0,_=>rfl
 | k+1,h=>by
  unfold Zct
  rw [Zgr f g k fun i hi=>h i (by omega),h k (by omega)]
def Zgm (p:List Int) (u:Trm) (x:Nat->Rat):Rat:=Zct (fun k=>if p.contains (k:Int)=true then 0 else co u k*x k) 8
structure Solved (a:List Trm) (p:List Int):Prop where
 po:PivOk a p
 ok:∀ t∈a,TrmOk t
 own:∀ t∈a,Zw t.1=t.1
 unit:∀ (i j:Nat) (x:Int) (u:Trm),p[i]? = some x->a[j]? = some u->co u x=if i=j then 1 else 0
 lead:∀ (j:Nat) (x:Int) (u:Trm),p[j]? = some x->a[j]? = some u->∀ v:Int,v<x->co u v=0
theorem Zhe {ts a:List Trm} {p:List Int} (hw:∀ t∈ts,Zv t.1/\Bd t.2) (h:Zy ts=((a,p),0)):Solved a p:=by
 obtain ⟨hok,l,hk,_⟩:=Zey hw h
 obtain ⟨so,E⟩:=Zfz hok 8 _ hk
 exact ⟨Zot hw h,so.q,E.own,E.unit,E.lead⟩
section
variable {a b:List Trm} {p p':List Int}
theorem Zql (S:Solved a p) {i:Nat} {n:Int} {u:Trm} (hn:p[i]? = some n) (hu:a[i]? = some u) (x:Nat->Rat):ev u x=q u.2+(x n.toNat+Zgm p u x):=by
 have hr:=S.po.rng i n hn
 have e:=Zd1 (fun k=>co u k*x k) (fun k=>if p.contains (k:Int)=true then 0 else co u k*x k) (fun k=>if k=n.toNat then x n.toNat else 0) 1 (fun k=>by
  by_cases h:p.contains (k:Int)=true
  ·rw [if_pos h]
   obtain ⟨j,hj⟩:=List.mem_iff_getElem?.1 (show (k:Int)∈p by simpa using h)
   have un:=S.unit j i k u hj hu
   by_cases g:k=n.toNat
   ·rw [if_pos g]
    have:j=i:=by
     rcases Nat.lt_trichotomy j i with q | q | q
     ·have:=S.po.inc j i _ _ q hj hn;omega
     ·exact q
     ·have:=S.po.inc i j _ _ q hn hj;omega
    rw [un,if_pos this,g]
    grind
   ·rw [if_neg g]
    have:j≠i:=fun e=>by
     subst e
     rw [hn] at hj
     have:=Option.some.inj hj
     omega
    rw [un,if_neg this]
    grind
  ·rw [if_neg h]
   have:k≠n.toNat:=fun e=>by
    apply h
    rw [e,show ((n.toNat:Nat):Int)=n by omega]
    simpa using List.mem_of_getElem? hn
   rw [if_neg this]
   grind) 8
 rw [ZmU,if_pos (by omega)] at e
 unfold ev Zgm
 grind
def Zhc (a:List Trm) (p:List Int) (y:Nat->Rat) (n:Nat):Rat:=
 match p.findIdx? (fun x=>x==(n:Int)) with
 | some i=>match a[i]? with
  | some u=>-(q u.2+Zgm p u y)
  | none=>y n
 | none=>y n
theorem ZjZ {y:Nat->Rat} {n:Nat} (h:p.contains (n:Int)=false):Zhc a p y n=y n:=by
 have:p.findIdx? (fun x=>x==(n:Int))=none:=by
  rw [List.findIdx?_eq_none_iff]
  intro x hx
  rw [beq_eq_false_iff_ne]
  intro e
  subst e
  rw [show p.contains (n:Int)=true by simpa using hx] at h
  cases h
 unfold Zhc
 rw [this]
theorem ZpR (S:Solved a p) {y:Nat->Rat} {i:Nat} {n:Int} {u:Trm} (hn:p[i]? = some n) (hu:a[i]? = some u):Zhc a p y n.toNat=-(q u.2+Zgm p u y):=by
 have hr:=S.po.rng i n hn
 have hl:=Za4 hn
 have:p.findIdx? (fun x=>x==((n.toNat:Nat):Int))=some i:=by
  rw [show ((n.toNat:Nat):Int)=n by omega]
  refine List.findIdx?_eq_some_iff_getElem.2 ⟨hl,?_,fun j hj=>?_⟩
  ·rw [List.getElem?_eq_getElem hl] at hn
   rw [Option.some.inj hn]
   simp
  ·have hjl:j<p.length:=by omega
   have:=S.po.inc j i _ _ hj (List.getElem?_eq_getElem hjl) hn
   simp
   omega
 unfold Zhc
 rw [this]
 dsimp only
 rw [hu]
theorem ZoJ {y:Nat->Rat} (u:Trm):Zgm p u (Zhc a p y)=Zgm p u y:=by
 unfold Zgm
 refine Zgr _ _ 8 fun k _=>?_
 cases h:p.contains (k:Int)
 ·rw [if_neg (by decide),if_neg (by decide),ZjZ h]
 ·rw [if_pos rfl,if_pos rfl]
theorem Zmh (S:Solved a p) (y:Nat->Rat):∀ t∈a,ev t (Zhc a p y)=0:=by
 intro u hu
 obtain ⟨i,hi⟩:=List.mem_iff_getElem?.1 hu
 have hl:=Za4 hi
 rw [S.po.len] at hl
 have hn:=List.getElem?_eq_getElem hl
 rw [Zql S hn hi,ZpR S hn hi,ZoJ]
 grind
end
end
section
open Go.RowKit
theorem ZiR (w:World) (va:Value) (l:List (Int×Int)) (kx kb:Int×Int) (ha:Zb w va l) (hl:Zv l) (hx:Bd kx) (hb:Bd kb) :
  Calls Tryz.prog 117 #[.agg #[va,.int .i64 kx.1,.int .i64 kx.2],Ze kb.1 kb.2] w (ZaS w (Zh l kx kb).1 (Zh l kx kb).2.1 (Zh l kx kb).2.2):=by
 have td:=fun (w':World) (h:Below w.heap.size w w')=>Zdf w' va l kx kb (ha.below h) hl hx hb
 generalize Zh l kx kb=P at *
 obtain ⟨L,⟨p1,p2⟩,e⟩:=P
 obtain ⟨xn,xd⟩:=kx
 obtain ⟨bn,bd⟩:=kb
 dsimp only at *
 obtain ⟨A,c,rfl⟩:=Zd ha
 have TD:=Lib.hid td
 clear td ha hl hx hb
 generalize l.length=n at *
 have H:=ScS.start w (.slice A n c) xn xd bn bd 27 25
 have k0:=H.F.k0;have k1:=H.F.k1;have k2:=H.F.k2;have q0:=H.Q.k0;have q1:=H.Q.k1
 have HH:=Lib.hid H
 clear H
 go_enter Tryz.func117,Tryz.ntmps117
 go_wp2_with (go_at_call 17;(with_reducible refine (TD.out _ HH.out.below).mono ?_);rintro e5 w1 ⟨v1,rfl,hv1,hb1,fr1⟩;obtain ⟨A1,cq,rfl⟩:=Zd hv1;have H1:=HH.out.keep hb1;have HV:=Lib.hid (And.intro hv1 (And.intro (fr1.mono HH.out.sz:Zs (w.heap.size+1+1+1) _) H1));clear k0 k1 k2 q0 q1 hv1 fr1;have e0:=H1.c0;have e1:=H1.c1;have e2:=H1.c2;have g0:=H1.l0;have g1:=H1.l1;have g2:=H1.l2;clear H1)
 obtain ⟨c0,c1,c2⟩:=HV.out.2.2.three (.slice A1 L.length cq) (.int .i64 p1) (.int .i64 p2)
 obtain ⟨r1,r2,r3⟩:=Zcg (w:=w) (b:=w.heap.size+1+1) (kn:=p1) (kd:=p2) HV.out.1 HV.out.2.2.below HV.out.2.1 (by omega) rfl
 exact bodyPost_ret (v:=.tuple #[.agg #[.slice A1 L.length cq,.int .i64 p1,.int .i64 p2],.int .i64 e]) (by simp [results,Tryz.results117,go_sem,c0,c1,c2]) rfl ⟨_,rfl,r1,r2,r3⟩
def ZdB (l:List (Int×Int)) (kx:Int×Int) (p:List (Int×Int)) (kp by_:Int×Int):List (Int×Int)×(Int×Int)×Int:=
 if (Zh p kp (ZA by_)).2.2=0 then ZaQ l (Zh p kp (ZA by_)).1 kx (Zh p kp (ZA by_)).2.1 else ([],(0,0),(Zh p kp (ZA by_)).2.2)
structure LesS (w wr:World) (s t:Value) (xn xd yn yd bn bd:Int):Prop where
 F:FracBox wr w.heap.size s (.int .i64 xn) (.int .i64 xd)
 G:FracBox wr (w.heap.size+1) t (.int .i64 yn) (.int .i64 yd)
 R:RatAt wr (w.heap.size+1+1) bn bd
 E:FracBox wr (w.heap.size+1+1+1) (.slice none 0 0) (.int .i64 0) (.int .i64 0)
 below:Below w.heap.size w wr
theorem LesS.keep {w wr w2:World} {s t:Value} {xn xd yn yd bn bd:Int} (h:LesS w wr s t xn xd yn yd bn bd) (hb:Below wr.heap.size wr w2):LesS w w2 s t xn xd yn yd bn bd:=
 ⟨h.F.keep hb,h.G.keep hb,h.R.keep hb,h.E.keep hb,h.below.trans (hb.mono h.below.size)⟩
theorem LesS.start (w:World) (s t:Value) (xn xd yn yd bn bd:Int) (ty ty':TypeId):LesS w ((((w.alloc (.cells #[s,.int .i64 xn,.int .i64 xd] ty)).alloc (.cells #[t,.int .i64 yn,.int .i64 yd] ty)).alloc (.cells #[.int .i64 bn,.int .i64 bd] ty')).alloc (.cells #[.slice none 0 0,.int .i64 0,.int .i64 0] ty)) s t xn xd yn yd bn bd:=by
 have F:=FracBox.start w s (.int .i64 xn) (.int .i64 xd) ty
 have G:=FracBox.start (w.alloc (.cells #[s,.int .i64 xn,.int .i64 xd] ty)) t (.int .i64 yn) (.int .i64 yd) ty
 have R:=RatAt.start ((w.alloc (.cells #[s,.int .i64 xn,.int .i64 xd] ty)).alloc (.cells #[t,.int .i64 yn,.int .i64 yd] ty)) bn bd ty'
 have E:=FracBox.start (((w.alloc (.cells #[s,.int .i64 xn,.int .i64 xd] ty)).alloc (.cells #[t,.int .i64 yn,.int .i64 yd] ty)).alloc (.cells #[.int .i64 bn,.int .i64 bd] ty')) (.slice none 0 0) (.int .i64 0) (.int .i64 0) ty
 have a1:=Za (w.alloc (.cells #[s,.int .i64 xn,.int .i64 xd] ty)) (.cells #[t,.int .i64 yn,.int .i64 yd] ty)
 have a2:=Za ((w.alloc (.cells #[s,.int .i64 xn,.int .i64 xd] ty)).alloc (.cells #[t,.int .i64 yn,.int .i64 yd] ty)) (.cells #[.int .i64 bn,.int .i64 bd] ty')
 have a3:=Za (((w.alloc (.cells #[s,.int .i64 xn,.int .i64 xd] ty)).alloc (.cells #[t,.int .i64 yn,.int .i64 yd] ty)).alloc (.cells #[.int .i64 bn,.int .i64 bd] ty')) (.cells #[.slice none 0 0,.int .i64 0,.int .i64 0] ty)
 rw [World.size_alloc] at G
 rw [World.size_alloc,World.size_alloc] at R
 rw [World.size_alloc,World.size_alloc,World.size_alloc] at E
 exact ⟨((F.keep a1).keep a2).keep a3,(G.keep a2).keep a3,R.keep a3,E,((ZI w _ _).trans (a2.mono (by simp;omega))).trans (a3.mono (by simp;omega))⟩
theorem ZjW (w:World) (va vp:Value) (l p:List (Int×Int)) (kx kp kb:Int×Int) (ha:Zb w va l) (hp:Zb w vp p) (hl:Zv l) (hpw:Zv p) (hx:Bd kx) (hpk:Bd kp) (hq:OkR kb) :
  Calls Tryz.prog 104 #[.agg #[va,.int .i64 kx.1,.int .i64 kx.2],.agg #[vp,.int .i64 kp.1,.int .i64 kp.2],Ze kb.1 kb.2] w (ZaS w (ZdB l kx p kp kb).1 (ZdB l kx p kp kb).2.1 (ZdB l kx p kp kb).2.2):=by
 have ts:=fun (w':World) (h:Below w.heap.size w w')=>ZiR w' vp p kp (ZA kb) (hp.below h) hpw hpk (Zbv hq).wide
 have hw2:=ZaR (l:=p) (kx:=kp) (kb:=ZA kb) hpw hpk (Zbv hq).wide
 have td:=fun (w':World) (h:Below w.heap.size w w') (v':Value) (h':Zb w' v' (Zh p kp (ZA kb)).1)=>ZhW w' va v' l (Zh p kp (ZA kb)).1 kx (Zh p kp (ZA kb)).2.1 (ha.below h) h' hl hw2.1 hx hw2.2
 have hT:ZdB l kx p kp kb=if (Zh p kp (ZA kb)).2.2=0 then ZaQ l (Zh p kp (ZA kb)).1 kx (Zh p kp (ZA kb)).2.1 else ([],(0,0),(Zh p kp (ZA kb)).2.2):=rfl
 generalize ZdB l kx p kp kb=Z at *
 have wn:IntKind.i64.wrap (-kb.1)=-kb.1:=IntWalk.i64_in _ (by obtain ⟨d,_,v⟩:=hq;have:=v.n_le;omega)
 unfold ZA at *
 clear hw2 hq
 generalize Zh p kp (-kb.1,kb.2)=P at *
 generalize ZaQ l P.1 kx P.2.1=U at *
 obtain ⟨L,⟨p1,p2⟩,er⟩:=P
 obtain ⟨M,⟨u1,u2⟩,eu⟩:=U
 obtain ⟨x1,x2⟩:=kb
 obtain ⟨xn,xd⟩:=kx
 obtain ⟨yn,yd⟩:=kp
 dsimp only at *
 obtain ⟨A,c,rfl⟩:=Zd ha
 obtain ⟨B,d,rfl⟩:=Zd hp
 generalize l.length=n at *
 generalize p.length=m at *
 have TS:=Lib.hid ts;have TD:=Lib.hid td;have HZ:=Lib.hid hT
 clear hT ts td ha hl hx hp hpw hpk
 have H:=LesS.start w (.slice A n c) (.slice B m d) xn xd yn yd x1 x2 27 25
 have k0:=H.F.k0;have k1:=H.F.k1;have k2:=H.F.k2;have m0:=H.G.k0;have m1:=H.G.k1;have m2:=H.G.k2;have q0:=H.R.k0;have q1:=H.R.k1
 have HH:=Lib.hid H
 clear H
 go_enter Tryz.func104,Tryz.ntmps104
 go_upto_region 2 with (go_at_call 117;(with_reducible refine (TS.out _ HH.out.below).mono ?_);rintro e5 w1 ⟨v1,rfl,hv1,hb1,fr1⟩;obtain ⟨A1,c1,rfl⟩:=Zd hv1;have HH:=Lib.hid (HH.out.keep hb1);have HV:=Lib.hid hv1;clear hv1 fr1 hb1 k0 k1 k2 m0 m1 m2 q0 q1 wn)
 have a1:=Za w1 (.cells #[.slice A1 L.length c1,.int .i64 p1,.int .i64 p2] 27)
 have O:=FracBox.start w1 (.slice A1 L.length c1) (.int .i64 p1) (.int .i64 p2) 27
 have HH:=Lib.hid (HH.out.keep a1)
 have HV:=Lib.hid (HV.out.below a1)
 have o0:=O.k0;have o1:=O.k1;have o2:=O.k2
 have k0:=HH.out.F.k0;have k1:=HH.out.F.k1;have k2:=HH.out.F.k2
 clear a1 O
 generalize w1.alloc (.cells #[.slice A1 L.length c1,.int .i64 p1,.int .i64 p2] 27)=w3 at *
 by_cases g:er=0
 ·have g':(er != 0)=false:=by simpa using g
  have T0:=TD.out _ HH.out.below _ HV.out
  have hZ:=HZ.out
  rw [if_pos g] at hZ
  subst hZ
  clear g HZ
  have TT:=Lib.hid T0
  clear T0
  go_wp2_with (go_at_call 17;(with_reducible refine TT.out.mono ?_);rintro e6 w6 ⟨v6,rfl,hv6,hb,fr6⟩;obtain ⟨A6,c6,rfl⟩:=Zd hv6;have HV6:=Lib.hid (And.intro hv6 (fr6.mono HH.out.E.lt:Zs (w.heap.size+1+1+1+1) _));have HH:=Lib.hid (HH.out.keep hb);clear hv6 fr6 hb k0 k1 k2 o0 o1 o2;obtain ⟨e0,e1,e2,g0,g1,g2,_⟩:=HH.out.E)
  obtain ⟨c0,c1,c2⟩:=Zaj (x:=.slice A6 M.length c6) (y:=.int .i64 u1) (z:=.int .i64 u2) e0 e1 e2
  obtain ⟨r1,r2,r3⟩:=Zcg (w:=w) (b:=w.heap.size+1+1+1) (kn:=u1) (kd:=u2) HV6.out.1 HH.out.below HV6.out.2 (by omega) rfl
  exact bodyPost_ret (v:=.tuple #[.agg #[.slice A6 M.length c6,.int .i64 u1,.int .i64 u2],.int .i64 eu]) (by simp [results,Tryz.results104,go_sem,c0,c1,c2]) rfl ⟨_,rfl,r1,r2,r3⟩
 ·have hZ:=HZ.out
  rw [if_neg g] at hZ
  subst hZ
  clear HZ
  have g':(er != 0)=true:=by simpa using g
  obtain ⟨e0,e1,e2,g0,g1,g2,_⟩:=HH.out.E
  clear g k0 k1 k2 o0 o1 o2
  go_wp2_with fail
  obtain ⟨c0,c1,c2⟩:=Zaj (x:=.slice none 0 0) (y:=.int .i64 0) (z:=.int .i64 0) e0 e1 e2
  obtain ⟨r1,r2,r3⟩:=Zcg (w:=w) (b:=w.heap.size+1+1+1) (kn:=0) (kd:=0) (Zb.nil w3) HH.out.below (Zs.none_ _ _ _) (by omega) rfl
  exact bodyPost_ret (v:=.tuple #[.agg #[.slice none 0 0,.int .i64 0,.int .i64 0],.int .i64 er]) (by simp [results,Tryz.results104,go_sem,c0,c1,c2]) rfl ⟨_,rfl,r1,r2,r3⟩
end
section
open Go.RowKit
def ZeR (x:Int) (t:Trm) (k:Int):Bool:=decide (k<0)&&Zbb x t
def Zez (x:Int) (ts:List Trm) (tk:List Int) (z:Int):Prop:=
 (z=-1/\∀ (i:Nat) (t:Trm) (k:Int),ts[i]? = some t->tk[i]? = some k->ZeR x t k=false) ∨
 ∃ i:Nat,z=i/\(∃ t k,ts[i]? = some t/\tk[i]? = some k/\ZeR x t k=true)/\∀ (j:Nat) (t:Trm) (k:Int),j<i->ts[j]? = some t->tk[j]? = some k->ZeR x t k=false
def Zkv (w:World) (x:Int) (ts:List Trm) (tk:List Int) (e:Ending) (w':World):Prop:=∃ z:Int,e=.returned (.int .i64 z)/\Zez x ts tk z/\Below w.heap.size w w'
theorem Znq (w:World) (v vt:Value) (ts:List Trm) (tk:List Int) (x:Int) (h:Zal w v ts) (ht:ZaT w vt tk) (hl:tk.length=ts.length) :
  Calls Tryz.prog 102 #[v,vt,.int .i64 x] w (Zkv w x ts tk):=by
 obtain ⟨A,c,rs,rfl,h2,h3,h4,h5,h6⟩:=h
 obtain ⟨B,d,rfl,g2,g3,g4⟩:=ht
 rw [hl] at g4 ⊢
 obtain ⟨n,hn⟩:∃ n,n=ts.length:=⟨_,rfl⟩
 have hrn:rs.length=n:=by rw [hn,<- h4,List.length_map]
 have hmx:n<=9223372036854775807:=by unfold maxLen at h3;omega
 rw [<- hn] at h2 h5 g4 hl ⊢
 have HN:=Lib.hid (And.intro hrn (And.intro h4 (And.intro hmx (And.intro h6 (And.intro hn hl)))))
 have H5:=Lib.hid (And.intro h5 g4)
 clear hn hrn h2 h3 h4 h5 h6 hmx g2 g3 g4 hl
 go_enter Tryz.func102,Tryz.ntmps102
 go_wp2_with fail
 go_loopg [7] n (fun g v7 wr=>∃ k:Nat,v7=.int .i64 k/\k<=n/\g=n-k/\(∀ (j:Nat) (t:Trm) (y:Int),j<k->ts[j]? = some t->tk[j]? = some y->ZeR x t y=false)/\Below w.heap.size w wr)
 case atStart=>exact ⟨0,rfl,Nat.zero_le _,rfl,fun j _ _ hj=>absurd hj (Nat.not_lt_zero _),Below.refl _ _⟩
 case round=>
  obtain ⟨k,rfl,hk,hg,hall,hb⟩:=hrel
  by_cases hkn:k=n
  ·have FIN:=Lib.hid (show Zkv w x ts tk (.returned (.int .i64 (-1))) wr from ⟨-1,rfl,.inl ⟨rfl,fun i t y hi hy=>hall i t y (by have:=Za4 hi;have:=HN.out.2.2.2.2.1;omega) hi hy⟩,hb⟩)
   subst hkn
   clear hk hg hall hb
   go_wp2_with fail
   go_ret
   exact FIN.out
  ·have hlt:k<n:=by omega
   obtain ⟨u,hu⟩:∃ u,rs[k]? = some u:=⟨_,List.getElem?_eq_getElem (by have:=HN.out.1;omega)⟩
   obtain ⟨y,hy⟩:∃ y,tk[k]? = some y:=⟨_,List.getElem?_eq_getElem (by have:=HN.out.2.2.2.2.2;omega)⟩
   obtain ⟨ad,rfl,d0,d1,d2⟩:=ZaZ H5.out.1 hb hu (by omega)
   obtain ⟨bd,rfl,e1⟩:=ZbL H5.out.2 hb hy (by omega)
   have hr:=(HN.out.2.2.2.1 u (List.mem_of_getElem? hu)).below hb
   have hut:ts[k]? = some u.2:=by rw [<- HN.out.2.1,List.getElem?_map,hu];rfl
   have at_:=ZaX wr u.1 u.2.1 u.2.2.1 u.2.2.2 x hr
   have nxt:ZeR x u.2 y=false->∀ (j:Nat) (t:Trm) (z:Int),j<k+1->ts[j]? = some t->tk[j]? = some z->ZeR x t z=false:=fun q j t z hj h1 h2=>by
    rcases Nat.lt_or_ge j k with g | g
    ·exact hall j t z g h1 h2
    ·obtain rfl:j=k:=by omega
     rw [hut] at h1
     rw [hy] at h2
     obtain rfl:=Option.some.inj h1
     obtain rfl:=Option.some.inj h2
     exact q
   have hit:ZeR x u.2 y=true->Zez x ts tk k:=fun q=>.inr ⟨k,rfl,⟨_,_,hut,hy,q⟩,hall⟩
   have sel:ZeR x u.2 y=(decide (y<0)&&((atL u.2.1 x).1 != 0)):=rfl
   have i1:(k:Int)<(n:Int):=by omega
   have i2:(0:Int)<=(k:Int):=by omega
   have wk:IntKind.i64.wrap ((k:Int)+1)=(k:Int)+1:=IntWalk.i64_in _ (by have:=HN.out.2.2.1;omega)
   generalize atL u.2.1 x=r at *
   obtain ⟨r1,r2⟩:=r
   have hfd:∀ w:World,(Instr.field 25 (.agg #[.int .i64 r1,.int .i64 r2]) 0).run Tryz.prog w=.ok (.int .i64 r1) w:=fun _=>by kernel_rfl
   obtain ⟨u0,ul,u1,u2⟩:=u
   dsimp only at *
   rw [sel] at nxt hit
   have HB:=Lib.hid hb
   have HK:=Lib.hid (And.intro hlt hg)
   have AT:=Lib.hid at_
   have NX:=Lib.hid (And.intro nxt hit)
   clear hr hut nxt hit hu hy hkn hlt hk hg hall hb at_ sel
   by_cases hy0:y<0
   rotate_left
   ·have f1:decide (y<0)=false:=decide_eq_false hy0
    go_wp2_with fail
    go_roundg (n-(k+1))
    case measure=>have:=HK.out;omega
    case rel=>exact ⟨k+1,by push_cast;rfl,by have:=HK.out;omega,rfl,NX.out.1 (by rw [decide_eq_false (by omega)];rfl),HB.out⟩
   ·have f1:decide (y<0)=true:=decide_eq_true hy0
    cases hR:(r1 != 0)
    ·go_wp2_with (go_at_call 41;(with_reducible refine AT.out.mono ?_);rintro e w1 ⟨rfl,hb1⟩)
     go_roundg (n-(k+1))
     case measure=>have:=HK.out;omega
     case rel=>exact ⟨k+1,by push_cast;rfl,by have:=HK.out;omega,rfl,NX.out.1 (by rw [hR,Bool.and_false]),HB.out.trans (hb1.mono HB.out.size)⟩
    ·go_wp2_with (go_at_call 41;(with_reducible refine AT.out.mono ?_);rintro e w1 ⟨rfl,hb1⟩)
     go_ret
     exact ⟨k,rfl,NX.out.2 (by rw [decide_eq_true (by omega),hR];rfl),HB.out.trans (hb1.mono HB.out.size)⟩
end
end Go.Proofs.YtolookeddknmoaaGreat
