import Derived.Deep.DeepFit
import Derived.Test.YtbfnnolakggbfaaGreatDoorQAY
import Derived.Test.YtbfnnolakggbfaaGreatDoorQBC
import Derived.Test.YtbfnnolakggbfaaGreatDoorQBI
set_option maxRecDepth 100000
set_option maxHeartbeats 8000000
open Option renaming some → Ya, none → Yb
open Go.Value renaming slice → Yc, int → Yd
open Go.IntKind renaming i64 → Yf
open Go.Obj renaming cells → Yg
open Go renaming World → Yh, Value → Yi
namespace Go.Proofs.YtbfnnolakggbfaaGreatDoor
section
open Go.RowKit
def ZcK (l:List Rw):List (Int×Int)×Int:=
 match Zeh l with
 |.inl z=>([],z)
 |.inr f=>match Zbe ((f.2.1.map Zcd).reverse++ZaI (f.2.2.1.zip f.2.2.2)) m0 with
  |none=>([],2)
  |some m=>(m,0)
def ZbK (w:Yh) (r:List (Int×Int)×Int) (e:Ending) (w':Yh):Prop:=
 ∃A c,e=.returned (.tuple #[Yc A r.1.length c,Yd Yf r.2])/\Za w' (Yc A r.1.length c) r.1/\ZC r.1/\Below w.heap.size w w'
theorem Za7 {w w':Yh} {z:Int} (a:Below w.heap.size w w'):ZbK w ([],z) (.returned (.tuple #[Yc Yb 0 0,Yd Yf z])) w':=
 ⟨Yb,0,rfl,Za.nil _,fun x b=>(by cases b),a⟩
def ZpP (c:Zby):Prop:=(∃n:Nat,c.1=n/\n<8)/\(∀r∈c.2.1,TrmOk r.2)/\∀r∈c.2.2,TrmOk r.2
theorem Zio:∀(e:List Int) (a:List Rw) (d:List Zby) (b:List Rw×List Zby),Good a->(∀v∈e,∃n:Nat,v=n/\n<8)->ZaG e a d=Ya b->(∀c∈d,ZpP c)->∀c∈b.2,ZpP c
 |[],a,d,b,_,_,h,hc=>by
  obtain rfl:=Option.some.inj h;exact hc
 |v::e,a,d,b,hg,hv,h,hc=>by
  rw[ZaG,Option.bind_eq_some_iff]at h;obtain⟨s,k,h⟩:=h;rw[Option.bind_eq_some_iff]at h;obtain⟨r,o,h⟩:=h;obtain⟨n,l,j⟩:=hv v (by simp);have i:=Zdx v a ([],[],[]) s (fun r m=>(hg r m).1) k;subst l;refine Zio e r _ b (Zg5 j hg k o).1 (fun u hu=>hv u (by simp[hu])) h fun c f=>?_;rcases List.mem_append.1 f with q|q
  ·exact hc c q
  ·rw[List.mem_singleton]at q;subst q;refine⟨⟨n,rfl,j⟩,fun t g=>?_,fun t g=>?_⟩
   ·rcases i.lo t g with q|⟨r,_,q,_⟩
    ·cases q
    ·exact q.2.1
   ·rcases i.up t g with q|⟨r,_,q,_⟩
    ·cases q
    ·exact q.2.1
theorem Zq7 {d:List Zby} {a:List Trm} {p:List Int} (hc:∀c∈d,ZpP c) (S:Solved a p):(∀c∈(d.map Zcd).reverse++ZaI (a.zip p),Zex c.2)/\∀c∈(d.map Zcd).reverse++ZaI (a.zip p),∃n:Nat,c.1=n/\n<8:=by
 have b:∀c∈(d.map Zcd).reverse++ZaI (a.zip p),Zex c.2/\∃n:Nat,c.1=n/\n<8:=fun c h=>by
  rcases List.mem_append.1 h with q|q
  ·rw[List.mem_reverse]at q;obtain⟨x,e,rfl⟩:=List.mem_map.1 q;exact⟨(hc x e).2,(hc x e).1⟩
  ·unfold ZaI at q;obtain⟨x,e,rfl⟩:=List.mem_map.1 q;obtain⟨j,f,g⟩:=ZhS e;have:=S.po.rng j _ g;exact⟨S.ok _ (List.mem_of_getElem? f),x.2.toNat,by show x.2=_;omega,by omega⟩
 exact⟨fun c h=>(b c h).1,fun c h=>(b c h).2⟩
theorem Zmx {l:List Rw} (e:∀r∈l,Zac r) (g:l.length<=400) (f:l.any ZU=false):Good (Zbp l)/\(∀t∈ZR l,Zz t.1/\Bd t.2)/\(Zbp l).length<=400/\(ZR l).length<=400:=by
 have d:∀r∈l,TrmOk r.2/\(r.1=0\/r.1=1\/r.1=2):=fun r d=>Zfm ⟨(e r d).1,(e r d).2.1⟩ (by
  have:=List.any_eq_false.1 f r d
  simpa using this)
 refine⟨fun r h=>?_,fun t i=>?_,?_,?_⟩
 ·obtain⟨a,b⟩:=Zng.1 h;obtain⟨k1,k2⟩:=d r a;exact⟨k1,by rcases k2 with c|c|c;(· exact absurd c b);(· exact .inl c);(· exact .inr c)⟩
 ·obtain⟨r,a,_,rfl⟩:=Zjy.1 i;exact⟨(e r a).1,(e r a).2.1⟩
 ·exact Nat.le_trans (List.length_filter_le _ _) g
 ·unfold ZR;rw[List.length_map];exact Nat.le_trans (List.length_filter_le _ _) g
theorem Zib {E a:List Trm} {p:List Int} (c:∀t∈E,Zz t.1/\Bd t.2) (h:Zy E=((a,p),0)):Solved a p/\a.length=p.length/\a.length<=8:=by have S:=Zko c h;obtain⟨b,l,e,_⟩:=Zgx c h;have d:=Zc5 b 8 _ e;exact⟨S,S.po.len,by have:=d.k;have:=d.ql;dsimp only at *;omega⟩
theorem Zip (p:List Int):(∀v∈ZaB p 8,∃n:Nat,v=n/\n<8)/\(ZaB p 8).length<=8:=
 ⟨fun v c=>by obtain⟨⟨n,a,b⟩,_⟩:=(ZeV p 8 v).1 c;exact⟨n,a,b⟩,Zff p 8⟩
theorem ZpA {a:List Trm} {p:List Int} (S:Solved a p) {O b:List Rw} (g:Good O) (h:Zbk (a.zip p) O=Ya b):Good b:=
 (ZjJ (a.zip p) (fun s d=>by obtain⟨j,c,_⟩:=ZhS d;exact S.ok _ (List.mem_of_getElem? c)) O b g h).1
theorem Znz (w:Yh) (v:Yi) (l:List Rw) (h:ZA w v l) (g:∀r∈l,Zac r) (f:¬(l.length<=400/\l.any ZU=false)) :
  Calls Tryz.prog 48 #[v] w (ZbK w ([],2)):=by
 have a:=ZfO w v l g h;obtain⟨A,c,o,rfl,i,j,_⟩:=id h;by_cases d:l.length<=400
 ·have hq:l.any ZU=true:=by
   cases e:l.any ZU
   ·exact absurd ⟨d,e⟩ f
   ·rfl
  rw[hq]at a;have k:=zh a;have i1:¬(400:Int)<(l.length:Int):=by omega
  have i2:¬400<l.length:=by omega
  clear f h g i j hq a d;generalize l.length=n at *;go_enter Tryz.func48,Tryz.ntmps48;go_wp2_with (go_at_call 68;go_fit k.out;rintro m p ⟨rfl,b⟩);go_ret2;exact Za7 b
 ·have i1:(400:Int)<(l.length:Int):=by omega
  have i2:400<l.length:=by omega
  clear f h g i j d a;generalize l.length=n at *;go_enter Tryz.func48,Tryz.ntmps48;go_wp2_with fail;go_ret2;exact Za7 (Below.refl _ _)
theorem ZoF (w:Yh) (v:Yi) (l:List Rw) (h:ZA w v l) (hw:∀r∈l,Zac r) (hr:l.length<=400/\l.any ZU=false) :
  Calls Tryz.prog 48 #[v] w (ZbK w (ZcK l)):=by
 obtain⟨iC,ct,c5,c6,c7⟩:=info_parts Zlp;obtain⟨gO,wE,lO,lE⟩:=Zmx hw hr.1 hr.2;have cw:=ZfO w v l hw h;rw[hr.2]at cw;have CW:=zh cw;have PA:=zh (fun(o:Yh) (hb:Below w.heap.size w o)=>ZnS o v l (h.below hb) (by omega));have GS:=zh (fun(o:Yh) (v':Yi) (h':Zai o v' (ZR l))=>ZnE o v' (ZR l) h' wE)
 have hf:Zeh l=if(Zy (ZR l)).2≠0 then .inl (Zy (ZR l)).2
   else match Zbk ((Zy (ZR l)).1.1.zip (Zy (ZR l)).1.2) (Zbp l)with
   |none=>.inl 2
   |some y=>match ZaG (ZaB (Zy (ZR l)).1.2 8) y []with
    |none=>.inl 2
    |some s=>if s.1.any (fun r=>!ZeX r.1 r.2.2.1)=true then .inl 1 else .inr (s.1,s.2,(Zy (ZR l)).1.1,(Zy (ZR l)).1.2):=by
  unfold Zeh;rw[Yn (by rintro(q|q);(· omega);(· rw[hr.2]at q;cases q))];rfl
 have i1:¬(400:Int)<(l.length:Int):=by omega
 have i2:¬400<l.length:=by omega
 obtain⟨A,c,rs,rfl,h2,h3,_⟩:=id h;have g:ZcK l=match Zeh l with
  |.inl z=>([],z)
  |.inr f=>match Zbe ((f.2.1.map Zcd).reverse++ZaI (f.2.2.1.zip f.2.2.2)) m0 with
   |none=>([],2)
   |some m=>(m,0):=rfl
 rw[hf]at g;generalize ZcK l=Z at *;clear h hw hr h2 h3 cw hf;generalize l.length=n at *;cases hq:Zy (ZR l)with
 |mk ap a7=>
 obtain⟨a,p⟩:=ap;rw[hq]at g GS;dsimp only at g;by_cases ha:a7=0
 rotate_left
 ·have ne:(a7 != 0)=true:=by simpa using ha
  rw[Yo ha]at g;dsimp only at g;subst g;clear ha hq gO wE lO lE;go_enter Tryz.func48,Tryz.ntmps48
  go_wp2_with (first
    |(go_at_call 68;go_fit CW.out;rintro e1 w1 ⟨rfl,d⟩)
    |(go_at_call 69;go_fit (PA.out _ d);rintro e2 w2 ⟨Ae,ce,Ao,V,rfl,O,U,t⟩;have B:=d.trans (t.mono d.size))
    |(go_at_call 70;go_fit (GS.out _ _ O);rintro e3 w3 ⟨As,cs,Ap,cp,rfl,P,I,i⟩;have F:=B.trans (i.mono B.size)))
  go_ret2;exact Za7 F
 subst ha;rw[Yn (by simp)]at g;obtain⟨S,K,X⟩:=Zib wE hq;have SB:=zh (fun(o:Yh) (H v2 v3:Yi) (R:ZA o H (Zbp l)) (h2:Zai o v2 a) (h3:ZaR o v3 p)=>Zje o H v2 v3 (Zbp l) a p R h2 h3 K (fun r hr=>(gO r hr).1) S.ok (by omega) (by omega));cases hs:Zbk (a.zip p) (Zbp l)with
 |none=>
  rw[hs]at g SB;dsimp only at g;subst g;clear hs hq gO wE lO lE S K X;go_enter Tryz.func48,Tryz.ntmps48
  go_wp2_with (first
    |(go_at_call 68;go_fit CW.out;rintro e1 w1 ⟨rfl,d⟩)
    |(go_at_call 69;go_fit (PA.out _ d);rintro e2 w2 ⟨Ae,ce,Ao,V,rfl,O,U,t⟩;have B:=d.trans (t.mono d.size))
    |(go_at_call 70;go_fit (GS.out _ _ O);rintro e3 w3 ⟨As,cs,Ap,cp,rfl,P,I,i⟩;have F:=B.trans (i.mono B.size))
    |(go_at_call 71;go_fit (SB.out _ _ _ _ (U.below i) P I);rintro e4 w4 (⟨E,vr,q,_⟩|⟨_,z,hz,rfl,j⟩);(next=>cases q);have L:=F.trans (j.mono F.size)))
  go_ret2;exact Za7 L
 |some y=>
  rw[hs]at g SB;dsimp only at g;have gR:=ZpA S gO hs;have lR:=Zgz _ _ _ hs;have EL:=zh (fun(o:Yh) (H v2:Yi) (R:ZA o H y) (h2:ZaR o v2 (ZaB p 8))=>Zjw o H v2 y (ZaB p 8) R h2 gR (Zip p).1 (by omega) (Zip p).2);cases he:ZaG (ZaB p 8) y []with
  |none=>
   rw[he]at g EL;dsimp only at g;subst g;clear hs hq gO wE lO lE S K X he gR lR;go_enter Tryz.func48,Tryz.ntmps48
   go_wp2_with (first
    |(go_at_call 68;go_fit CW.out;rintro e1 w1 ⟨rfl,d⟩)
    |(go_at_call 69;go_fit (PA.out _ d);rintro e2 w2 ⟨Ae,ce,Ao,V,rfl,O,U,t⟩;have B:=d.trans (t.mono d.size))
    |(go_at_call 70;go_fit (GS.out _ _ O);rintro e3 w3 ⟨As,cs,Ap,cp,rfl,P,I,i⟩;have F:=B.trans (i.mono B.size))
    |(go_at_call 71;go_fit (SB.out _ _ _ _ (U.below i) P I);rintro e4 w4 (⟨E,vr,q,rfl,RO,j⟩|⟨q,_⟩);rotate_left;(next=>cases q);injection q with q;subst q;have L:=F.trans (j.mono F.size))
    |(go_at_call 73;go_fit (Ziq _ _ _ (I.below j));rintro e5 w5 ⟨Af,cf,rfl,IF,k⟩;have Q:=L.trans (k.mono L.size))
    |(go_at_call 72;go_fit (EL.out _ _ _ (RO.below k) IF);rintro e6 w6 (⟨x,bg,aa,q,_⟩|⟨_,z,hz,rfl,u⟩);(next=>cases q);have b6:=Q.trans (u.mono Q.size)))
   go_ret2;exact Za7 b6
  |some s=>
   have ak:=Zio _ _ _ _ gR (Zip p).1 he (fun c hc=>by cases hc);have Y:=Zfd _ _ _ _ he;rw[he]at g EL;dsimp only at g;have CU:=zh (fun(o:Yh) (H:Yi) (R:ZA o H s.1)=>Zjq o H s.1 R);have am:(fun r:Rw=>!ZeX r.1 r.2.2.1)=Zcn:=rfl;rw[am]at g;cases hu:s.1.any Zcn with
   |true=>
    rw[hu]at g CU;rw[Yo rfl]at g;dsimp only at g;subst g;clear hs hq gO wE lO lE S K X he gR lR ak Y am hu;go_enter Tryz.func48,Tryz.ntmps48
    go_wp2_with (first
    |(go_at_call 68;go_fit CW.out;rintro e1 w1 ⟨rfl,d⟩)
    |(go_at_call 69;go_fit (PA.out _ d);rintro e2 w2 ⟨Ae,ce,Ao,V,rfl,O,U,t⟩;have B:=d.trans (t.mono d.size))
    |(go_at_call 70;go_fit (GS.out _ _ O);rintro e3 w3 ⟨As,cs,Ap,cp,rfl,P,I,i⟩;have F:=B.trans (i.mono B.size))
    |(go_at_call 71;go_fit (SB.out _ _ _ _ (U.below i) P I);rintro e4 w4 (⟨E,vr,q,rfl,RO,j⟩|⟨q,_⟩);rotate_left;(next=>cases q);injection q with q;subst q;have L:=F.trans (j.mono F.size))
    |(go_at_call 73;go_fit (Ziq _ _ _ (I.below j));rintro e5 w5 ⟨Af,cf,rfl,IF,k⟩;have Q:=L.trans (k.mono L.size))
    |(go_at_call 72;go_fit (EL.out _ _ _ (RO.below k) IF);rintro e6 w6 (⟨x,bg,aa,q,rfl,RE,CE,u⟩|⟨q,_⟩);rotate_left;(next=>cases q);injection q with q;subst q;have b6:=Q.trans (u.mono Q.size))
    |(go_at_call 68;go_fit (CU.out _ _ RE);rintro e7 w7 ⟨rfl,C⟩;have b7:=b6.trans (C.mono b6.size)))
    go_ret2;exact Za7 b7
   |false=>
    rw[hu]at g CU;rw[Yn (by simp)]at g;dsimp only at g;obtain⟨f1,f2⟩:=Zq7 ak S;have lz:(a.zip p).length<=8:=by rw[List.length_zip];omega
    have fl:=Zff p 8;have bf:((s.2.map Zcd).reverse++ZaI (a.zip p)).length<=16:=by unfold ZaI;rw[Yj,List.length_reverse,List.length_map,List.length_map];rw[Y];simp only[Yl];omega
    have an:(s.2.map Zcd).reverse.length<=8:=by rw[List.length_reverse,List.length_map,Y];simp only[Yl];omega
    have ao:(ZaI (a.zip p)).length<=8:=by unfold ZaI;rw[List.length_map];exact lz
    obtain⟨C1,M⟩:∃C1,C1=(s.2.map Zcd).reverse:=⟨_,rfl⟩
    obtain⟨C2,J⟩:∃C2,C2=ZaI (a.zip p):=⟨_,rfl⟩
    have ag:=zh (fun(w0 o:Yh) (hb:Below w0.heap.size w0 o) (H v2:Yi) (R:Zai w0 H a) (h2:ZaR o v2 p)=>ZkP w0 o hb H v2 a p R h2 K (by omega));have WI:=zh (fun(o:Yh) (H:Yi) (S0:Nat->Prop) (R:Znt o H ((s.2.map Zcd).reverse++ZaI (a.zip p)) S0)=>ZmU o H _ S0 R f1 f2 (by omega));rw[<-M,<-J]at g;rw[M.symm,J.symm]at WI;rw[<-M]at an;rw[<-J]at ao;have cj:=zh M;have d0:=zh J;have LL:=zh (zi an ao);have HS:=zh g;clear g;rw[<-J]at ag;clear hs hq gO wE lO lE S K X he gR lR ak Y am hu f1 f2 lz fl bf an ao M J;go_enter Tryz.func48,Tryz.ntmps48
    go_upto_region 15 with(first
    |(go_at_call 68;go_fit CW.out;rintro e1 w1 ⟨rfl,d⟩)
    |(go_at_call 69;go_fit (PA.out _ d);rintro e2 w2 ⟨Ae,ce,Ao,V,rfl,O,U,t⟩;have B:=d.trans (t.mono d.size))
    |(go_at_call 70;go_fit (GS.out _ _ O);rintro e3 w3 ⟨As,cs,Ap,cp,rfl,P,I,i⟩;have F:=B.trans (i.mono B.size))
    |(go_at_call 71;go_fit (SB.out _ _ _ _ (U.below i) P I);rintro e4 w4 (⟨E,vr,q,rfl,RO,j⟩|⟨q,_⟩);rotate_left;(next=>cases q);injection q with q;subst q;have L:=F.trans (j.mono F.size))
    |(go_at_call 73;go_fit (Ziq _ _ _ (I.below j));rintro e5 w5 ⟨Af,cf,rfl,IF,k⟩;have Q:=L.trans (k.mono L.size))
    |(go_at_call 72;go_fit (EL.out _ _ _ (RO.below k) IF);rintro e6 w6 (⟨x,bg,aa,q,rfl,RE,CE,u⟩|⟨q,_⟩);rotate_left;(next=>cases q);injection q with q;subst q;have b6:=Q.trans (u.mono Q.size))
    |(go_at_call 68;go_fit (CU.out _ _ RE);rintro e7 w7 ⟨rfl,C⟩;have b7:=b6.trans (C.mono b6.size)))
    have ah:=j.trans ((k.trans (u.mono k.size)).mono j.size);have ai:=ah.trans (C.mono ah.size);have T:=CE.below C;rw[<-cj.out]at T
    have bc:∀b,aa.ownBlock=Ya b->w3.heap.size<=b/\b<w7.heap.size:=fun b q=>by
     have R:=(CE.lt b q).1;have h2:=(T.lt b q).2;have h3:=j.size;have h4:=k.size;omega
    have D7:=zh (zi T (zi b7 (zi bc (show w5.heap.size<=w7.heap.size from Nat.le_trans u.size C.size))));have SO:=zh (ag.out w3 w7 ai _ _ P (I.below ai));have WB:=zh (show w.heap.size<=w5.heap.size from Q.size);clear d t i j k u C B F L Q b6 b7 ah ai O U P I RO IF RE CE T bc ag
    go_wp2_with (first
     |(go_at_call 77;go_fit SO.out;rintro e8 w8 ⟨dw,rfl,OS,W⟩;obtain⟨A8,c8,ns,rfl,n2,n3,n1,n4,n5⟩:=OS.chs;obtain⟨cx,z1,z2,z3⟩:=D7.out.1.below W;have NS:=zh (zi n1 (zi n4 (fun x hx=>(n5 x hx).mono (S':=fun b=>aa.ownBlock=Ya b) (fun b q=>.inl (.inr (D7.out.2.2.1 b q))))));have QW:=zh (zi z1 (zi z2 (zi z3 (zi (D7.out.2.1.trans (W.mono D7.out.2.1.size)) (Nat.le_trans D7.out.2.2.2 W.size)))));clear OS n1 n2 n3 n4 n5 z1 z2 z3 W)
     |(at_builtin;refine Zj _ rfl _ _ 110 rfl w5.heap.size 163 iC (.agg #[Yd Yf 0,Value.nilFunc]) 2 16 Tryz.underlying110 ct c5 c6 c7 rfl (by decide) _ C1.length (Zat cx) rfl QW.out.2.1 w8.heap.size A8 C2.length c8 (Zat ns) rfl NS.out.2.1 (ZaZ.one NS.out.2.2) (by have:=LL.out;unfold maxLen;omega) (by have:=LL.out;omega) QW.out.2.2.2.2 ?_))
    intro v9 w9 ae D ba
    have D9:=ZaZ.appended (S':=fun b=>v9.ownBlock=Ya b) QW.out.1 QW.out.2.2.1 NS.out.1 NS.out.2.2 rfl ae D (fun b q=>q) (fun b q=>by
     rcases ba with e|e
     ·rw[e]at q;exact .inl q
     ·rw[e]at q;injection q with q;exact .inr (by omega))
    have b9:=QW.out.2.2.2.1.grown D QW.out.2.2.2.1.size (fun b q=>Nat.le_trans WB.out (World.ownsRow.lt QW.out.2.1 b q).1);have WC:=zh (WI.out w9 v9 _ D9.chs);have B9:=zh b9;clear ae D ba D9 b9;cases hm:Zbe (C1++C2) m0 with
    |none=>
     have g:=HS.out;rw[hm]at g WC;dsimp only at g;subst g;clear hm;go_wp2_with (go_at_call 76;go_fit WC.out;rintro cn bh (⟨m,cy,q,_⟩|⟨_,z,hz,rfl,G⟩);(next=>cases q));go_ret2;exact Za7 (B9.out.trans (G.mono B9.out.size))
    |some m=>
     have g:=HS.out;rw[hm]at g WC;dsimp only at g;subst g;clear hm;go_wp2_with (go_at_call 76;go_fit WC.out;rintro cn bh (⟨m2,cy,q,rfl,N,bb,ad,G⟩|⟨q,_⟩);rotate_left;(next=>cases q);injection q with q;subst q;obtain⟨Am,cm,rfl⟩:=Zc N;have ci:=zh (show ZbK w (m,0) (.returned (.tuple #[Yc Am m.length cm,Yd Yf 0])) bh from⟨Am,cm,rfl,N,ad,B9.out.trans (G.mono B9.out.size)⟩);clear N bb ad G);go_ret2;exact ci.out
theorem Zny (w:Yh) (v:Yi) (l:List Rw) (h:ZA w v l) (c:∀r∈l,Zac r):Calls Tryz.prog 48 #[v] w (ZbK w (ZcK l)):=by
 by_cases b:l.length<=400/\l.any ZU=false
 ·exact ZoF w v l h c b
 ·have e:ZcK l=([],2):=by
   unfold ZcK Zeh;rw[Yo];cases q:l.any ZU
   ·exact .inl (by have:¬l.length<=400:=fun a=>b ⟨a,q⟩;omega)
   ·exact .inr rfl
  rw[e];exact Znz w v l h c b
end
section
open Go.RowKit
theorem Ze3:∀(l:List (Yi×Rw)) (_:∀x∈l,∃A n c,x.1=Yc A n c),∀u∈Zr l,u.oneCell'=true
 |[],_,u,h=>by cases h
 |x::r,hx,u,h=>by
  rw[Zr,List.mem_cons,List.mem_cons,List.mem_cons,List.mem_cons]at h;rcases h with rfl|rfl|rfl|rfl|h
  ·rfl
  ·obtain⟨A,n,c,e⟩:=hx x (by simp);rw[e];rfl
  ·rfl
  ·rfl
  ·exact Ze3 r (fun y a=>hx y (by simp[a])) u h
theorem ZqC (w:Yh) (a:Addr) (n c:Nat):(binOp .eql 43 (Yc (Ya a) n c) (Yc Yb 0 0)).run Tryz.prog w=.ok (.bool false) w:=by kernel_rfl
theorem Zpq (w:Yh) (n c:Nat):(binOp .eql 43 (Yc Yb n c) (Yc Yb 0 0)).run Tryz.prog w=.ok (.bool true) w:=by kernel_rfl
theorem Zgr (w:Yh):(w.alloc (Yg #[] 39)).ownsRow w.heap.size 39 4 (Yc (Ya ⟨w.heap.size,0,Yb⟩) 0 0) 0 []:=
 ⟨rfl,.inr ⟨w.heap.size,0,#[],rfl,Nat.le_refl _,heap_alloc_new w _,Nat.le_refl _,by decide,rfl,rfl⟩⟩
def Zq3 (w:Yh) (ts:List Rw) (e:Ending) (w':Yh):Prop:=∃A c,e=.returned (Yc A ts.length c)/\Zal w' w.heap.size (Yc A ts.length c) ts (fun b=>w.heap.size<=b)/\Below w.heap.size w w'
theorem ZnX (w:Yh) (v:Yi) (ts:List Rw) (h:ZA w v ts) (n:ts.length<=1000) :
  Calls Tryz.prog 49 #[v] w (Zq3 w ts):=by
 obtain⟨i0,N,F,G,H⟩:=info_parts ZcP;obtain⟨A,c,t,rfl,L,M,B,p,r⟩:=h;rcases A with _|J
 ·have P:ts=[]:=by
   rcases Nat.eq_zero_or_pos ts.length with z|z
   ·exact List.eq_nil_of_length_eq_zero z
   ·obtain⟨_,e,_⟩:=p.2 z;cases e
  subst P;have hq:=Zpq w 0 c;clear L M B p r n;go_enter Tryz.func49,Tryz.ntmps49;go_wp2_with fail;go_ret;exact⟨_,_,rfl,Zal.nil w _ _,Below.refl _ _⟩
 ·have hq:=ZqC w J ts.length c
  have o:∀u∈Zr t,u.oneCell'=true:=Ze3 t fun x s=>by
   obtain⟨g,j,e⟩:=Zc (r x s);exact⟨_,_,_,e⟩
  have i:=zh (zi o (zi B (zi r n)));clear o B r n;go_enter Tryz.func49,Tryz.ntmps49;go_wp2_with (at_builtin;refine Zj _ rfl _ _ 43 rfl w.heap.size 39 i0 (.agg #[Yd Yf 0,Yc Yb 0 0,Yd Yf 0,Yd Yf 0]) 4 48 Tryz.underlying43 N F G H rfl (by decide) _ 0 [] rfl (Zgr w) w.heap.size (Ya J) _ c _ rfl (p.alloc (Nat.le_refl _) _) ?c2 ?c3 ?c4 ?c5 ?_)
  case c2=>exact i.out.1
  case c3=>have:=i.out.2.2.2;unfold maxLen;omega
  case c4=>have:=i.out.2.2.2;omega
  case c5=>simp
  intro I y d a _;have f:y.ownsRow w.heap.size 39 4 I ts.length (Zr t):=by simpa using d
  have D:Below w.heap.size w y:=by
   refine(below_alloc1 w _).grown a (by simp) (fun k O=>?_);have e:w.heap.size=k:=by simpa[Value.ownBlock]using O
   omega
  have C:Zal y w.heap.size I ts (fun b=>w.heap.size<=b):=by refine⟨t,i.out.2.1,f,fun x s=>⟨(i.out.2.2.1 x s).below D,fun n b E q=>?_⟩⟩;have:=(i.out.2.2.1 x s).lt n b E;omega
  obtain⟨g,j,K,m⟩:∃g j,I=.slice g ts.length j/\Zal y w.heap.size (.slice g ts.length j) ts (fun b=>w.heap.size<=b):=by obtain⟨g,j,_,e,_⟩:=C.rows;exact⟨g,j,e,e▸C⟩
  subst K;have l:=zh (zi m D);clear d f a D p hq C m;go_wp2_with fail;go_ret;exact⟨_,_,rfl,l.out.1,l.out.2⟩
section
variable {wq wo:Yh} {A:Prop} {ty:TypeId} {x:Array Yi}
theorem ZfT (_:A/\Below wq.heap.size wq (wo.alloc (.cells x ty))):Zbf (wo.alloc (.cells x ty)) 0 wo.heap.size x.toList:=Zas (Nat.zero_le _)
theorem ZeY (_:A/\Below wq.heap.size wq (wo.alloc (.cells x ty)).drew):Zbf (wo.alloc (.cells x ty)).drew 0 wo.heap.size x.toList:=(Zas (wo:=wo) (ty:=ty) (Nat.zero_le _)).keep (Zn _)
theorem Znh {o:Obj} {base:Nat} {v:Yi} {ts:List Rw} {S:Nat->Prop} (_:A/\Below wq.heap.size wq (wo.alloc o)) (h:Zal wo base v ts S):Zal (wo.alloc o) base v ts S:=h.below (below_alloc1 _ _)
end
theorem Zdj {w0 w w':Yh} {base:Nat} {v e vt:Yi} {ts:List Rw} {t:Rw} {rs:List (Yi×Rw)} {S:Nat->Prop} (h:∀b,S b->w0.heap.size<=b) (f:rs.map (·.2)=ts) (l:∀b,v.ownBlock=Ya b->S b) (g:∀x∈rs,Za w x.1 x.2.2.1/\Off S x.1 x.2.2.1)
  (a:w'.ownsRow base 39 4 e (ts.length+1) (Zr rs++[Yd Yf t.1,vt,Yd Yf t.2.2.1,Yd Yf t.2.2.2])) (j:w.grownBy w' v.ownBlock) (d:Za w0 vt t.2.1) (i:Below w0.heap.size w0 w):ZA w' e (ts++[t]):=
 (Zal.appended (S:=S) (S':=fun _=>False) f g a j l (d.below i) (fun k b c q=>by have:=d.lt k b c;have:=h b q;omega) (fun b q=>q.elim)).rows
def Zfe (z:Int):Int:=if z=0 then 1 else if z=1 then 0 else 2
theorem Zlj (w:Yh) (v vr:Yi) (l:List Rw) (r:Rw) (h:ZA w v l) (hw:∀r∈l,Zac r) (hl:l.length<=1000) (hr:Za w vr r.2.1) (hx:Zac r) :
  Calls Tryz.prog 31 #[v,.agg #[Yd Yf r.1,vr,Yd Yf r.2.2.1,Yd Yf r.2.2.2]] w fun e w'=>e=.returned (Yd Yf (Zfe (ZcK (l++[r])).2))/\Below w.heap.size w w':=by
 obtain⟨iR,X,aa,ab,ac⟩:=info_parts ZcP
 have Y:∀x∈l++[r],Zac x:=fun x ar=>by
  rcases List.mem_append.1 ar with q|q
  ·exact hw x q
  ·rw[List.mem_singleton]at q;subst q;exact hx
 have sv:=fun(w':Yh) (v':Yi) (h':ZA w' v' (l++[r]))=>Zny w' v' (l++[r]) h' Y;obtain⟨G,T,D,F⟩:=r;dsimp only at *;obtain⟨⟨bl,z⟩,hz⟩:∃q,ZcK (l++[(G,T,D,F)])=q:=⟨_,rfl⟩
 rw[hz]at sv⊢;obtain⟨A,c,rs,rfl,_,_,_⟩:=id h;obtain⟨J,L,rfl⟩:=Zc hr;have a:=below_alloc1 w (Yg #[Yd Yf G,Yc J T.length L,Yd Yf D,Yd Yf F] 39);have BB:=Blk.start w #[Yd Yf G,Yc J T.length L,Yd Yf D,Yd Yf F] 39;have cl:=fun(w':Yh) (j:Below w.heap.size w w')=>ZnX w' (Yc A l.length c) l (h.below j) hl;obtain⟨n,hn⟩:∃n,l.length=n:=⟨_,rfl⟩
 obtain⟨M,I⟩:∃M,T.length=M:=⟨_,rfl⟩
 have O:=hr.below a;rw[hn]at cl;rw[I]at a BB O;have HX:=zh (zi I O);have HN:=zh hn;have LK:=zh (show n+1<=maxLen/\(n+1)*48<=140737488355328 from by unfold maxLen;omega);have R:=zh cl;have SV:=zh sv;have Q:=zh (zi a BB);rw[hn,I];clear sv cl h hw Y hx hr hl hz a BB O hn I;go_enter Tryz.func31,Tryz.ntmps31;go_upto_region 1 with fail;generalize C:w.heap.size=B at *;generalize bk:w.alloc (Yg #[Yd Yf G,Yc J M L,Yd Yf D,Yd Yf F] 39)=s at *;have r0:=Q.out.2.cell 0;have r1:=Q.out.2.cell 1;have r2:=Q.out.2.cell 2;have r3:=Q.out.2.cell 3;have R:=zh (fun(w':Yh) (j:Below s.heap.size s w')=>R.out w' (ZF C Q.out.1 j));go_cut [5,6]from 7 to 15 (fun v5 v6 wx=>v6=Yd Yf z/\Below s.heap.size s wx)
 case first=>
  have m:=zh (show ZcQ (fun w'=>(((w'.cell? ⟨B,0,Yb⟩=Ya (Yd Yf G)/\w'.cell? ⟨B,1,Yb⟩=Ya (Yc J M L))/\(w'.cell? ⟨B,2,Yb⟩=Ya (Yd Yf D)/\w'.cell? ⟨B,3,Yb⟩=Ya (Yd Yf F))))/\Below s.heap.size s w')from Zx (Zx (Zx (Zu _ _) (Zu _ _)) (Zx (Zu _ _) (Zu _ _))) (ZbO s));have SF:=zh (fun(w':Yh) (j:Below s.heap.size s w')=>show(fun w'=>(((w'.cell? ⟨B,0,Yb⟩=Ya (Yd Yf G)/\w'.cell? ⟨B,1,Yb⟩=Ya (Yc J M L))/\(w'.cell? ⟨B,2,Yb⟩=Ya (Yd Yf D)/\w'.cell? ⟨B,3,Yb⟩=Ya (Yd Yf F))))/\Below s.heap.size s w') w' from m.out s w' j ⟨⟨⟨r0,r1⟩,⟨r2,r3⟩⟩,Below.refl _ _⟩);have HS:=SF.out s.drew (Zn _);dsimp only at HS;clear r0 r1 r2 r3;refine wp_region_noPanic ?_;refine wp_region_held_drew (S:=(fun w'=>(((w'.cell? ⟨B,0,Yb⟩=Ya (Yd Yf G)/\w'.cell? ⟨B,1,Yb⟩=Ya (Yc J M L))/\(w'.cell? ⟨B,2,Yb⟩=Ya (Yd Yf D)/\w'.cell? ⟨B,3,Yb⟩=Ya (Yd Yf F))))/\Below s.heap.size s w')) (by kernel_rfl) HS (fun d=>?_);clear HS;refine tk 0 rfl ?_;refine tk 2 rfl ?_;(try simp only[cl,Act.put]);refine wpAnyH_ready (rs:=[1,3]) (by kernel_rfl) (by simp) ?_;refine AllReadyH.cons (o:=_) rfl (fun K i=>?_) ?_
  ·go_simp
   (first
    |(go_at_call 49;go_fit (R.out _ (ZG (by with_reducible assumption)));rintro e5 w5 ⟨A5,c5,rfl,k,j⟩;have H:=zh k;have y:=zh (ZG d).size;(try have u:=zh (u.out.keep j));clear k)
    |(go_at_call 48;go_fit (SV.out _ _ RA.out);rintro e6 w6 ⟨A6,c6,rfl,_,_,j⟩))
   go_wp2_with fail;refine i.out _ _ (m.out _ _ j (by with_reducible assumption)) (fun f=>?_);clear i K d j;have d:=f;clear f;(try simp only[cl,Act.put]);refine rd 3 rfl fun K i=>?_;go_simp
   (first|refine i.out _ _ (Zbh m.out (by with_reducible assumption)) (fun f=>?_)|refine i.out _ _ (m.out _ _ (below_alloc1 _ _) (by with_reducible assumption)) (fun f=>?_))
   clear i K;(try dsimp only at f)
   (first|have u:=zh (ZfT f)|have u:=zh (ZeY f))
   (try (have H:=zh (Znh f H.out)));clear d;have d:=f;clear f;(try simp only[cl,Act.put]);refine rd 4 rfl fun K i=>?_;obtain⟨P,Z,z2,z3⟩:=H.out;refine ZQ _ rfl _ _ 43 rfl s.heap.size 39 iR (.agg #[Yd Yf 0,Yc Yb 0 0,Yd Yf 0,Yd Yf 0]) 4 48 Tryz.underlying43 X aa ab ac rfl (by decide) _ n (Zr P) rfl (HN.out▸ZdI z2 y.out) _ (Ya _) 1 1 [Yd Yf G,Yc J M L,Yd Yf D,Yd Yf F] rfl (u.out.reads rfl) (Zb2 _ _ _ _ _ _) (by have:=LK.out;omega) (by have:=LK.out;omega) (ZG d).size (fun az a1 p g N=>?_);have RA:=zh (Zdj (t:=(G,T,D,F)) (fun b (q:_<=b)=>Nat.le_trans y.out q) Z (fun b q=>(World.ownsRow.lt z2 b q).1) z3 (by rw[HN.out];exact p) g HX.out.2 (ZG d));have U:=(ZG d).grown g (ZG d).size (fun b q=>Nat.le_trans y.out (World.ownsRow.lt z2 b q).1);refine i.out _ _ (SF.out _ U) (fun f=>?_);(try dsimp only at f);clear i K d p g N Z z2 z3 u U;have d:=f;clear f;(try simp only[cl,Act.put]);refine rd 5 rfl fun K i=>?_;go_simp
   (first
    |(go_at_call 49;go_fit (R.out _ (ZG (by with_reducible assumption)));rintro e5 w5 ⟨A5,c5,rfl,k,j⟩;have H:=zh k;have y:=zh (ZG d).size;(try have u:=zh (u.out.keep j));clear k)
    |(go_at_call 48;go_fit (SV.out _ _ RA.out);rintro e6 w6 ⟨A6,c6,rfl,_,_,j⟩))
   go_wp2_with fail;refine i.out _ _ (m.out _ _ j (by with_reducible assumption)) (fun f=>?_);clear i K d j;have d:=f;clear f;(try simp only[cl,Act.put]);refine tk 6 rfl ?_;refine tk 7 rfl ?_;refine tk 8 rfl ?_;refine tk 9 rfl ?_;refine tk 10 rfl ?_;(try simp only[cl,Act.put]);refine wpAnyH_done (by kernel_rfl) ?_ _;refine NoPanic.normal ?_;go_wp2_with fail;go_meet
   case rel=>exact⟨rfl,d.2⟩
  refine AllReadyH.cons (o:=_) rfl (fun K i=>?_) AllReadyH.nil;go_simp
  (first|refine i.out _ _ (Zbh m.out (by with_reducible assumption)) (fun f=>?_)|refine i.out _ _ (m.out _ _ (below_alloc1 _ _) (by with_reducible assumption)) (fun f=>?_))
  clear i K;(try dsimp only at f)
  (first|have u:=zh (ZfT f)|have u:=zh (ZeY f))
  (try (have H:=zh (Znh f H.out)));clear d;have d:=f;clear f;(try simp only[cl,Act.put]);refine rd 1 rfl fun K i=>?_;go_simp
  (first
   |(go_at_call 49;go_fit (R.out _ (ZG (by with_reducible assumption)));rintro e5 w5 ⟨A5,c5,rfl,k,j⟩;have H:=zh k;have y:=zh (ZG d).size;(try have u:=zh (u.out.keep j));clear k)
   |(go_at_call 48;go_fit (SV.out _ _ RA.out);rintro e6 w6 ⟨A6,c6,rfl,_,_,j⟩))
  go_wp2_with fail;refine i.out _ _ (m.out _ _ j (by with_reducible assumption)) (fun f=>?_);clear i K d j;have d:=f;clear f;(try simp only[cl,Act.put]);refine rd 4 rfl fun K i=>?_;obtain⟨P,Z,z2,z3⟩:=H.out;refine ZQ _ rfl _ _ 43 rfl s.heap.size 39 iR (.agg #[Yd Yf 0,Yc Yb 0 0,Yd Yf 0,Yd Yf 0]) 4 48 Tryz.underlying43 X aa ab ac rfl (by decide) _ n (Zr P) rfl (HN.out▸ZdI z2 y.out) _ (Ya _) 1 1 [Yd Yf G,Yc J M L,Yd Yf D,Yd Yf F] rfl (u.out.reads rfl) (Zb2 _ _ _ _ _ _) (by have:=LK.out;omega) (by have:=LK.out;omega) (ZG d).size (fun az a1 p g N=>?_);have RA:=zh (Zdj (t:=(G,T,D,F)) (fun b (q:_<=b)=>Nat.le_trans y.out q) Z (fun b q=>(World.ownsRow.lt z2 b q).1) z3 (by rw[HN.out];exact p) g HX.out.2 (ZG d));have U:=(ZG d).grown g (ZG d).size (fun b q=>Nat.le_trans y.out (World.ownsRow.lt z2 b q).1);refine i.out _ _ (SF.out _ U) (fun f=>?_);(try dsimp only at f);clear i K d p g N Z z2 z3 u U;have d:=f;clear f;(try simp only[cl,Act.put]);refine rd 5 rfl fun K i=>?_;go_simp
  (first
   |(go_at_call 49;go_fit (R.out _ (ZG (by with_reducible assumption)));rintro e5 w5 ⟨A5,c5,rfl,k,j⟩;have H:=zh k;have y:=zh (ZG d).size;(try have u:=zh (u.out.keep j));clear k)
   |(go_at_call 48;go_fit (SV.out _ _ RA.out);rintro e6 w6 ⟨A6,c6,rfl,_,_,j⟩))
  go_wp2_with fail;refine i.out _ _ (m.out _ _ j (by with_reducible assumption)) (fun f=>?_);clear i K d j;have d:=f;clear f;(try simp only[cl,Act.put]);refine tk 6 rfl ?_;refine tk 7 rfl ?_;refine tk 8 rfl ?_;refine tk 9 rfl ?_;refine tk 10 rfl ?_;(try simp only[cl,Act.put]);refine wpAnyH_done (by kernel_rfl) ?_ _;refine NoPanic.normal ?_;go_wp2_with fail;go_meet
  case rel=>exact⟨rfl,d.2⟩
 case rest=>
  obtain⟨rfl,W⟩:=hcut;have b2:=ZF C Q.out.1 W;clear r0 r1 r2 r3 W;have y:=zh b2;clear b2;by_cases V:z=0
  ·subst V;go_wp2_with fail;go_ret;exact⟨rfl,by rw[C];exact y.out⟩
  ·have e0:(z==0)=false:=by simpa using V
   by_cases h1:z=1
   ·subst h1;clear V;go_wp2_with fail;go_ret;exact⟨rfl,by rw[C];exact y.out⟩
   ·have e1:(z==1)=false:=by simpa using h1
    have E:=zh (show Zfe z=2 from by unfold Zfe;rw[Yn V,Yn h1]);clear V h1;go_wp2_with fail;go_ret;exact⟨by rw[E.out];rfl,by rw[C];exact y.out⟩
end
end Go.Proofs.YtbfnnolakggbfaaGreatDoor
