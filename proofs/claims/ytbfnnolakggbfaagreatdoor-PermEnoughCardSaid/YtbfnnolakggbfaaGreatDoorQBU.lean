import Derived.Deep.DeepFit
import Derived.Test.YtbfnnolakggbfaaGreatDoorQBL
import Derived.Test.YtbfnnolakggbfaaGreatDoorQBR
import Derived.Test.YtbfnnolakggbfaaGreatDoorQBT
set_option maxRecDepth 100000
set_option maxHeartbeats 8000000
open Option renaming some → Ya, none → Yb
open Go.Value renaming slice → Yc
open Go renaming World → Yh, Value → Yi
open Go.RowKit
namespace Go.Proofs.YtbfnnolakggbfaaGreatDoor
theorem Zgg (a:List Rw) (k:Nat):ZbW a (k+1)=(ZbW a k).bind fun x=>(ZeB k x.2).map fun y=>(x.1++[y.1],y.2):=by
 rw[ZbW];cases ZbW a k with
 |none=>rfl
 |some x=>
  simp only[Option.bind_some];unfold ZeB;cases ZW k ([],[],[]) x.2 with
  |none=>rfl
  |some s=>
   simp only[Option.bind_some];cases Za2 s<;>rfl
theorem ZiT {a:List Rw} {k:Nat} (h:ZbW a k=Yb):∀j:Nat,ZbW a (k+j)=Yb
 |0=>h
 |j+1=>by
  rw[<-Nat.add_assoc,Zgg,ZiT h j];rfl
theorem Zp3 {v:Nat} (p:v<8) {d:List Rw} {s:Stg} {r:List Rw} (i:Good d) (x:d.length<=1000) (h:ZeB v d=Ya (s,r)):Good r/\r.length<=400/\(Zex (.inl (s.1,s.2))/\s.1.length<=1000/\s.2.length<=1000):=by
 have e:=Zgh (v:Int) [] d [];have l:ZaG [] d []=Ya (d,[]):=rfl;rw[l,Option.bind_some]at e;unfold ZeB at h;rw[Option.bind_eq_some_iff]at h;obtain⟨f,g,m⟩:=h;obtain⟨w,j,o⟩:=Option.map_eq_some_iff.1 m;obtain⟨rfl,rfl⟩:(f.2.1,f.2.2)=s/\w=r:=by injection o with a b;exact⟨a,b⟩
 dsimp only at e;rw[g,Option.bind_some,j,Option.map_some]at e
 have k:∀u∈([]++[(v:Int)]:List Int),∃n:Nat,u=n/\n<8:=fun u hu=>by
  simp at hu;exact⟨v,hu,p⟩
 have I:=(ZeT _ d [] _ k i e).1;have C:=Zio _ d [] _ i k e (fun c hc=>by cases hc);have c1:=C ((v:Int),f.2.1,f.2.2) (by simp);have t:=Zdw _ _ _ _ g;simp only[Yl]at t;exact⟨I,Zih j,⟨c1.2.1,c1.2.2⟩,by show f.2.1.length<=1000;omega,by show f.2.2.length<=1000;omega⟩
theorem Zlg {c:List Rw} (e:Good c) (f:c.length<=1000):∀(k:Nat) (st:List Stg) (r:List Rw),k<=8->ZbW c k=Ya (st,r)->st.length=k/\Good r/\r.length<=1000/\∀s∈st,Zex (.inl (s.1,s.2))/\s.1.length<=1000/\s.2.length<=1000
 |0,st,r,_,h=>by
  obtain⟨rfl,rfl⟩:([]:List Stg)=st/\c=r:=by have:=Option.some.inj h;injection this with a b;exact⟨a,b⟩
  exact⟨rfl,e,f,fun s d=>by cases d⟩
 |k+1,st,r,hk,h=>by
  rw[Zgg,Option.bind_eq_some_iff]at h;obtain⟨x,m,n⟩:=h;obtain⟨y,o,p⟩:=Option.map_eq_some_iff.1 n;injection p with a b;subst a;subst b;obtain⟨l1,j,l2,g⟩:=Zlg e f k x.1 x.2 (by omega) m;obtain⟨l,t,i⟩:=Zp3 (show k<8 by omega) j l2 o;refine⟨by rw[Yj,l1];rfl,l,by omega,fun s d=>?_⟩;rcases List.mem_append.1 d with q|q
  ·exact g s q
  ·rw[List.mem_singleton]at q;rw[q];exact i
theorem Zgj {e:List (Trm×Int)} (g:∀s∈e,TrmOk s.1):∀(l c:List Rw),(∀r∈l,TrmOk r.2/\(r.1=0\/r.1=1\/r.1=2))->ZaX e l=Ya c->Good c
 |[],c,_,h=>by
  obtain rfl:=Option.some.inj h;exact fun r d=>by cases d
 |x::l,c,hl,h=>by
  rw[ZaX]at h;by_cases f:x.1=0
  ·rw[Yo f]at h;exact Zgj g l c (fun r d=>hl r (List.mem_cons_of_mem _ d)) h
  ·rw[Yn f,Option.bind_eq_some_iff]at h;obtain⟨u,i,h⟩:=h;obtain⟨m,hm,rfl⟩:=Option.map_eq_some_iff.1 h;have j:=Zgj g l m (fun r d=>hl r (List.mem_cons_of_mem _ d)) hm;obtain⟨a,b⟩:=hl x (by simp);intro r d;rcases List.mem_cons.1 d with q|q
   ·rw[q];exact⟨Zgk e _ u g (Zdq a) i,by rcases b with b|b|b;(· exact absurd b f);(· exact .inl b);(· exact .inr b)⟩
   ·exact j r q
def ZcF (v:Yi) (b:Nat):Prop:=v.ownBlock=Ya b
theorem RowsIn.past {w w':Yh} {v c vg':Yi} {ts:List Rw} (h:RowsIn w v ts (ZcF c)) (d:w.grownBy w' c.ownBlock) (f:vg'.ownBlock=c.ownBlock\/vg'.ownBlock=Ya w.heap.size):RowsIn w' v ts (ZcF vg'):=by
 have a:RowsIn w v ts (fun b=>ZcF c b\/ZcF vg' b):=h.mono fun b q=>by
  rcases q with q|q
  ·exact .inl q
  ·unfold ZcF at q;rcases f with e|e
   ·rw[e]at q;exact .inl q
   ·rw[e]at q;injection q with q;exact .inr (by omega)
 exact(a.grown d (fun b q=>.inl q)).mono fun b q=>.inl (.inr q)
structure SlvS (W w:Yh) (vg:Yi) (st:List Stg):Prop where
 o:∃rs,rs.map (·.2)=st/\w.ownsRow W.heap.size 122 2 vg st.length (ZbL rs)/\∀x∈rs,RowsIn w x.1.1 x.2.1 (ZcF vg)/\RowsIn w x.1.2 x.2.2 (ZcF vg)
 below:Below W.heap.size W w
theorem SlvS.keep {W w w':Yh} {b:Yi} {st:List Stg} (h:SlvS W w b st) (a:Below w.heap.size w w'):SlvS W w' b st:=by obtain⟨⟨i,f,g,c⟩,d⟩:=h;exact⟨⟨i,f,g.kept (ZY a Yb) (by cases hv:b.ownBlock<;>simp),fun x e=>⟨(c x e).1.below a,(c x e).2.below a⟩⟩,d.trans (a.mono d.size)⟩
theorem Zfs:∀(l m:List ((Yi×Yi)×Stg)),ZbL (l++m)=ZbL l++ZbL m
 |[],m=>rfl
 |x::r,m=>by rw[List.cons_append,ZbL,ZbL,Zfs r m];rfl
theorem SlvS.push {W w w':Yh} {b vg' g h:Yi} {st:List Stg} {s:Stg} {rs:List ((Yi×Yi)×Stg)} (a:Below W.heap.size W w) (j:rs.map (·.2)=st) (f:∀k,b.ownBlock=Ya k->W.heap.size<=k) (i:∀x∈rs,RowsIn w x.1.1 x.2.1 (ZcF b)/\RowsIn w x.1.2 x.2.2 (ZcF b)) (d:w'.ownsRow W.heap.size 122 2 vg' (st.length+1) (ZbL rs++[g,h])) (c:w.grownBy w' b.ownBlock) (e:vg'.ownBlock=b.ownBlock\/vg'.ownBlock=Ya w.heap.size)
  (l:RowsIn w g s.1 (ZcF b)) (hc:RowsIn w h s.2 (ZcF b)):SlvS W w' vg' (st++[s]):=by
 refine⟨⟨rs++[((g,h),s)],by rw[List.map_append,j];rfl,by rw[Zfs,Yj];exact d,fun x m=>?_⟩,a.grown c a.size f⟩;rcases List.mem_append.1 m with q|q
 ·exact⟨(i x q).1.past c e,(i x q).2.past c e⟩
 ·rw[List.mem_singleton]at q;subst q;exact⟨l.past c e,hc.past c e⟩
theorem SlvS.at_ {W w:Yh} {m:Yi} {st:List Stg} (h:SlvS W w m st):Zk4 w m st:=by
 obtain⟨⟨l,i,j,k⟩,_⟩:=h;have o:=j;rcases j.2 with⟨rfl,p⟩|⟨g,c,n,rfl,_,r,d,a⟩
 ·have f:st=[]:=List.eq_nil_of_length_eq_zero p;subst f;have e:l=[]:=List.map_eq_nil_iff.1 i;subst e;exact⟨Yb,0,[],rfl,Nat.le_refl _,by decide,rfl,Zw.none_,fun x b=>by cases b⟩
 ·exact⟨Ya _,c,l,rfl,d,a.1,i,Zw.of_own o,fun x b=>⟨(k x b).1.rows,(k x b).2.rows⟩⟩
theorem Zrd:(Tryz.prog.info? 122).map (fun i=>(i.zero,i.size,i.bytes))=Ya (Ya (.agg #[Yc Yb 0 0,Yc Yb 0 0]),2,48):=by kernel_rfl
theorem Zsd (A B:Option Addr) (n c m d:Nat):∀u∈[(Value.slice A n c),Yc B m d],u.oneCell'=true:=fun u hu=>by
 simp only[List.mem_cons,List.not_mem_nil,or_false]at hu;rcases hu with rfl|rfl<;>rfl
theorem ZkL {S1:Nat->Prop} {w w':Yh} {e:Ending} {o:Option (Stg×List Rw)} (h:ZmW S1 w o e w'):∃A n c a g b j i,e=.returned (.tuple #[.agg #[Yc A n c,.slice a g b],j,.bool i])/\Below w.heap.size w w' ∧
  ((i=true/\∃st r,o=Ya (st,r)/\RowsIn w' j r S1/\RowsIn w' (Yc A n c) st.1 S1/\RowsIn w' (.slice a g b) st.2 S1)\/(i=false/\o=Yb)):=by
 rcases h with⟨st,r,j,p,s,d,rfl,m,k,l,f⟩|⟨d,A,n,c,a,g,b,rfl,f⟩
 ·obtain⟨A,c,rfl⟩:∃A c,p=Yc A st.1.length c:=by obtain⟨A,c,_,e,_⟩:=k;exact⟨A,c,e⟩
  obtain⟨a,b,rfl⟩:∃A c,s=Yc A st.2.length c:=by obtain⟨A,c,_,e,_⟩:=l;exact⟨A,c,e⟩
  exact⟨_,_,_,_,_,_,_,true,rfl,f,.inl ⟨rfl,st,r,d,m,k,l⟩⟩
 ·exact⟨_,_,_,_,_,_,_,false,rfl,f,.inr ⟨rfl,d⟩⟩
theorem ZlR {w w':Yh} {e:Ending} (h:ZfK w Yb e w'):e=.returned (.tuple #[Yc Yb 0 0,.bool false])/\Below w.heap.size w w':=by
 rcases h with⟨_,_,_,q,_⟩|⟨_,q,a⟩
 ·cases q
 ·exact⟨q,a⟩
theorem ZlS {w w':Yh} {e:Ending} {a:List Rw} (h:ZfK w (Ya a) e w'):∃b c,e=.returned (.tuple #[.slice b a.length c,.bool true])/\ZA w' (.slice b a.length c) a/\Below w.heap.size w w':=by
 rcases h with⟨j,d,f,q,e,i,g⟩|⟨q,_,_⟩
 ·obtain rfl:=Option.some.inj q;exact⟨d,f,e,i,g⟩
 ·cases q
theorem ZmM (w:Yh) (v:Yi) (l:List Rw) (h:ZA w v l) (hw:∀r∈l,Zac r):Calls Tryz.prog 50 #[v] w (ZbK w (Ze2 l)):=by
 obtain⟨iT,fd,f3,f4,f5⟩:=info_parts Zgi;obtain⟨iS,fc,fy,fz,f2⟩:=info_parts Zrd;have ab:=zh h;obtain⟨A,c,rs,rfl,h2,h3,h4,h5,h6⟩:=h;obtain⟨n,hn⟩:∃n,n=l.length:=⟨_,rfl⟩
 have dm:rs.length=n:=by rw[hn,<-h4,List.length_map]
 have df:n<=maxLen:=by omega
 rw[<-hn]at h2 h5⊢;obtain⟨m,ag⟩:∃m,m=Ze2 l:=⟨_,rfl⟩
 rw[<-ag];have T:=zh (zi dm (zi h4 (zi h5 (zi h6 (zi hn (zi hw df))))));have HL:=zh ab.out;rw[<-hn]at HL;have HR:=zh ag;clear ab hn dm h2 h3 h4 h5 h6 hw ag df;go_enter Tryz.func50,Tryz.ntmps50;go_wp2_with fail;go_loopg [4,5] n (fun g v4 v5 wr=>∃(k:Nat) (va:Yi),va=v4/\v5=.int .i64 k/\k<=n/\g=n-k/\(∀r∈l.take k,ZU r=false)/\(0<k->n<=400)/\ParS w wr va (ZR (l.take k)) (Yc Yb 0 0) [])
 case atStart=>exact⟨0,_,rfl,rfl,Nat.zero_le _,rfl,(fun r G=>by cases G),fun q=>absurd q (Nat.lt_irrefl _),ParS.start w⟩
 case round=>
  obtain⟨k,va,rfl,rfl,hk,hg,I,af,D⟩:=hrel;by_cases b3:k=n
  ·have he:l.take k=l:=by rw[b3,T.out.2.2.2.2.1];exact List.take_length
   rw[he]at I D;have dh:n<=400:=by
    rcases Nat.eq_zero_or_pos n with q|q
    ·omega
    ·exact af (by omega)
   have di:¬(400<l.length\/l.any ZU=true):=by
    rintro(q|q)
    ·have:=T.out.2.2.2.2.1;omega
    ·obtain⟨r,a,b⟩:=List.any_eq_true.1 q;rw[I r a]at b;cases b
   have G:∀r∈l,TrmOk r.2/\(r.1=0\/r.1=1\/r.1=2):=fun r G=>Zfm ⟨(T.out.2.2.2.2.2.1 r G).1,(T.out.2.2.2.2.2.1 r G).2.1⟩ (I r G)
   have ax:∀t∈ZR l,Zz t.1/\Bd t.2:=fun t ht=>by
    obtain⟨r,a,_,rfl⟩:=Zjy.1 ht;exact⟨(T.out.2.2.2.2.2.1 r a).1,(T.out.2.2.2.2.2.1 r a).2.1⟩
   have Y:m=if(Zy (ZR l)).2≠0 then([],(Zy (ZR l)).2)
     else match ZaX ((Zy (ZR l)).1.1.zip (Zy (ZR l)).1.2) l with
      |none=>([],2)
      |some dr=>match ZbW dr 8 with
       |none=>([],2)
       |some x=>if x.2.any ZdR=true then([],1)else ZhD (Zy (ZR l)).1.2 x.1 ((Zy (ZR l)).1.1.zip (Zy (ZR l)).1.2):=by
    rw[HR.out];unfold Ze2;rw[Yn di];rfl
   have sv:=Zn9 wr va (ZR l) D.e.terms ax;have S:=fun(a:List Trm) (p:List Int) (e:Zy (ZR l)=((a,p),0))=>Zib ax e;have P:=fun(a:List Trm) (p:List Int) (e:Zy (ZR l)=((a,p),0))=>Zpf ax e;generalize Zy (ZR l)=Q at *;obtain⟨⟨f,d⟩,s⟩:=Q;dsimp only at sv S P Y;have SV:=zh sv;have u:=zh Y;have HG:=zh (zi (show n<=400 from dh) G);have HS:=zh (zi S P);have V:=zh D.below;subst b3;clear hk hg D he I af di ax sv S P Y G dh;have i0:¬(k:Int)<(k:Int):=by omega
   go_upto_region 10 with(go_at_call 79;go_fit SV.out;rintro e2 w2 ⟨A2,c2,B2,d2,rfl,dp,de,dd⟩)
   have HB:=zh (V.out.trans (dd.mono V.out.size));have HT:=zh (zi dp de);clear dp de dd i0 SV;by_cases hs:s=0
   rotate_left
   ·have ne:(s != 0)=true:=by simpa using hs
    have F:=zh (show ZbK w m (.returned (.tuple #[Yc Yb 0 0,.int .i64 s])) w2 from by
     rw[u.out,Yo hs]
     exact Za7 HB.out)
    clear hs;go_wp2_with fail;go_ret2;exact F.out
   subst hs;have u:=zh (u.out.trans (Yn (fun q=>q rfl)));obtain⟨hS,ak,fk⟩:=HS.out.1 f d rfl;have hP:=HS.out.2 f d rfl;have a8:∀t∈f,TrmOk t:=hS.ok
   have dj:∀p∈d,∃n:Nat,p=n/\n<8:=fun p hp=>by
    obtain⟨i,hi⟩:=List.mem_iff_getElem?.1 hp;have:=hP.rng i p hi;exact⟨p.toNat,by omega,by omega⟩
   have ca:f.length<=1000:=by omega
   have ch:=fun(w':Yh) (hb:Below w.heap.size w w') (h1:Zai w' (Yc A2 f.length c2) f) (h2:ZaR w' (Yc B2 d.length d2) d)=>Zpr w' (Yc A k c) (Yc A2 f.length c2) (Yc B2 d.length d2) l f d (HL.out.below hb) h1 h2 ak (fun r G=>(HG.out.2 r G).1) a8 (by have:=HG.out.1;have:=T.out.2.2.2.2.1;omega) ca;have bx:=fun(an:List Rw) (e:ZaX (f.zip d) l=Ya an)=>Zgj (fun s hs=>a8 s.1 (List.of_mem_zip hs).1) l an HG.out.2 e;have b4:=fun(an:List Rw) (e:ZaX (f.zip d) l=Ya an)=>Zfg (f.zip d) l an e;have wt:=fun(w':Yh) (H:List Stg) (v':Yi) (h0:Zk4 w' v' H) (h1:Zai w' (Yc A2 f.length c2) f) (h2:ZaR w' (Yc B2 d.length d2) d) (h8:H.length=8) (al:∀s∈H,Zex (.inl (s.1,s.2))/\s.1.length<=1000/\s.2.length<=1000)=>ZlT w' v' (Yc A2 f.length c2) (Yc B2 d.length d2) H f d h0 h1 h2 h8 ak ca al a8 dj;replace u:=u.out;(try dsimp only at u);generalize hZ:f.zip d=Z at *;have eo:∃LR,LR=ZaX Z l:=⟨_,rfl⟩
   obtain⟨LR,J⟩:=eo;rw[<-J]at u ch bx b4;have bt:=zh ch;have c4:=zh (zi bx b4);have dc:=zh wt;replace u:=zh u;clear hS hP ak a8 dj ca ch bx b4 HS fk wt hZ J;generalize ff:f.length=ns at *;generalize fe:d.length=np at *;clear ff fe;go_upto_region 12 with fail;go_cut [9,10]from 15 to 119 (fun v9 ao wx=>Below w2.heap.size w2 wx/\((∃(E:List Rw) (A9:Option Addr) (c9:Nat),LR=Ya E/\v9=Yc A9 E.length c9/\ao=.bool true/\ZA wx (Yc A9 E.length c9) E)\/(LR=Yb/\ao=.bool false)))
   case first=>
    cases LR with
    |none=>
     go_wp2_with (go_at_call 80;go_fit (bt.out _ HB.out HT.out.1 HT.out.2);rintro e3 w3 H3;obtain⟨rfl,L⟩:=ZlR H3);go_meet
     case rel=>exact⟨L,.inr ⟨by first|rfl|trivial,by first|rfl|trivial⟩⟩
    |some E=>
     go_wp2_with (go_at_call 80;go_fit (bt.out _ HB.out HT.out.1 HT.out.2);rintro e3 w3 H3;obtain⟨A9,c9,rfl,fg,L⟩:=ZlS H3);go_meet
     case rel=>exact⟨L,.inl ⟨E,A9,c9,by first|rfl|trivial,by first|rfl|trivial,by first|rfl|trivial,fg⟩⟩
   case rest=>
   obtain⟨L,ai⟩:=hcut;have HB:=zh (HB.out.trans (L.mono HB.out.size));have HT:=zh (zi (HT.out.1.below L) (HT.out.2.below L));clear L bt;have c8:=zh (show ∀(E:List Rw),LR=Ya E->Good E/\E.length<=1000 from fun E e=>⟨c4.out.1 E e,by have:=c4.out.2 E e;have:=HG.out.1;have:=T.out.2.2.2.2.1;omega⟩);have bu:∃E:List Rw,(LR=Ya E\/LR=Yb):=by
    rcases ai with⟨E,_,_,e,_⟩|⟨e,_⟩
    ·exact⟨E,.inl e⟩
    ·exact⟨[],.inr e⟩
   obtain⟨E,dk⟩:=bu;have cz:=zh ai;have eq:=zh dk;clear dk
   have S0:=zh (show(∃(H:List Stg) (r:List Rw),u10=.bool true/\LR=Ya E/\ZbW E 0=Ya (H,r)/\SlvS wc wc (Yc Yb 0 0) H/\RowsIn wc u9 r (ZcF (Yc Yb 0 0)))\/(u10=.bool false/\m=([],2)/\Below w.heap.size w wc)from by
    rcases cz.out with⟨r1,A9,c9,e,rfl,rfl,G⟩|⟨e,rfl⟩
    ·obtain rfl:r1=E:=by
      rcases eq.out with q|q
      ·rw[e]at q;exact Option.some.inj q
      ·rw[e]at q;cases q
     exact .inl ⟨[],r1,rfl,e,rfl,⟨⟨[],rfl,World.ownsRow_nil _ _ _ _,fun x hx=>by cases hx⟩,Below.refl _ _⟩,RowsIn.of G (fun b q=>by cases q)⟩
    ·refine .inr ⟨rfl,?_,HB.out⟩
     rw[u.out,e])
   clear ai cz;go_upto_region 14 with fail;have br:=zh (fun(w':Yh) (hb:Below wc.heap.size wc w')=>zi (HT.out.1.below hb) (HT.out.2.below hb));have S0:=zh (zi S0.out (Below.refl wc.heap.size wc));clear HT;generalize fl:wc=wo at *;clear fl;go_wp2_with fail;go_loopg [9,10,11,12] 9 (fun g v9 ao fs ft wr=>∃(k:Nat) (vg vr:Yi),vg=fs/\vr=v9/\ft=.int .i64 k/\k<=8/\g=9-k/\Below wo.heap.size wo wr/\((∃(H:List Stg) (r:List Rw),ao=.bool true/\LR=Ya E/\ZbW E k=Ya (H,r)/\SlvS wo wr vg H/\RowsIn wr vr r (ZcF vg))\/(ao=.bool false/\m=([],2)/\Below w.heap.size w wr)))
   case atStart=>exact⟨0,_,_,rfl,rfl,rfl,by omega,rfl,S0.out.2,S0.out.1⟩
   case round=>
    clear S0;obtain⟨j,vg,vr,rfl,rfl,rfl,hj,ay,aa,ai⟩:=hrel;rcases ai with⟨H,r,rfl,J,aj,D,az⟩|⟨rfl,bj,ah⟩
    rotate_left
    ·have F:=zh (show ZbK w m (.returned (.tuple #[Yc Yb 0 0,.int .i64 2])) wr from by rw[bj];exact Za7 ah);clear aa bj ah hj ay;by_cases b2:(j:Int)<8
     ·go_wp2_with fail;go_ret2;exact F.out
     ·go_wp2_with fail;go_ret2;exact F.out
    obtain⟨U,ab⟩:=c8.out E J;obtain⟨R,b0,a6,al⟩:=Zlg U ab j H r hj aj;by_cases b2:j=8
    ·
     subst b2;have Y:m=if r.any ZdR=true then([],1)else ZhD d H Z:=by rw[u.out,J];dsimp only;rw[aj]
     have bl:=az.rows;obtain⟨A9,c9,ds,rfl,_,_,g4,g5,g6⟩:=id bl;obtain⟨nr,b8⟩:∃n,n=r.length:=⟨_,rfl⟩
     have dl:ds.length=nr:=by rw[b8,<-g4,List.length_map]
     rw[<-b8]at g5⊢;have wi:=dc.out wr H vg D.at_ (br.out wr aa).1 (br.out wr aa).2 R al;obtain⟨g7,hm,rfl⟩:∃A c,vg=Yc A H.length c:=by obtain⟨A,c,_,e,_⟩:=D.at_;exact⟨A,c,e⟩
     have WI:=zh wi;have HZ:=zh (zi dl (zi g4 (zi g5 (zi b8 a6))));have c5:=zh Y;have aw:=zh (HB.out.trans (D.below.mono HB.out.size));clear aa U ab b0 al bl g4 g5 g6 dl wi Y aj J a6 az D ay hj c8 u dc br;have ii:¬((8:Nat):Int)<8:=by decide
     rw[R];have db:=zh (R▸WI.out);clear WI;go_upto_region 22 with fail;generalize fm:wr=wp at *;clear fm;go_wp2_with fail;go_loopg [14] nr (fun g fu wr=>wp=wr/\∃i:Nat,fu=.int .i64 i/\i<=nr/\g=nr-i/\(r.take i).any ZdR=false)
     case atStart=>exact⟨rfl,0,rfl,Nat.zero_le _,rfl,rfl⟩
     case round=>
      obtain⟨rfl,i,rfl,hi,bz,M⟩:=hrel;by_cases b1:i=nr
      ·have et:r.take i=r:=by rw[b1,HZ.out.2.2.2.1];exact List.take_length
       rw[et]at M;have er:=zh (show m=ZhD d H Z from by rw[c5.out,Yn (by rw[M];decide)]);have wi:=db.out;rw[<-er.out]at wi;have ew:=zh wi;subst b1;clear hi bz M et wi db;have i3:¬(i:Int)<(i:Int):=by omega
       go_wp2_with (go_at_call 82;go_fit ew.out;rintro e7 w7 ⟨A7,c7,rfl,fh,fo,fa⟩);go_ret2;exact⟨A7,c7,rfl,fh,fo,aw.out.trans (fa.mono aw.out.size)⟩
      ·have N:i<nr:=by omega
       obtain⟨x,hx⟩:∃x,ds[i]? = Ya x:=⟨_,Ym (by have:=HZ.out.1;omega)⟩
       have cd:r[i]? = Ya x.2:=by rw[<-HZ.out.2.1,List.getElem?_map,hx];rfl
       obtain⟨ad,rfl,d0,d1,d2,d3⟩:=ZaT HZ.out.2.2.1 (Below.refl _ _) hx (by omega);have ce:(r.take (i+1)).any ZdR=ZdR x.2:=by rw[List.take_add_one,cd,List.any_append,M,Bool.false_or];simp
       have X:ZdR x.2=true->m=([],1):=fun q=>by rw[c5.out,Yo (List.any_eq_true.2 ⟨x.2,List.mem_of_getElem? cd,q⟩)]
       have i1:(i:Int)<(nr:Int):=by omega
       have i2:(0:Int)<=(i:Int):=by omega
       have wk:IntKind.i64.wrap ((i:Int)+1)=(i:Int)+1:=IntWalk.i64_in _ (by have:=HZ.out.2.2.2.2;have:=HZ.out.2.2.2.1;omega);obtain⟨xv,xo,xl,x1,x2⟩:=x;have bd:ZdR (xo,xl,x1,x2)=(decide (x1<0)||(xo==2&&x1==0)):=rfl;dsimp only at *;rw[bd]at ce X;have C:=zh (zi N (zi bz (zi ce X)));clear b1 hi bz M hx cd ce X bd N d1 d3;by_cases q1:x1<0
       ·have t1:decide (x1<0)=true:=decide_eq_true q1
        have F:=zh (show ZbK w m (.returned (.tuple #[Yc Yb 0 0,.int .i64 1])) wp from by
         rw[C.out.2.2.2 (by rw[t1];rfl)]
         exact Za7 aw.out)
        go_wp2_with fail;go_ret2;exact F.out
       ·have t1:decide (x1<0)=false:=decide_eq_false q1;by_cases q2:xo=2
        ·have t2:(xo==2)=true:=by rw[q2];rfl
         by_cases q3:x1=0
         ·have t3:(x1==0)=true:=by rw[q3];rfl
          have F:=zh (show ZbK w m (.returned (.tuple #[Yc Yb 0 0,.int .i64 1])) wp from by
           rw[C.out.2.2.2 (by rw[t1,t2,t3];rfl)]
           exact Za7 aw.out)
          clear q1 q2 q3;go_wp2_with fail;go_ret2;exact F.out
         ·have t3:(x1==0)=false:=by simpa using q3
          have NX:=zh (show(r.take (i+1)).any ZdR=false from by rw[C.out.2.2.1,t1,t2,t3];rfl);clear q1 q2 q3;go_wp2_with fail;go_roundg (nr-(i+1))
          case measure=>have:=C.out.1;have:=C.out.2.1;omega
          case rel=>exact⟨rfl,i+1,by push_cast;rfl,by have:=C.out.1;omega,rfl,NX.out⟩
        ·have t2:(xo==2)=false:=by simpa using q2
         have NX:=zh (show(r.take (i+1)).any ZdR=false from by rw[C.out.2.2.1,t1,t2];rfl);clear q1 q2;go_wp2_with fail;go_roundg (nr-(i+1))
         case measure=>have:=C.out.1;have:=C.out.2.1;omega
         case rel=>exact⟨rfl,i+1,by push_cast;rfl,by have:=C.out.1;omega,rfl,NX.out⟩
    ·have N:j<8:=by omega
     have i1:(j:Int)<8:=by omega
     have wk:IntKind.i64.wrap ((j:Int)+1)=(j:Int)+1:=IntWalk.i64_in _ (by omega);obtain⟨⟨fq,z1,z2,z3⟩,ah⟩:=D;have a1:=below_alloc1 wr (.cells #[Yc Yb 0 0,Yc Yb 0 0] 122);have BX:=Blk.start wr #[Yc Yb 0 0,Yc Yb 0 0] 122
     have bk:RowsIn wr vr r (fun b=>ZcF vg b\/b=wr.heap.size):=az.mono fun b q=>by
      rcases q with q|q
      ·exact .inl q
      ·exact .inr (by omega)
     have rd:=Zpm (fun b=>ZcF vg b\/b=wr.heap.size) (wr.alloc (.cells #[Yc Yb 0 0,Yc Yb 0 0] 122)) vr r j (bk.below a1) (fun b q=>by
      rw[World.size_alloc];rcases q with q|q
      ·have:=(z2.lt b q).2;omega
      ·omega) (fun x hx=>(b0 x hx).1) a6
     have nx:ZbW E (j+1)=(ZeB j r).map fun y=>(H++[y.1],y.2):=by rw[Zgg,aj];rfl
     have nn:ZbW E (j+1)=Yb->m=([],2):=fun q=>by
      have e:=ZiT q (7-j);rw[show j+1+(7-j)=8 by omega]at e;rw[u.out,J];dsimp only;rw[e]
     have RD:=zh rd;have V:=zh (zi nx (zi nn (zi J (zi N (zi ay (zi ah (zi aa R)))))));have HX:=zh (zi a1 BX);have W:=zh (zi z1 (zi z2 z3));clear U ab R b0 a6 al b2 aj J az bk rd nx nn N ay ah aa a1 BX z1 z2 z3 hj;go_upto_region 19 with(go_at_call 81;go_fit RD.out;rintro e5 w5 H5;obtain⟨Ab,nb,cb,Ac,nc,cc,fv,ok,rfl,bw,dn⟩:=ZkL H5;have B5:=HX.out.2.keep bw;have c0:=B5.cell 0;have c1:=B5.cell 1;have f0:=B5.free 0;have f1:=B5.free 1;have bq:=zh (zi dn (zi bw B5));clear dn bw B5 H5)
     have B6:=(bq.out.2.2.set 0 (Yc Ab nb cb)).set 1 (Yc Ac nc cc);have ho:=B6.cell 0;have hq:=B6.cell 1;have b5:Below wr.heap.size wr w5:=HX.out.1.trans (bq.out.2.1.mono HX.out.1.size);have b6:Below wr.heap.size wr ((w5.setCell ⟨wr.heap.size,0,Yb⟩ (Yc Ab nb cb)).setCell ⟨wr.heap.size,1,Yb⟩ (Yc Ac nc cc)):=(b5.setCell (p:=⟨wr.heap.size,0,Yb⟩) (Nat.le_refl _) _).setCell (p:=⟨wr.heap.size,1,Yb⟩) (Nat.le_refl _) _;have g6:w5.grownBy ((w5.setCell ⟨wr.heap.size,0,Yb⟩ (Yc Ab nb cb)).setCell ⟨wr.heap.size,1,Yb⟩ (Yc Ac nc cc)) (Ya wr.heap.size):=ZX ZaH ZaH;have H6:=zh (zi b6 g6);clear c0 c1 f0 f1 B6 b5 b6 g6;generalize(w5.setCell ⟨wr.heap.size,0,Yb⟩ (Yc Ab nb cb)).setCell ⟨wr.heap.size,1,Yb⟩ (Yc Ac nc cc)=w6 at *;have a7:=below_alloc1 w6 (.cells #[Yc Ab nb cb,Yc Ac nc cc] 122);have b7:=H6.out.1.trans (a7.mono H6.out.1.size);have OW:=zh (W.out.2.1.kept (ZY b7 Yb) (by cases hv:vg.ownBlock<;>simp));have RR:=zh ((Zas (B:=0) (wo:=w6) (x:=#[Yc Ab nb cb,Yc Ac nc cc]) (ty:=122) (Nat.zero_le _)).reads (size:=2) rfl);have H7:=zh (zi a7 (zi b7 (V.out.2.2.2.2.2.1.trans (b7.mono V.out.2.2.2.2.2.1.size))));have LK:=zh (show H.length+1<=maxLen/\(H.length+1)*48<=140737488355328 from by have:=V.out.2.2.2.2.2.2.2;have:=V.out.2.2.2.1;unfold maxLen;omega);clear a7 b7;go_wp2_with (at_builtin;refine Zj _ rfl _ _ 120 rfl wo.heap.size 122 iS (.agg #[Yc Yb 0 0,Yc Yb 0 0]) 2 48 Tryz.underlying120 fc fy fz f2 rfl (by decide) _ H.length (ZbL fq) rfl OW.out (w6.heap.size+1) (Ya ⟨w6.heap.size,0,Yb⟩) 1 1 [Yc Ab nb cb,Yc Ac nc cc] rfl RR.out (Zsd _ _ _ _ _ _) (by have:=LK.out;omega) (by have:=LK.out;omega) H7.out.2.2.size ?_);intro v9 w9 O o K;have P9:=fun(s:Stg) (fi:RowsIn w5 (Yc Ab nb cb) s.1 (fun b=>ZcF vg b\/b=wr.heap.size)) (fj:RowsIn w5 (Yc Ac nc cc) s.2 (fun b=>ZcF vg b\/b=wr.heap.size))=>SlvS.push (s:=s) H7.out.2.2 W.out.1 (fun k q=>(W.out.2.1.lt k q).1) (fun x hx=>⟨(W.out.2.2 x hx).1.below H7.out.2.1,(W.out.2.2 x hx).2.below H7.out.2.1⟩) O o (by first|exact K|simpa using K) (((fi.grown H6.out.2 (fun b q=>by injection q with q;exact .inr q.symm)).below H7.out.1).mono fun b q=>.inl (.inl q)) (((fj.grown H6.out.2 (fun b q=>by injection q with q;exact .inr q.symm)).below H7.out.1).mono fun b q=>.inl (.inl q));have R9:=fun(r':List Rw) (G:RowsIn w5 fv r' (fun b=>ZcF vg b\/b=wr.heap.size))=>(((G.grown H6.out.2 (fun b q=>by injection q with q;exact .inr q.symm)).below H7.out.1).mono (S':=ZcF vg) fun b q=>.inl (.inl q)).past o (vg':=v9) (by first|exact K|simpa using K);have bp:Below wo.heap.size wo w9:=H7.out.2.2.grown o H7.out.2.2.size fun k q=>(W.out.2.1.lt k q).1;have cw:Below w.heap.size w w9:=HB.out.trans (bp.mono HB.out.size);have H9:=zh (zi P9 (zi R9 (zi cw bp)));clear P9 R9 cw bp O o K;go_wp2_with fail;go_roundg (9-(j+1))
     case measure=>have:=V.out.2.2.2.1;have:=V.out.2.2.2.2.1;omega
     case rel=>
      refine⟨j+1,_,_,rfl,rfl,by push_cast;rfl,by have:=V.out.2.2.2.1;omega,rfl,H9.out.2.2.2,?_⟩;rcases bq.out.1 with⟨rfl,s,r',e,q0,q1,q2⟩|⟨rfl,e⟩
      ·exact .inl ⟨H++[s],r',rfl,V.out.2.2.1,by rw[V.out.1,e];rfl,H9.out.1 s q1 q2,H9.out.2.1 r' q0⟩
      ·exact .inr ⟨rfl,V.out.2.1 (by rw[V.out.1,e];rfl),H9.out.2.2.1⟩
  ·have N:k<n:=by omega
   obtain⟨y,hy⟩:∃y,rs[k]? = Ya y:=⟨_,Ym (by have:=T.out.1;omega)⟩
   have am:l[k]? = Ya y.2:=by rw[<-T.out.2.1,List.getElem?_map,hy];rfl
   obtain⟨ad,rfl,d0,d1,d2,d3⟩:=ZaT T.out.2.2.1 D.below hy (by omega);have b9:=T.out.2.2.2.1 y (List.mem_of_getElem? hy);have hw:=T.out.2.2.2.2.2.1 y.2 (List.mem_of_getElem? am);have G:=b9.below D.below;have rt:=ZmC wr y.1 y.2 G hw.1 hw.2.1
   have X:ZU y.2=true->m=([],2):=fun q=>by
    rw[HR.out];unfold Ze2;rw[Yo (.inr (List.any_eq_true.2 ⟨y.2,List.mem_of_getElem? am,q⟩))]
   have big:400<n->m=([],2):=fun q=>by
    rw[HR.out];unfold Ze2;rw[Yo (.inl (by rw[<-T.out.2.2.2.2.1];exact q))]
   have dq:ZU y.2=false->∀r∈l.take (k+1),ZU r=false:=fun q r G=>by
    rw[List.take_add_one,am]at G;rcases List.mem_append.1 G with a|a
    ·exact I r a
    ·have a:r=y.2:=by simpa using a
     rw[a];exact q
   have ci:l.take (k+1)=l.take k++[y.2]:=by rw[List.take_add_one,am];rfl
   have le:(ZR (l.take k)).length<=k:=by unfold ZR;rw[List.length_map];exact Nat.le_trans (List.length_filter_le _ _) (by rw[List.length_take];omega)
   have i1:(k:Int)<(n:Int):=by omega
   have i2:(0:Int)<=(k:Int):=by omega
   have wk:IntKind.i64.wrap ((k:Int)+1)=(k:Int)+1:=IntWalk.i64_in _ (by have:=T.out.2.2.2.2.2.2;unfold maxLen at this;omega);generalize ZU y.2=RB at *;obtain⟨y0,yo,yl,y1,y2⟩:=y;dsimp only at *;obtain⟨Ay,cy,rfl⟩:=Zc G;have n1:yo=0->ZR (l.take (k+1))=ZR (l.take k)++[(yl,y1,y2)]:=fun q=>by rw[ci];unfold ZR;rw[List.filter_append,List.map_append];simp[q]
   have n2:¬yo=0->ZR (l.take (k+1))=ZR (l.take k):=fun q=>by rw[ci];unfold ZR;rw[List.filter_append];simp[q]
   have RT:=zh rt;have C:=zh (zi N (zi hg (zi X (zi big (zi dq (zi n1 (zi n2 (zi le b9))))))));have DD:=zh D;clear b3 hk hg I af am hy b9 hw G rt X big dq ci le n1 n2 D N;cases RB with
   |true=>
    have F:=zh (C.out.2.2.1 rfl);go_wp2_with (go_at_call 78;go_fit RT.out;rintro e1 w1 ⟨rfl,z⟩);go_ret2;rw[F.out];exact Za7 (DD.out.below.trans (z.mono DD.out.below.size))
   |false=>
    by_cases h4:400<n
    ·have F:=zh (C.out.2.2.2.1 h4);have i4:(400:Int)<(n:Int):=by omega
     clear h4;go_wp2_with (go_at_call 78;go_fit RT.out;rintro e1 w1 ⟨rfl,z⟩);go_ret2;rw[F.out];exact Za7 (DD.out.below.trans (z.mono DD.out.below.size))
    ·have i4:¬(400:Int)<(n:Int):=by omega
     have H4:=zh (show n<=400 by omega);clear h4;by_cases h0:yo=0
     ·have e0:(yo==0)=true:=by rw[h0];rfl
      have NX:=zh (C.out.2.2.2.2.2.1 h0);clear h0;go_upto_region 8 with(go_at_call 78;go_fit RT.out;rintro e1 w1 ⟨rfl,z⟩;replace d0:=ZS z d0;replace d1:=ZS z d1;replace d2:=ZS z d2;replace d3:=ZS z d3)
      have D1:=DD.out.keep z;have QW:=zh (Zm3 (t:=(yl,y1,y2)) (kn:=y1) (kd:=y2) (A:=Ay) (c:=cy) D1 rfl 37);obtain⟨fp,QV⟩:=QW.out;replace QW:=zh QV;have LK:=zh (show(ZR (l.take k)).length+1<=maxLen/\((ZR (l.take k)).length+1)*40<=140737488355328 from by have:=C.out.2.2.2.2.2.2.2.1;have:=C.out.1;have:=H4.out;unfold maxLen;omega);clear QV D1 z d0;go_wp2_with (at_builtin;refine Zj _ rfl _ _ 102 rfl w.heap.size 37 iT (.agg #[Yc Yb 0 0,.int .i64 0,.int .i64 0]) 3 40 Tryz.underlying102 fd f3 f4 f5 rfl (by decide) _ (ZR (l.take k)).length (Ze fp) rfl QW.out.2.1 (w1.heap.size+1) (Ya ⟨w1.heap.size,0,Yb⟩) 1 1 [Yc Ay yl.length cy,.int .i64 y1,.int .i64 y2] rfl QW.out.2.2.2.2 (ZqX _ _ _ _ _) (by have:=LK.out;omega) (by have:=LK.out;omega) QW.out.2.2.2.1.below.size ?_);intro v8 w8 O o K;have D8:=zh (ParS.pushE (t:=(yl,y1,y2)) QW.out.2.2.2.1 QW.out.1 QW.out.2.2.1 O o (by first|exact K|simpa using K) C.out.2.2.2.2.2.2.2.2);clear O o K;go_wp2_with fail;go_roundg (n-(k+1))
      case measure=>have:=C.out.1;have:=C.out.2.1;omega
      case rel=>exact⟨k+1,_,rfl,by push_cast;rfl,by have:=C.out.1;omega,rfl,C.out.2.2.2.2.1 (by first|rfl|trivial),fun _=>H4.out,by rw[NX.out];exact D8.out⟩
     ·have e0:(yo==0)=false:=by simpa using h0
      have NX:=zh (C.out.2.2.2.2.2.2.1 h0);clear h0;go_wp2_with (go_at_call 78;go_fit RT.out;rintro e1 w1 ⟨rfl,z⟩;replace d0:=ZS z d0);go_roundg (n-(k+1))
      case measure=>have:=C.out.1;have:=C.out.2.1;omega
      case rel=>exact⟨k+1,_,rfl,by push_cast;rfl,by have:=C.out.1;omega,rfl,C.out.2.2.2.2.1 (by first|rfl|trivial),fun _=>H4.out,by rw[NX.out];exact DD.out.keep z⟩
end Go.Proofs.YtbfnnolakggbfaaGreatDoor
