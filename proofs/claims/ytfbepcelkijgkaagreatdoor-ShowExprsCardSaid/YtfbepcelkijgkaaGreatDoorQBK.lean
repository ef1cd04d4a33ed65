import Derived.Test.YtfbepcelkijgkaaGreatDoorQAZ
import Derived.Test.YtfbepcelkijgkaaGreatDoorQBA
import Derived.Test.YtfbepcelkijgkaaGreatDoorQBJ
set_option maxRecDepth 100000
set_option maxHeartbeats 8000000
open Option renaming none → Yb
open Go.Value renaming slice → Yc, int → Yd
open Go.IntKind renaming i64 → Yf
open Go.Obj renaming cells → Yg
namespace Go.Proofs.YtfbepcelkijgkaaGreatDoor
section
open Go.RowKit
theorem Zk9 (D w:World) (u:Nat) (C:Value) (L:List Tok) (s:PS) (f:Nat) (ex st:PS->Tr×PS) (i:Zb8 D u C L f st) (ak:Stm L f st) (h:ParS D w u C L s) (hd:Dp L (f+1) s) (J:s.deep<=200) :
  Calls Tryz.prog 20 #[.pointer (some ⟨u,0,Yb⟩)] w (Zcc D u C L w (.mk 0 [] [] (Ze L s) (ZaM L ex st (L.length+1) [] s).1) (ZaM L ex st (L.length+1) [] s).2):=by
 obtain⟨R,hR⟩:∃R,R=ZaM L ex st (L.length+1) [] s:=⟨_,rfl⟩
 rw[<-hR];have HR:=zh (zi hR (zi hd J));have HB:=zh (zi i ak);clear hR hd J i ak;obtain⟨iS,hS,cg,ch,ci⟩:=info_parts Zba;obtain⟨iU,hU,cj,ck,cm⟩:=info_parts Zbg;obtain⟨iN,hN,cc,cd,ce⟩:=info_parts Za0;have a0:=below_alloc1 w (Yg #[Yd Yf 0,Yc Yb 0 0,Yc Yb 0 0,Yc Yb 0 0,Yd Yf 0,Yc Yb 0 0] 58);have ha:=h.keep a0;generalize ap:w.alloc (Yg #[Yd Yf 0,Yc Yb 0 0,Yc Yb 0 0,Yc Yb 0 0,Yd Yf 0,Yc Yb 0 0] 58)=wa at *;have RB:=zh (Zap D wa u C L s 0 ha);have H:=zh h;have I:=zh h.size0;clear a0 ha h;go_enter Tryz.func20,Tryz.ntmps20;go_upto_region 2 with(go_at_call 46;(with_reducible refine RB.out.mono ?_);rintro e w1 ⟨rfl,i⟩;have B1:=zh i;clear i)
 have G2:=zh (Gn.start (k:=0) (p:=Ze L s) H.out ap B1.out);clear ap RB;generalize w1.alloc (Yg #[Yd Yf 0,Yc Yb 0 0,Yc Yb 0 0,Yc Yb 0 0,Yd Yf (Ze L s),Yc Yb 0 0] 58)=w2 at *;clear B1;generalize w1.heap.size=b at *;go_upto_region 2 with fail;have aw:=zh G2.out.P.few.1;go_loopg [] (L.length+1) (fun g wr=>∃(l:List Tr) (t:PS) (x:NV) (vs:List (NV×Tr)),R=ZaM L ex st g l t/\(Dp L (f+1) t/\PS.deep t<=200)/\(t.err=0->L.length-t.at_<g)/\vs.length+g<=L.length+1/\vs.map (·.2)=l/\Gn D w wr u b w.heap.size C L t x 0 (Ze L s) [] [] vs)
 case atStart=>exact⟨[],_,_,[],HR.out.1,HR.out.2,fun _=>by omega,by simp,rfl,G2.out⟩
 case round=>
  obtain⟨l,t,x,vs,Z,hD,K,m,hvl,A⟩:=hrel;have SH:=A.shape;obtain⟨M,V,Q,N,U,S,O,W,T,rfl⟩:=SH;clear G2;have c:=zh A;have LB:=zh (show vs.length<=100004 by have:=aw.out;omega);clear A;by_cases E:t.err=0
  ·skip
   have F:(t.err==0)=true:=by simp[E]
   obtain⟨tk,tt,ta,ht⟩:∃tk tt ta,ZaT L t=(tk,tt,ta):=⟨_,_,_,rfl⟩
   have X:=zh (Zdv D wr u C L t c.out.P);rw[ht]at X;have aj:=fun w=>Zey tk tt ta w;by_cases h3:tk=3
   ·skip
    have j:R=(l,t):=by
     rw[Z];cases gk with
     |zero=>rfl
     |succ r=>rw[ZaM,Yn (by rw[ht];simp[h3])]
    have Y:((tk:Int) != 3)=false:=by rw[h3];rfl
    have HQ:=zh (zi j hvl);clear Z j hD K m hvl E ht h3;obtain⟨c0,c1,c2,c3,c4⟩:=c.out.P.cells;have cf:=c.out.P.frees;go_upto_region 8 with(go_at_call 47;(with_reducible refine X.out.mono ?_);rintro e ar ⟨rfl,i⟩;have d:=zh (c.out.below i);clear i)
    clear c0 c1 c2 c3 c4 cf;clear F Y aj X c;obtain⟨j,hvl⟩:=HQ.out;subst j;subst hvl;obtain⟨q0,q1,q2,q3,q4,q5⟩:=d.out.cells;dsimp only at q1 q2 q5;have qf:=d.out.free;obtain⟨z0,z1,z2,z3,z4,z5⟩:=d.out.zeros I.out;have zf:=d.out.rfree I.out;have so:=Zt;go_wp2_with fail;obtain⟨r0,r1,r2,r3,r4,r5⟩:=ZaJ (d.out.R I.out) (Yd Yf 0) (Yc M V Q) (Yc N U S) (Yc Yb 0 0) (Yd Yf (Ze L s)) (Yc O W T);obtain⟨o1,o2,o3⟩:=d.out.out I.out (Yd Yf 0) (Yc M V Q) (Yc N U S) (Yc Yb 0 0) (Yd Yf (Ze L s)) (Yc O W T);exact bodyPost_ret (v:=.agg #[Yd Yf 0,(Yc M V Q),(Yc N U S),Yc Yb 0 0,Yd Yf (Ze L s),(Yc O W T)]) (by simp[results,Tryz.results20,go_sem,so,r0,r1,r2,r3,r4,r5]) rfl ⟨((Yc M V Q),(Yc N U S),(Yc O W T)),rfl,o1,o2,o3⟩
   ·skip
    obtain⟨r,rfl⟩:∃r,gk=r+1:=⟨gk-1,by have:=K E;omega⟩
    have Y:((tk:Int) != 3)=true:=by simp;omega
    have an:R=if isM L [112,114,111,116,111] t then ZaM L ex st r (l++[(ZbX L t).1]) (ZbX L t).2 else if isM L [102,110] t then ZaM L ex st r (l++[(fnM L ex st t).1]) (fnM L ex st t).2 else ZaM L ex st r l (ZbY L 11 t):=by rw[Z,ZaM,Yo ⟨E,by rw[ht];exact h3⟩]
    have a:=zh (zi an (zi (K E) (zi m (zi hvl (zi E hD)))));clear Z an hD K m hvl E ht h3;obtain⟨c0,c1,c2,c3,c4⟩:=c.out.P.cells;have cf:=c.out.P.frees;go_upto_region 3 with(go_at_call 47;(with_reducible refine X.out.mono ?_);rintro e ar ⟨rfl,i⟩;have d:=zh (c.out.below i);clear i)
    clear c0 c1 c2 c3 c4 cf;clear F Y aj X c;have GT:=zh d.out;have n:=zh (ZdF D ar u C L t [112,114,111,116,111] d.out.P);by_cases B:isM L [112,114,111,116,111] t=true
    ·skip
     have HK:=zh (show R=ZaM L ex st r (l++[(ZbX L t).1]) (ZbX L t).2 by rw[a.out.1,Yo B]);rw[B]at n;clear B;go_upto_region 4 with(go_at_call 48;(with_reducible refine n.out.mono ?_);rintro e au ⟨rfl,i⟩;have o:=zh (d.out.below i);clear i)
     clear n;(try go_upto_region 4 with fail);refine ZdG 20 0 3 o.out (by have:=LB.out;(try simp only[Yj,Yk,Yl]);omega) (by intro _ _;go_simp) (fun wr hP=>ZnL D wr u C L t hP) (fun v5 bv b1 bz b9 bn A=>?_);(try dsimp only at A);have z:=zh A;clear A o;(try simp only[cl,Act.put]);go_wp2_with fail;go_roundg r
     case measure=>omega
     case rel=>
      have G:Gon L t (ZbX L t).2:=Zif GT.out.P.few.2.1 GT.out.P.lt;refine⟨_,_,_,_,HK.out,(Zab (f+1)).next _ _ a.out.2.2.2.2.2 G.toAdv,fun q=>?_,?_,?_,z.out⟩
      ·have:=G.on q;have:=a.out.2.1;have:PS.at_ (ZbX L t).2<L.length:=z.out.P.lt;omega
      ·have:=a.out.2.2.1;simp only[Yj,Yk,Yl];omega
      ·rw[List.map_append,a.out.2.2.2.1];rfl
    ·skip
     have al:isM L [112,114,111,116,111] t=false:=by simpa using B
     rw[al]at n;clear al;go_upto_region 5 with(go_at_call 48;(with_reducible refine n.out.mono ?_);rintro e au ⟨rfl,i⟩;have o:=zh (d.out.below i);clear i)
     clear n;have n:=zh (ZdF D au u C L t [102,110] o.out.P);by_cases hq:isM L [102,110] t=true
     ·skip
      have HK:=zh (show R=ZaM L ex st r (l++[(fnM L ex st t).1]) (fnM L ex st t).2 by rw[a.out.1,Yn B,Yo hq]);rw[hq]at n;clear B hq;go_upto_region 6 with(go_at_call 48;(with_reducible refine n.out.mono ?_);rintro e av ⟨rfl,i⟩;have y:=zh (o.out.below i);clear i)
      clear n;(try go_upto_region 6 with fail);refine ZdG 29 0 3 y.out (by have:=LB.out;(try simp only[Yj,Yk,Yl]);omega) (by intro _ _;go_simp) (fun wr hP=>Zrt D wr u C L t f ex st HB.out.1 hP a.out.2.2.2.2.2.1 a.out.2.2.2.2.2.2) (fun v5 bw b2 b0 ca b7 A=>?_);(try dsimp only at A);have aa:=zh A;clear A y;(try simp only[cl,Act.put]);go_wp2_with fail;go_roundg r
      case measure=>omega
      case rel=>
       have G:Gon L t (fnM L ex st t).2:=Zm3 GT.out.P.few.2.1 HB.out.2 a.out.2.2.2.2.2.1 a.out.2.2.2.2.2.2;refine⟨_,_,_,_,HK.out,(Zab (f+1)).next _ _ a.out.2.2.2.2.2 G.toAdv,fun q=>?_,?_,?_,aa.out⟩
       ·have:=G.on q;have:=a.out.2.1;have:PS.at_ (fnM L ex st t).2<L.length:=aa.out.P.lt;omega
       ·have:=a.out.2.2.1;simp only[Yj,Yk,Yl];omega
       ·rw[List.map_append,a.out.2.2.2.1];rfl
     ·skip
      have HK:=zh (show R=ZaM L ex st r l (ZbY L 11 t)by rw[a.out.1,Yn B,Yn hq]);have am:isM L [102,110] t=false:=by simpa using hq
      rw[am]at n;clear B hq am;go_upto_region 7 with(go_at_call 48;(with_reducible refine n.out.mono ?_);rintro e av ⟨rfl,i⟩;have y:=zh (o.out.below i);clear i)
      clear n;have X:=zh (Zdm D av u C L t 11 y.out.P);go_wp2_with (go_at_call 51;(with_reducible refine X.out.mono ?_);rintro e bn ⟨rfl,B,K⟩;have z:=zh (y.out.call B K);clear B K);go_roundg r
      case measure=>omega
      case rel=>
       have G:Gon L t (ZbY L 11 t):=ZeR (by decide) t;refine⟨_,_,_,_,HK.out,(Zab (f+1)).next _ _ a.out.2.2.2.2.2 G.toAdv,fun q=>?_,?_,a.out.2.2.2.1,z.out⟩
       ·have:=G.on q;have:=a.out.2.1;have:PS.at_ (ZbY L 11 t)<L.length:=z.out.P.lt;omega
       ·have:=a.out.2.2.1;omega
  ·skip
   have j:R=(l,t):=by
    rw[Z];cases gk with
    |zero=>rfl
    |succ r=>rw[ZaM,Yn (by simp[E])]
   have F:(t.err==0)=false:=by simp[E]
   have HQ:=zh (zi j hvl);clear Z j hD K m hvl E;obtain⟨c0,c1,c2,c3,c4⟩:=c.out.P.cells;have cf:=c.out.P.frees;go_upto_region 8 with fail;clear c0 c1 c2 c3 c4 cf;clear F;obtain⟨j,hvl⟩:=HQ.out;subst j;subst hvl;obtain⟨q0,q1,q2,q3,q4,q5⟩:=c.out.cells;dsimp only at q1 q2 q5;have qf:=c.out.free;obtain⟨z0,z1,z2,z3,z4,z5⟩:=c.out.zeros I.out;have zf:=c.out.rfree I.out;have so:=Zt;go_wp2_with fail;obtain⟨r0,r1,r2,r3,r4,r5⟩:=ZaJ (c.out.R I.out) (Yd Yf 0) (Yc M V Q) (Yc N U S) (Yc Yb 0 0) (Yd Yf (Ze L s)) (Yc O W T);obtain⟨o1,o2,o3⟩:=c.out.out I.out (Yd Yf 0) (Yc M V Q) (Yc N U S) (Yc Yb 0 0) (Yd Yf (Ze L s)) (Yc O W T);exact bodyPost_ret (v:=.agg #[Yd Yf 0,(Yc M V Q),(Yc N U S),Yc Yb 0 0,Yd Yf (Ze L s),(Yc O W T)]) (by simp[results,Tryz.results20,go_sem,so,r0,r1,r2,r3,r4,r5]) rfl ⟨((Yc M V Q),(Yc N U S),(Yc O W T)),rfl,o1,o2,o3⟩
end
section
open Go.RowKit
theorem Zom {t:Tok} {us:List Tok} (h:ZaE us):ZaE (t::us):=by
 refine⟨Nat.succ_pos _,?_⟩;have:=h.1;obtain⟨n,a⟩:∃n,us.length=n+1:=⟨us.length-1,by omega⟩
 have e:=h.2;unfold Zl at e⊢;rw[Yk,show us.length+1-1=(us.length-1)+1 by omega,List.getElem?_cons_succ];exact e
theorem Zr2:∀(m:Nat) (l:List UInt8) (a:Nat) (ts:List Tok),l.length<=m->Zby l a=.ok ts->ZaE ts/\ts.length<=l.length+1/\∀t∈ts,t.2.1.length<=l.length:=by
 intro m
 induction m with
 |zero=>
  intro l a ts hm h;obtain rfl:l=[]:=List.eq_nil_of_length_eq_zero (by omega);rw[Zh8]at h;injection h with h;subst h;exact⟨⟨by simp,rfl⟩,by simp,fun t b=>by rw[List.mem_singleton]at b;subst b;simp⟩
 |succ m j=>
  intro l a ts hm h;cases q:l.drop (ZU l)with
  |nil=>
   have d:ZU l=l.length:=by have:=List.length_drop (i:=ZU l) (l:=l);have:=Zgt l;rw[q]at *;simp at *;omega
   rw[ZgH d]at h;injection h with h;subst h;exact⟨⟨by simp,rfl⟩,by simp,fun t b=>by rw[List.mem_singleton]at b;subst b;simp⟩
  |cons c r=>
   have e:(c::r).length<=l.length:=by rw[<-q,List.length_drop];omega
   cases f:(Za9 (c::r)).2.2 with
   |false=>rw[ZgG q f]at h;cases h
   |true=>
    have n:=Zit f;rw[ZfO q f]at h;cases hr:Zby ((c::r).drop (Za9 (c::r)).2.1) (a+ZU l+(Za9 (c::r)).2.1)with
    |bad p=>rw[hr]at h;cases h
    |ok k=>
     rw[hr]at h;injection h with h;subst h;have hd:((c::r).drop (Za9 (c::r)).2.1).length<=l.length-1:=by rw[List.length_drop];omega
     obtain⟨g,i2,i3⟩:=j _ _ k (by omega) hr
     refine⟨Zom g,by rw[Yk];have:1<=l.length:=by(have:=e;rw[Yk]at this;omega)
                     omega,fun t b=>?_⟩
     rcases List.mem_cons.1 b with rfl|b
     ·dsimp only;rw[List.length_take];omega
     ·have:=i3 t b;omega
abbrev st7 (L:List Tok):PS->Tr×PS:=Zu L (ex7 L) 200
abbrev s07:PS:=⟨0,0,0,0⟩
abbrev Zc2 (L:List Tok):List Tr×PS:=ZaM L (ex7 L) (st7 L) (L.length+1) [] s07
abbrev ZcD (L:List Tok):Tr:=.mk 0 [] [] (Ze L s07) (Zc2 L).1
def Ze5 (l:Txt):List Nd×Int×Int:=
 let r:=Zee l
 if r.2.1≠0 then([],r.2.1,(r.2.2:Int))
 else if(Zc2 r.1).2.err≠0 then([],(Zc2 r.1).2.err,(Zc2 r.1).2.fat)
 else if 1500<(Zcz (ZcD r.1) []).length then([],13,0)
 else if 0<=Zch (ZcD r.1) 1 then([],12,Zch (ZcD r.1) 1)
 else(Zcz (ZcD r.1) [],0,0)
def ZpI (w:World) (r:List Nd×Int×Int) (e:Ending) (w':World):Prop:=∃v,e=.returned (.tuple #[v,.agg #[Yd Yf r.2.1,Yd Yf r.2.2]])/\Zi w' v r.1/\Below w.heap.size w w'
theorem LayS.nodes {w:World} {B:Nat} {v:Value} {j:List (NdV×Nd)} (h:LayS w B v j):Zi w v (j.map (·.2)):=by obtain⟨A,c,rfl⟩:=Zbj h.own;obtain⟨D,E,F⟩:=Zf5 h.own;refine⟨A,c,j,by rw[List.length_map],by rw[List.length_map];exact D,E,rfl,by rw[List.length_map];exact F,fun x hx=>?_⟩;obtain⟨i,G⟩:=List.mem_iff_getElem?.1 hx;obtain⟨e,f,g,C⟩:=h.each i x G;obtain⟨⟨K,J,I⟩,H⟩:=x;obtain⟨k,r,a⟩:=Zbj e;obtain⟨l,s,b⟩:=Zbj f;obtain⟨m,t,d⟩:=Zbj g;dsimp only at a b d e f g;subst a b d;obtain⟨n,a2,a3⟩:=Zf5 e;obtain⟨o,p,q⟩:=Zf5 f;obtain⟨u,y,z⟩:=Zf5 g;exact⟨⟨k,r,rfl,n,a2,a3,C⟩,⟨l,s,rfl,o,p,q⟩,⟨m,t,rfl,u,y,z⟩⟩
end
section
open Go.RowKit
theorem Zgn {X:World} {b:Nat} {ty:TypeId} {a0 a1:Value} (h:Zk X b ty #[a0,a1]) (a c:Value):(X.setCell ⟨b,0,Yb⟩ a).cell? ⟨b,0,Yb⟩=some a/\((X.setCell ⟨b,0,Yb⟩ a).setCell ⟨b,1,Yb⟩ c).cell? ⟨b,1,Yb⟩=some c:=
 ⟨by rw[(h.set 0 a).blk.cell 0];rfl,by rw[((h.set 0 a).set 1 c).blk.cell 1];rfl⟩
theorem Ze3 {w X:World} (h:Below w.heap.size w X) (a b:Value):Below w.heap.size w ((X.setCell ⟨w.heap.size,0,Yb⟩ a).setCell ⟨w.heap.size,1,Yb⟩ b):=
 (h.setCell (p:=⟨w.heap.size,0,Yb⟩) (Nat.le_refl _) _).setCell (p:=⟨w.heap.size,1,Yb⟩) (Nat.le_refl _) _
theorem LayS.past {w:World} {B b j:Nat} {v u:Value} {c:List (NdV×Nd)} {a0 a1:Value} (h:LayS w B v c) (a:Zk w b 28 #[a0,a1]):LayS (w.setCell ⟨b,j,Yb⟩ u) B v c:=
 ⟨ZbL h.own a (by decide),fun i x hx=>⟨ZbL (h.each i x hx).1 a (by decide),ZbL (h.each i x hx).2.1 a (by decide),ZbL (h.each i x hx).2.2.1 a (by decide),(h.each i x hx).2.2.2⟩,h.apart⟩
theorem ZgO (s:ByteArray) (w:World):Calls Tryz.prog 10 #[.string s] w (ZpI w (Ze5 s.data.toList)):=by
 obtain⟨R,T⟩:∃R,R=Ze5 s.data.toList:=⟨_,rfl⟩
 rw[<-T];obtain⟨L,m,K,d⟩:∃L m K,Zee s.data.toList=(L,m,K):=⟨_,_,_,rfl⟩
 unfold Ze5 at T;rw[d]at T;dsimp only at T;have a0:=below_alloc1 w (Yg #[Yd Yf 0,Yd Yf 0] 28);have T0:=Zk.start w #[Yd Yf 0,Yd Yf 0] 28;generalize cr:w.alloc (Yg #[Yd Yf 0,Yd Yf 0] 28)=wa at *;have RT:=zh (ZlZ s wa);rw[d]at RT;have H:=zh (zi a0 T0);have HR:=zh (zi T d);clear a0 T0 T d;go_enter Tryz.func10,Tryz.ntmps10;go_upto_region 2 with(go_at_call 19;(refine RT.out.mono ?_);rintro e w1 ⟨A,c,rfl,hT,hb⟩;have Q1:=zh (zi hT hb);clear hT hb)
 have a2:=below_alloc1 w1 (Yg #[Yd Yf m,Yd Yf (K:Int)] 28);have T2:=Zk.start w1 #[Yd Yf m,Yd Yf (K:Int)] 28;have D2:=H.out.1.trans ((Q1.out.2.trans (a2.mono Q1.out.2.size)).mono H.out.1.size);have Y:=(H.out.2.keep Q1.out.2).keep a2;have K2:=Q1.out.1.below a2;generalize cq:w1.alloc (Yg #[Yd Yf m,Yd Yf (K:Int)] 28)=h at *;have f0:=T2.blk.cell 0;have f1:=T2.blk.cell 1;have z0:=Y.blk.cell 0;have G:=Y.blk.cell 1;have zf:=Y.blk.free;simp only[List.getElem?_toArray,List.getElem?_cons_zero,List.getElem?_cons_succ]at f0 f1 z0 G;have so:=Zt;have I:=zh (zi D2 (zi Y K2));clear a2 T2 D2 Y K2;by_cases U:m≠0
 ·have e1:(m != 0)=true:=by simp[U]
  have o:R=([],m,(K:Int)):=by rw[HR.out.1,Yo U]
  clear U;subst o;go_upto_region 3 with fail;refine wp_region_still_tail 2 (by kernel_rfl) (by kernel_rfl) ?_;simp only[List.take_succ_cons,List.take_zero,List.drop_succ_cons,List.drop_zero]
  iterate 2 still_step
  refine wpStill_nil ?_;change wpList _ _ _ _ _ h.drew;go_wp2_with fail;obtain⟨E,F⟩:=Zgn I.out.2.1 (Yd Yf m) (Yd Yf (K:Int));exact bodyPost_ret (v:=.tuple #[Yc Yb 0 0,.agg #[(Yd Yf m),(Yd Yf (K:Int))]]) (by simp[results,Tryz.results10,go_sem,so,E,F]) rfl ⟨_,rfl,Zi.nil _,(Ze3 I.out.1 _ _).drew⟩
 ·have e0:m=0:=Classical.not_not.1 U;have e1:(m != 0)=false:=by simp[e0]
  have f:ZaE L/\L.length<=6001/\∀t∈L,t.2.1.length<=6000:=by
   have d:=HR.out.2;unfold Zee at d;by_cases h6:6000<s.data.toList.length
   ·rw[Yo h6]at d;injection d with _ d;injection d with d _;exfalso;omega
   ·rw[Yn h6]at d;cases hx:Zby s.data.toList 0 with
    |bad a=>
     rw[hx]at d;injection d with _ d;injection d with d _;exfalso;omega
    |ok ts=>
     rw[hx]at d;injection d with d _;subst d;obtain⟨q1,n,q3⟩:=Zr2 _ _ _ _ (Nat.le_refl _) hx;exact⟨q1,by omega,fun t P=>by have:=q3 t P;omega⟩
  have o:R=if(Zc2 L).2.err≠0 then([],(Zc2 L).2.err,(Zc2 L).2.fat)else if 1500<(Zcz (ZcD L) []).length then([],13,0)else if 0<=Zch (ZcD L) 1 then([],12,Zch (ZcD L) 1)else(Zcz (ZcD L) [],0,0):=by rw[HR.out.1,Yn U]
  have a3:=below_alloc1 h (Yg #[Yc A L.length c,Yd Yf 0,Yd Yf 0,Yd Yf 0,Yd Yf 0] 55);have P3:ParS h (h.alloc (Yg #[Yc A L.length c,Yd Yf 0,Yd Yf 0,Yd Yf 0,Yd Yf 0] 55)) h.heap.size (Yc A L.length c) L s07:=
   ⟨Zk.start h _ _,I.out.2.2,a3,Nat.le_refl _,f.1.1,⟨by omega,f.1,fun t P=>by have:=f.2.2 t P;omega⟩⟩
  have R3:=I.out.2.1.keep a3;generalize a8:h.alloc (Yg #[Yc A L.length c,Yd Yf 0,Yd Yf 0,Yd Yf 0,Yd Yf 0] 55)=w3 at *;have z:=ZhM f.1 (fun g=>Zip f.1 (g+1)) 200;have hd:Dp L 201 s07:=⟨f.1.1,fun _=>⟨by decide,by decide⟩,by decide,by decide⟩
  have CP:=zh (Zk9 h w3 h.heap.size (Yc A L.length c) L s07 200 (ex7 L) (st7 L) (Zkk z (ZjS h h.heap.size (Yc A L.length c) L f.1 200)) z P3 hd (by decide));have SZ:=zh (fun(e:(Zc2 L).2.err=0)=>Zfr (ex:=ex7 L) f.1 z (ZmA f.1 (fun g=>Zip f.1 (g+1)) (fun g s hs e=>Zmg f.1 (Zav 201) (Zck f.1 201) (Zie f.1 201) s (Zks hs) e) 200) (L.length+1) [] s07 ⟨hd,by decide⟩ e);have SR:szT (ZcD L)=ZaD (Zc2 L).1+1:=Zbz _ _ _ _ _;have ax:=zh SR;have aq:=zh f.2.1;have M3:=zh (zi (I.out.1.trans (a3.mono I.out.1.size)) (zi R3 a3));obtain⟨b,y⟩:∃b,b=ZcD L:=⟨_,rfl⟩
  obtain⟨n,B⟩:∃q,q=(Zc2 L).2:=⟨_,rfl⟩
  have V:Calls Tryz.prog 20 #[.pointer (some ⟨h.heap.size,0,Yb⟩)] w3 (Zcc h h.heap.size (Yc A L.length c) L w3 b n):=by rw[y,B];exact CP.out
  have W:=zh V;rw[<-y,<-B]at o;have H2:=zh o;have M:=zh (zi y B);clear CP V SR U e0 f P3 R3 z hd a3 o y B;go_upto_region 4 with fail;clear f0 f1 z0 G zf;go_upto_region 6 with(go_at_call 20;refine W.out.mono ?_;rintro e w4 ⟨xq,rfl,hp,P,hf⟩;have TS:=P.shape2;obtain⟨X1,x1,y1,Y1,i1,j1,Z1,k1,l1,rfl⟩:=TS;have Q4:=zh (zi hp (zi P hf));clear hp P hf;dsimp only[ZbF])
  clear W;have a5:=below_alloc1 w4 (Yg #[Yd Yf (Tr.kd b),Yc X1 x1 y1,Yc Y1 i1 j1,Yc Yb 0 0,Yd Yf (Tr.ps b),Yc Z1 k1 l1] 58);have T5:=Zk.start w4 #[Yd Yf (Tr.kd b),Yc X1 x1 y1,Yc Y1 i1 j1,Yc Yb 0 0,Yd Yf (Tr.ps b),Yc Z1 k1 l1] 58;have ab:w.heap.size≠h.heap.size:=fun e=>by have:=I.out.2.1.lt;omega
  have R5:=(Q4.out.2.2.tblk M3.out.2.1 ab).keep a5;have P5:=Q4.out.1.keep a5;have D5:Below w.heap.size w w4:=M3.out.1.grown Q4.out.2.2 M3.out.1.size (fun q hq=>by injection hq with hq;have:=I.out.2.1.lt;omega);have X:=D5.trans (a5.mono D5.size);have O5:=Q4.out.2.1.keep a5;generalize ba:w4.alloc (Yg #[Yd Yf (Tr.kd b),Yc X1 x1 y1,Yc Y1 i1 j1,Yc Yb 0 0,Yd Yf (Tr.ps b),Yc Z1 k1 l1] 58)=w5 at *;obtain⟨c0,c1,c2,c3,c4⟩:=P5.cells;have l:=zh (zi X (zi R5 (zi P5 (zi O5 T5))));clear a5 T5 R5 P5 D5 X O5 ab ba a8;by_cases hq:n.err≠0
  ·have e2:(n.err != 0)=true:=by simp[hq]
   have C:R=([],n.err,n.fat):=by rw[H2.out,Yo hq]
   clear hq;subst C;have z0:=l.out.2.1.blk.cell 0;have G:=l.out.2.1.blk.cell 1;have zf:=l.out.2.1.blk.free;simp only[List.getElem?_toArray,List.getElem?_cons_zero,List.getElem?_cons_succ]at z0 G;go_upto_region 7 with fail;refine wp_region_still_tail 5 (by kernel_rfl) (by kernel_rfl) ?_;simp only[List.take_succ_cons,List.take_zero,List.drop_succ_cons,List.drop_zero]
   iterate 5 still_step
   refine wpStill_nil ?_;change wpList _ _ _ _ _ w5.drew;go_wp2_with fail;obtain⟨E,F⟩:=Zgn l.out.2.1 (Yd Yf n.err) (Yd Yf n.fat);exact bodyPost_ret (v:=.tuple #[Yc Yb 0 0,.agg #[(Yd Yf n.err),(Yd Yf n.fat)]]) (by simp[results,Tryz.results10,go_sem,so,E,F]) rfl ⟨_,rfl,Zi.nil _,(Ze3 l.out.1 _ _).drew⟩
  ·have N:n.err=0:=Classical.not_not.1 hq;have e2:(n.err != 0)=false:=by simp[N]
   have C:R=if 1500<(Zcz b []).length then([],13,0)else if 0<=Zch b 1 then([],12,Zch b 1)else(Zcz b [],0,0):=by rw[H2.out,Yn hq]
   have a7:szT b<=10000:=by
    have s1:=SZ.out (by rw[<-M.out.2];exact N);have s2:=ax.out;have s3:=l.out.2.2.1.lt;have s4:=aq.out;rw[<-M.out.1]at s2;have s5:(Zc2 L).2.at_<L.length:=by rw[<-M.out.2];exact s3
    rw[ZaD]at s1;change ZaD (Zc2 L).1+s07.at_<=(Zc2 L).2.at_+0 at s1;omega
   have CL:=zh (Zqm l.out.2.2.2.1 w5 (Yc Yb 0 0) [] (Below.refl _ _) (LayS.nil _ _) (by simp only[Yl];omega));have t5:=fun i=>l.out.2.2.2.2.blk.cell i;have t0:=t5 0;have t1:=t5 1;have t2:=t5 2;have t3:=t5 3;have t4:=t5 4;have t6:=t5 5;simp only[List.getElem?_toArray,List.getElem?_cons_zero,List.getElem?_cons_succ]at t0 t1 t2 t3 t4 t6;have H3:=zh C;clear t5 hq N C a7;go_upto_region 9 with(go_at_call 21;(refine CL.out.mono ?_);rintro e w6 ⟨v6,p,rfl,ac,ag,ad,af⟩;have J:=zh (zi ac (zi ag (zi ad af)));clear ac ag ad af)
   have SV:=Zbj J.out.1.own;obtain⟨A6,c6,rfl⟩:=SV;have k:p.length=(Zcz b []).length:=by have:=congrArg List.length J.out.2.1;rw[List.length_map]at this;exact this
   have Z:=J.out.2.2.2.2 _ _ _ l.out.2.1 (by decide) (by decide);have T6:=J.out.2.2.2.2 _ _ _ l.out.2.2.2.2 (by decide) (by decide);have D6:=l.out.1.trans (J.out.2.2.1.mono l.out.1.size);have z0:=Z.blk.cell 0;have G:=Z.blk.cell 1;have zf:=Z.blk.free;simp only[List.getElem?_toArray,List.getElem?_cons_zero,List.getElem?_cons_succ]at z0 G;have Q:=zh (zi D6 (zi Z T6));clear D6 Z T6 CL t0 t1 t2 t3 t4 t6 c0 c1 c2 c3 c4;by_cases r:1500<p.length
   ·have j1:(1500:Int)<(p.length:Int):=by omega
    have D:R=([],13,0):=by rw[H3.out,Yo (by rw[<-k];exact r)]
    clear r k;subst D;go_wp2_with fail;obtain⟨E,F⟩:=Zgn Q.out.2.1 (Yd Yf 13) (Yd Yf 0);exact bodyPost_ret (v:=.tuple #[Yc Yb 0 0,.agg #[(Yd Yf 13),(Yd Yf 0)]]) (by simp[results,Tryz.results10,go_sem,so,E,F]) rfl ⟨_,rfl,Zi.nil _,Ze3 Q.out.1 _ _⟩
   ·have j1:¬((1500:Int)<(p.length:Int)):=by omega
    have D:R=if 0<=Zch b 1 then([],12,Zch b 1)else(Zcz b [],0,0):=by rw[H3.out,Yn (by rw[<-k];exact r)]
    have H4:=zh D;have CD:=zh (ZoY l.out.2.2.2.1 w6 1 J.out.2.2.1 (by decide) (by decide));have t5:=fun i=>Q.out.2.2.blk.cell i;have t0:=t5 0;have t1:=t5 1;have t2:=t5 2;have t3:=t5 3;have t4:=t5 4;have t6:=t5 5;simp only[List.getElem?_toArray,List.getElem?_cons_zero,List.getElem?_cons_succ]at t0 t1 t2 t3 t4 t6;clear t5 r k D z0 G zf;go_upto_region 12 with(go_at_call 22;(refine CD.out.mono ?_);rintro e w7 ⟨rfl,ae⟩;have Q7:=zh ae;clear ae)
    clear t0 t1 t2 t3 t4 t6 CD;have R7:=Q.out.2.1.keep Q7.out;have D7:=Q.out.1.trans (Q7.out.mono Q.out.1.size);have z0:=R7.blk.cell 0;have G:=R7.blk.cell 1;have zf:=R7.blk.free;simp only[List.getElem?_toArray,List.getElem?_cons_zero,List.getElem?_cons_succ]at z0 G;have S:=zh (zi D7 R7);clear D7 R7;by_cases hk:0<=Zch b 1
    ·have O:R=([],12,Zch b 1):=by rw[H4.out,Yo hk]
     subst O;go_wp2_with fail;obtain⟨E,F⟩:=Zgn S.out.2 (Yd Yf 12) (Yd Yf (Zch b 1));exact bodyPost_ret (v:=.tuple #[Yc Yb 0 0,.agg #[(Yd Yf 12),(Yd Yf (Zch b 1))]]) (by simp[results,Tryz.results10,go_sem,so,E,F]) rfl ⟨_,rfl,Zi.nil _,Ze3 S.out.1 _ _⟩
    ·have O:R=(Zcz b [],0,0):=by rw[H4.out,Yn hk]
     subst O;have L7:=zh ((((J.out.1.below Q7.out).past (j:=0) (u:=Yd Yf 0) S.out.2).past (j:=1) (u:=Yd Yf 0) (by simpa using S.out.2.set 0 (Yd Yf 0))).nodes);rw[J.out.2.1]at L7;go_wp2_with fail;obtain⟨E,F⟩:=Zgn S.out.2 (Yd Yf 0) (Yd Yf 0);exact bodyPost_ret (v:=.tuple #[Yc A6 p.length c6,.agg #[(Yd Yf 0),(Yd Yf 0)]]) (by simp[results,Tryz.results10,go_sem,so,E,F]) rfl ⟨_,rfl,L7.out,Ze3 S.out.1 _ _⟩
end
end Go.Proofs.YtfbepcelkijgkaaGreatDoor
