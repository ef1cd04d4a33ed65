import Derived.Test.YtfbepcelkijgkaaGreatDoorQBB
set_option maxRecDepth 100000
set_option maxHeartbeats 8000000
open Option renaming some → Ya, none → Yb
open Go.Value renaming slice → Yc, int → Yd
open Go.IntKind renaming i64 → Yf
open Go.Obj renaming cells → Yg
open Go renaming World → Yh, Value → Yi
namespace Go.Proofs.YtfbepcelkijgkaaGreatDoor
section
open Go.RowKit
theorem Zfp {w:Yh} {v:Yi} {ns:List Nd} (E:Zi w v ns) {q:Nat} (hq:q<ns.length):∃(d:Nd) (a:Addr) (s:Nat) (h b i:Option Addr) (j f k:Nat),ns[q]? = Ya d/\v=Yc (Ya a) ns.length s/\ZaX w (.slice b d.nums.length f) d.nums/\∀wr:Yh,Below w.heap.size w wr ->
  wr.cell? (a.add (q*5))=Ya (Yd Yf d.kind)/\wr.cell? ⟨(a.add (q*5)).block,(a.add (q*5)).off+1,Yb⟩=Ya (.slice h d.words.length j)/\wr.cell? ⟨(a.add (q*5)).block,(a.add (q*5)).off+2,Yb⟩=Ya (.slice b d.nums.length f)/\wr.cell? ⟨(a.add (q*5)).block,(a.add (q*5)).off+3,Yb⟩=Ya (.slice i d.kids.length k)/\wr.cell? ⟨(a.add (q*5)).block,(a.add (q*5)).off+4,Yb⟩=Ya (Yd Yf d.pos):=by
 obtain⟨A,c,H,rfl,I,J,o,p,z⟩:=E;obtain⟨y,g⟩:∃y,H[q]? = Ya y:=⟨_,Ym (by have:=congrArg List.length o;rw[List.length_map]at this;omega)⟩
 have hd:ns[q]? = Ya y.2:=by rw[<-o,List.getElem?_map,g];rfl
 obtain⟨a,rfl,_⟩:=Zan p (Below.refl _ _) g (by omega);obtain⟨⟨h,j,B,_⟩,⟨b,f,C,G⟩,i,k,D,_⟩:=z y (List.mem_of_getElem? g);refine⟨y.2,a,c,h,b,i,j,f,k,hd,rfl,⟨b,f,rfl,G⟩,fun wr F=>?_⟩;obtain⟨r,e,t,l,m,n,u⟩:=Zan p F g (by omega);injection e with e;subst e;rw[B]at l;rw[C]at m;rw[D]at n;exact⟨t,l,m,n,u⟩
theorem Zg8 {e g y b c:Int} {i:List (List UInt8)} {a f:List Int} (d:a=[y,b,c]) (h:ZcV ⟨e,i,a,f,g⟩=true):1<=b/\b<1000000000000000000/\1<=c/\c<1000000000000000000:=by subst d;unfold ZcV at h;simp only[Bool.and_eq_true,decide_eq_true_eq]at h;exact⟨h.1.1.1,h.1.1.2,h.1.2,h.2⟩
theorem ZnZ {ns:List Nd} {j y m n:Int} {i:List (List UInt8)} {g h:List Int} (t:Zy ⟨13,i,g,h,j⟩ 2 2=true) (l:g=[y,m,n]) (w:1<=y) (q:y<=4) (s:ZcV ⟨13,i,g,h,j⟩=true) (r:Zbu ns ⟨13,i,g,h,j⟩ 0 1 1=true):ZD ns ⟨13,i,g,h,j⟩=true:=by obtain⟨a,b,c⟩:=Zbk t;obtain⟨o,u,p,v⟩:=Zg8 l s;obtain⟨d,e,f⟩:=ZdE r;obtain⟨x,rfl⟩:=List.length_eq_one_iff.mp (show h.length=1 by omega);subst l;refine ZbC a (by simp[Zb6];omega) ?_;show(Zq _ 2 3&&(!(y==0)&&decide (y<=4)&&(decide (1<=m)&&decide (1<=n))&&(Zj ns [x] [isB [7]]||Zj ns [x] [isB [6],isB [7]]&&ZY ns (atI [x] 0)==2)))=true;rw[Zbv (a:=2) (b:=3) (by show i.length=2;omega) rfl,ZeQ (k:=x) (all_cons d).1,show(y==0)=false by rw[beq_eq_false_iff_ne];omega,decide_eq_true q,decide_eq_true o,decide_eq_true p];rfl
theorem Zn0 {ns:List Nd} {m y s t:Int} {i:List (List UInt8)} {g h:List Int} {q:Nat} {e:Nd} (D:Zy ⟨13,i,g,h,m⟩ 2 2=true) (r:g=[y,s,t]) (I:1<=y) (w:y<=4) (B:ZcV ⟨13,i,g,h,m⟩=true) (E:h[0]? = Ya (q:Int)) (p:ns[q]? = Ya e) (z:e.kind=6) (C:e.nums=[2]) (A:Zbu ns ⟨13,i,g,h,m⟩ 1 1 1=true):ZD ns ⟨13,i,g,h,m⟩=true:=by
 obtain⟨a,b,c⟩:=Zbk D;obtain⟨u,G,v,H⟩:=Zg8 r B;obtain⟨d,F,f⟩:=ZdE A;obtain⟨x,j,rfl⟩:=Zgi (l:=h) (by omega);obtain rfl:x=(q:Int):=by simpa using E
 subst r;refine ZbC a (by simp[Zb6];omega) ?_;show(Zq _ 2 3&&(!(y==0)&&decide (y<=4)&&(decide (1<=s)&&decide (1<=t))&&(Zj ns [(q:Int),j] [isB [7]]||Zj ns [(q:Int),j] [isB [6],isB [7]]&&ZY ns (atI [(q:Int),j] 0)==2)))=true;have n:isB [6] (Zp ns (q:Int))=true:=by rw[Zdk p,z];rfl
 have o:ZY ns (atI [(q:Int),j] 0)=2:=Zge (k:=q) p C;rw[Zbv (a:=2) (b:=3) (by show i.length=2;omega) rfl,Zgg (k:=(q:Int)) (l:=j) n (all_cons d).1,o,show(y==0)=false by rw[beq_eq_false_iff_ne];omega,decide_eq_true w,decide_eq_true u,decide_eq_true v,Bool.or_comm];rfl
theorem ZkS (w:Yh) (v:Yi) (ns:List Nd) (va vb vc:Yi) (r:List (List UInt8)) (a j:List Int) (p:Int) (hN:Zi w v ns) (hx:ZS w ((va,vb,vc),⟨13,r,a,j,p⟩)) (hk:Zaw j ns.length) :
  Calls Tryz.prog 30 #[v,ndV ((va,vb,vc),⟨13,r,a,j,p⟩)] w fun e w'=>OkB (ZD ns ⟨13,r,a,j,p⟩=true) e/\Below w.heap.size w w':=by
 obtain⟨h1,h2,h3⟩:=id hx;dsimp only at h1 h2 h3;obtain⟨WR,bu,bf,aq,be⟩:=hd6 hN hx hk;have HN:=zh hN;have cb:=zh h3;have KI:=zh hk;obtain⟨P,Q,rfl,_⟩:=h1;obtain⟨A2,R,rfl,_,_,bv⟩:=h2;have KL:=zh h3.len;obtain⟨A3,S,rfl,_⟩:=h3;have R2:=zh bv;unfold ndV at WR bu bf aq be⊢;dsimp only at WR bu bf aq be⊢;have c:=zh (Zcl w (Yd Yf 13) (Yc P r.length Q) (Yc A2 a.length R) (Yc A3 j.length S) (Yd Yf p));have bt:=Zcg w (Yd Yf 13) (Yc P r.length Q) (Yc A2 a.length R) (Yc A3 j.length S) (Yd Yf p);have s:=zh bt;obtain⟨⟨g0,g1,g2,g3,g4⟩,_⟩:=bt;clear bv hx hN hk;have WF:=zh (show ∀wr:Yh,Below w.heap.size w wr->Calls Tryz.prog 26 #[.agg #[Yd Yf 13,Yc P r.length Q,Yc A2 a.length R,Yc A3 j.length S,Yd Yf p],Yd Yf 2,Yd Yf 2] wr fun e w'=>e=.returned (.bool (Zy ⟨13,r,a,j,p⟩ 2 2))/\Below wr.heap.size wr w' from fun wr I=>WR.out wr I 2 2);generalize b0:Zy ⟨13,r,a,j,p⟩ 2 2=W at WF;have QW:=zh b0;clear b0;by_cases qn:a.length=3
 ·have tn:((a.length:Int)==3)=true:=by rw[beq_iff_eq];omega
  have cr:((a.length:Int) != 3)=false:=by rw[bne,tn];rfl
  have d1:(0:Int)<(a.length:Int):=by omega
  have d2:(1:Int)<(a.length:Int):=by omega
  have d3:(2:Int)<(a.length:Int):=by omega
  obtain⟨y,ya,yb,hy⟩:=Zhf qn;obtain⟨f,rfl,_⟩:=ints_at (x:=y) R2.out (Za s.out) (k:=0) (by rw[hy];rfl) (by omega)
  have E:=zh (fun(wr:Yh) (I:Below w.heap.size w wr)=>show wr.cell? f=Ya (Yd Yf y)/\wr.cell? ⟨f.block,f.off+1,Yb⟩=Ya (Yd Yf ya)/\wr.cell? ⟨f.block,f.off+2,Yb⟩=Ya (Yd Yf yb)from by
   obtain⟨a2,h,q2⟩:=ints_at (x:=y) R2.out I (k:=0) (by rw[hy];rfl) (by omega);injection h with h;subst h;obtain⟨a2,h,q3⟩:=ints_at (x:=ya) R2.out I (k:=1) (by rw[hy];rfl) (by omega);injection h with h;subst h;obtain⟨a2,h,q4⟩:=ints_at (x:=yb) R2.out I (k:=2) (by rw[hy];rfl) (by omega);injection h with h;subst h;rw[show f.add 0=f by unfold Addr.add;simp]at q2;rw[show f.add 1=⟨f.block,f.off+1,Yb⟩by unfold Addr.add;simp]at q3;rw[show f.add 2=⟨f.block,f.off+2,Yb⟩by unfold Addr.add;simp]at q4
   exact⟨q2,q3,q4⟩)
  obtain⟨d7,d8,d9⟩:=E.out _ (Za s.out);have HY:=zh hy;have hl:=zh qn;clear hy qn;by_cases qy:1<=y
  ·by_cases qz:y<=4
   ·have FF:=zh (show ∀wr:Yh,Below w.heap.size w wr->Calls Tryz.prog 59 #[.agg #[Yd Yf 13,Yc P r.length Q,Yc (Ya f) a.length R,Yc A3 j.length S,Yd Yf p]] wr fun e w'=>e=.returned (.bool (ZcV ⟨13,r,a,j,p⟩))/\Below wr.heap.size wr w' from fun wr I=>be.out hl wr I);generalize bz:ZcV ⟨13,r,a,j,p⟩=F at FF;have QF:=zh bz;clear bz;by_cases qk:0<j.length
    ·have tk:((j.length:Int)==0)=false:=by rw[beq_eq_false_iff_ne];omega
     have QK:=zh qk;obtain⟨z,hz⟩:∃z,j[0]? = Ya z:=⟨_,Ym (by have:=QK.out;omega)⟩
     have cm:=KI.out z (List.mem_of_getElem? hz);obtain⟨q,rfl⟩:∃q:Nat,z=q:=⟨z.toNat,by omega⟩
     obtain⟨d,ad,cp,B1,B2,B3,e1,h,H,hd,rfl,hI,hc⟩:=Zfp HN.out (q:=q) (by omega);have NQ:=zh hc;have NI:=zh hI;clear hc hI;obtain⟨dd,dl,ev,_,_,R3⟩:=cb.out;injection ev with ea _ ec;subst ea ec;obtain⟨C,rfl,z1⟩:=ints_at R3 (Za s.out) hz (by have:=QK.out;omega);have ZC:=zh (fun(wr:Yh) (I:Below w.heap.size w wr)=>show wr.cell? C=Ya (Yd Yf (q:Int))from by obtain⟨a2,h,q2⟩:=ints_at R3 I hz (by have:=QK.out;omega);injection h with h;subst h;rwa[show C.add 0=C by unfold Addr.add;simp]at q2);have bg:kdR ns ⟨13,r,a,j,p⟩ 0=d.kind:=by unfold kdR;dsimp only;rw[Zb9 hz,Zdk hd]
     have tq:(q:Int)<(ns.length:Int):=by omega
     have d4:(0:Int)<=(q:Int):=by omega
     have d0:(0:Int)<(j.length:Int):=by have:=QK.out;omega
     have ZG:=zh (show ∀wr:Yh,Below w.heap.size w wr->Calls Tryz.prog 29 #[Yc (Ya ad) ns.length cp,.agg #[Yd Yf 13,Yc P r.length Q,Yc (Ya f) a.length R,Yc (Ya C) j.length S,Yd Yf p],Yd Yf 0] wr fun e w'=>e=.returned (Yd Yf d.kind)/\Below wr.heap.size wr w' from fun wr I=>by rw[<-bg];exact bf.out wr I 0 (by have:=QK.out;omega));have HD:=zh (zi hd (zi hz bg));clear hd hz bg cm R3 z1;obtain⟨Z,dw,T,A,dp⟩:=d;dsimp only at NQ NI ZG HD;cases z6:(Z==6)
     ·have BF:=zh (show ∀wr:Yh,Below w.heap.size w wr->Calls Tryz.prog 58 #[Yc (Ya ad) ns.length cp,.agg #[Yd Yf 13,Yc P r.length Q,Yc (Ya f) a.length R,Yc (Ya C) j.length S,Yd Yf p],Yd Yf 0,Yd Yf 1,Yd Yf 1] wr fun e w'=>e=.returned (.bool (Zbu ns ⟨13,r,a,j,p⟩ 0 1 1))/\Below wr.heap.size wr w' from fun wr I=>aq.out wr I 0 1 1 (by omega) (by omega));generalize ah:Zbu ns ⟨13,r,a,j,p⟩ 0 1 1=B at BF;have QB:=zh ah;clear ah;go_enter Tryz.func30,Tryz.ntmps30;go_upto_region 1 with fail;generalize(w.alloc (Yg #[Yd Yf 13,Yc P r.length Q,Yc (Ya f) a.length R,Yc (Ya C) j.length S,Yd Yf p] 37))=O at *
      go_wp2_with (first
       |(go_at_call 26;(with_reducible refine(WF.out O (Za s.out)).mono ?_);rintro h D ⟨rfl,b⟩;have g:=zh (c.out _ _ b s.out);obtain⟨⟨J,K,L,M,N⟩,_⟩:=id g.out;obtain⟨V,X,Y⟩:=E.out D (Za g.out);clear b;cases W)
       |(go_at_call 59;(with_reducible refine(FF.out D (Za g.out)).mono ?_);rintro H U ⟨rfl,i⟩;have l:=zh (c.out _ _ i g.out);obtain⟨⟨ai,aj,ak,al,am⟩,_⟩:=id l.out;obtain⟨an,ao,ap⟩:=E.out U (Za l.out);clear i;cases F)
       |(go_at_call 29;(with_reducible refine(ZG.out U (Za l.out)).mono ?_);rintro e4 m ⟨rfl,o⟩;have n:=zh (c.out _ _ o l.out);obtain⟨⟨ar,au,av,aw,ax⟩,_⟩:=id n.out;obtain⟨a8,ba,bb⟩:=E.out m (Za n.out);obtain⟨ay,az,a1,a6,a7⟩:=NQ.out m (Za n.out);have z4:=ZC.out m (Za n.out);clear o)
       |(go_at_call 58;(with_reducible refine(BF.out m (Za n.out)).mono ?_);rintro e5 w5 ⟨rfl,bx⟩;have K5:=zh (c.out _ _ bx n.out);obtain⟨⟨dr,ds,dt,du,dv⟩,_⟩:=id K5.out;obtain⟨eb,ed,ee⟩:=E.out w5 (Za K5.out);clear bx;cases B))
      all_goals go_ret
      all_goals first
       |exact⟨Zbc (ZnZ QW.out HY.out qy qz QF.out QB.out),Za K5.out⟩
       |exact⟨Zh,Za K5.out⟩
       |exact⟨Zh,Za n.out⟩
       |exact⟨Zh,Za l.out⟩
       |exact⟨Zh,Za g.out⟩
       |exact⟨Zh,Za s.out⟩
     ·have D6:=zh (show Z=6 by simpa using z6);by_cases qd:T.length=1
      ·have td:((T.length:Int)==1)=true:=by rw[beq_iff_eq];omega
       have dz:(0:Int)<(T.length:Int):=by omega
       obtain⟨u,hu⟩:=List.length_eq_one_iff.mp qd;obtain⟨de,dm,ev,_,_,RU⟩:=NI.out;injection ev with ea _ ec;subst ea ec;obtain⟨t,rfl,_⟩:=ints_at (x:=u) RU (Below.refl _ _) (k:=0) (by rw[hu];rfl) (by omega);have UC:=zh (fun(wr:Yh) (I:Below w.heap.size w wr)=>show wr.cell? t=Ya (Yd Yf u)from by obtain⟨a2,h,q2⟩:=ints_at (x:=u) RU I (k:=0) (by rw[hu];rfl) (by omega);injection h with h;subst h;rwa[show t.add 0=t by unfold Addr.add;simp]at q2);have HU:=zh hu;clear hu qd RU;cases z2:(u==2)
       ·go_enter Tryz.func30,Tryz.ntmps30;go_upto_region 1 with fail;generalize(w.alloc (Yg #[Yd Yf 13,Yc P r.length Q,Yc (Ya f) a.length R,Yc (Ya C) j.length S,Yd Yf p] 37))=O at *
        go_upto_region 23 with(first
         |(go_at_call 26;(with_reducible refine(WF.out O (Za s.out)).mono ?_);rintro h D ⟨rfl,b⟩;have g:=zh (c.out _ _ b s.out);obtain⟨⟨J,K,L,M,N⟩,_⟩:=id g.out;obtain⟨V,X,Y⟩:=E.out D (Za g.out);clear b;cases W)
         |(go_at_call 59;(with_reducible refine(FF.out D (Za g.out)).mono ?_);rintro H U ⟨rfl,i⟩;have l:=zh (c.out _ _ i g.out);obtain⟨⟨ai,aj,ak,al,am⟩,_⟩:=id l.out;obtain⟨an,ao,ap⟩:=E.out U (Za l.out);clear i;cases F)
         |(go_at_call 29;(with_reducible refine(ZG.out U (Za l.out)).mono ?_);rintro e4 m ⟨rfl,o⟩;have n:=zh (c.out _ _ o l.out);obtain⟨⟨ar,au,av,aw,ax⟩,_⟩:=id n.out;obtain⟨a8,ba,bb⟩:=E.out m (Za n.out);obtain⟨ay,az,a1,a6,a7⟩:=NQ.out m (Za n.out);have z4:=ZC.out m (Za n.out);clear o))
        all_goals (try first|(go_ret;exact⟨Zh,Za g.out⟩)|(go_ret;exact⟨Zh,Za l.out⟩))
        have a5:=below_alloc1 m (Yg #[Yd Yf Z,Yc B1 dw.length e1,Yc (Ya t) T.length h,Yc B3 A.length H,Yd Yf dp] 37);have G:=zh (c.out _ _ a5 n.out);have n9:=(Blk.start m #[Yd Yf Z,Yc B1 dw.length e1,Yc (Ya t) T.length h,Yc B3 A.length H,Yd Yf dp] 37).cell 2;have u9:=UC.out _ (Za G.out);obtain⟨⟨bh,bi,bj,bk,bl⟩,_⟩:=id G.out;generalize m.alloc (Yg #[Yd Yf Z,Yc B1 dw.length e1,Yc (Ya t) T.length h,Yc B3 A.length H,Yd Yf dp] 37)=w9 at *;go_wp2_with fail;go_ret;exact⟨Zh,Za G.out⟩
       ·have U2:=zh (show u=2 by simpa using z2);have BF:=zh (show ∀wr:Yh,Below w.heap.size w wr->Calls Tryz.prog 58 #[Yc (Ya ad) ns.length cp,.agg #[Yd Yf 13,Yc P r.length Q,Yc (Ya f) a.length R,Yc (Ya C) j.length S,Yd Yf p],Yd Yf 1,Yd Yf 1,Yd Yf 1] wr fun e w'=>e=.returned (.bool (Zbu ns ⟨13,r,a,j,p⟩ 1 1 1))/\Below wr.heap.size wr w' from fun wr I=>aq.out wr I 1 1 1 (by have:=QK.out;omega) (by omega));generalize ah:Zbu ns ⟨13,r,a,j,p⟩ 1 1 1=B at BF;have QB:=zh ah;clear ah;cases B
        ·go_enter Tryz.func30,Tryz.ntmps30;go_upto_region 1 with fail;generalize(w.alloc (Yg #[Yd Yf 13,Yc P r.length Q,Yc (Ya f) a.length R,Yc (Ya C) j.length S,Yd Yf p] 37))=O at *
         go_upto_region 23 with(first
          |(go_at_call 26;(with_reducible refine(WF.out O (Za s.out)).mono ?_);rintro h D ⟨rfl,b⟩;have g:=zh (c.out _ _ b s.out);obtain⟨⟨J,K,L,M,N⟩,_⟩:=id g.out;obtain⟨V,X,Y⟩:=E.out D (Za g.out);clear b;cases W)
          |(go_at_call 59;(with_reducible refine(FF.out D (Za g.out)).mono ?_);rintro H U ⟨rfl,i⟩;have l:=zh (c.out _ _ i g.out);obtain⟨⟨ai,aj,ak,al,am⟩,_⟩:=id l.out;obtain⟨an,ao,ap⟩:=E.out U (Za l.out);clear i;cases F)
          |(go_at_call 29;(with_reducible refine(ZG.out U (Za l.out)).mono ?_);rintro e4 m ⟨rfl,o⟩;have n:=zh (c.out _ _ o l.out);obtain⟨⟨ar,au,av,aw,ax⟩,_⟩:=id n.out;obtain⟨a8,ba,bb⟩:=E.out m (Za n.out);obtain⟨ay,az,a1,a6,a7⟩:=NQ.out m (Za n.out);have z4:=ZC.out m (Za n.out);clear o))
         all_goals (try first|(go_ret;exact⟨Zh,Za g.out⟩)|(go_ret;exact⟨Zh,Za l.out⟩))
         have a5:=below_alloc1 m (Yg #[Yd Yf Z,Yc B1 dw.length e1,Yc (Ya t) T.length h,Yc B3 A.length H,Yd Yf dp] 37);have G:=zh (c.out _ _ a5 n.out);have n9:=(Blk.start m #[Yd Yf Z,Yc B1 dw.length e1,Yc (Ya t) T.length h,Yc B3 A.length H,Yd Yf dp] 37).cell 2;have u9:=UC.out _ (Za G.out);obtain⟨⟨bh,bi,bj,bk,bl⟩,_⟩:=id G.out;generalize m.alloc (Yg #[Yd Yf Z,Yc B1 dw.length e1,Yc (Ya t) T.length h,Yc B3 A.length H,Yd Yf dp] 37)=w9 at *;go_wp2_with (go_at_call 58;(with_reducible refine(BF.out w9 (Za G.out)).mono ?_);rintro ea wa ⟨rfl,ag⟩;have BA:=zh ((Za G.out).trans (ag.mono (Za G.out).size));clear ag);go_ret;exact⟨Zh,BA.out⟩
        ·go_enter Tryz.func30,Tryz.ntmps30;go_upto_region 1 with fail;generalize(w.alloc (Yg #[Yd Yf 13,Yc P r.length Q,Yc (Ya f) a.length R,Yc (Ya C) j.length S,Yd Yf p] 37))=O at *
         go_upto_region 23 with(first
          |(go_at_call 26;(with_reducible refine(WF.out O (Za s.out)).mono ?_);rintro h D ⟨rfl,b⟩;have g:=zh (c.out _ _ b s.out);obtain⟨⟨J,K,L,M,N⟩,_⟩:=id g.out;obtain⟨V,X,Y⟩:=E.out D (Za g.out);clear b;cases W)
          |(go_at_call 59;(with_reducible refine(FF.out D (Za g.out)).mono ?_);rintro H U ⟨rfl,i⟩;have l:=zh (c.out _ _ i g.out);obtain⟨⟨ai,aj,ak,al,am⟩,_⟩:=id l.out;obtain⟨an,ao,ap⟩:=E.out U (Za l.out);clear i;cases F)
          |(go_at_call 29;(with_reducible refine(ZG.out U (Za l.out)).mono ?_);rintro e4 m ⟨rfl,o⟩;have n:=zh (c.out _ _ o l.out);obtain⟨⟨ar,au,av,aw,ax⟩,_⟩:=id n.out;obtain⟨a8,ba,bb⟩:=E.out m (Za n.out);obtain⟨ay,az,a1,a6,a7⟩:=NQ.out m (Za n.out);have z4:=ZC.out m (Za n.out);clear o))
         all_goals (try first|(go_ret;exact⟨Zh,Za g.out⟩)|(go_ret;exact⟨Zh,Za l.out⟩))
         have a5:=below_alloc1 m (Yg #[Yd Yf Z,Yc B1 dw.length e1,Yc (Ya t) T.length h,Yc B3 A.length H,Yd Yf dp] 37);have G:=zh (c.out _ _ a5 n.out);have n9:=(Blk.start m #[Yd Yf Z,Yc B1 dw.length e1,Yc (Ya t) T.length h,Yc B3 A.length H,Yd Yf dp] 37).cell 2;have u9:=UC.out _ (Za G.out);obtain⟨⟨bh,bi,bj,bk,bl⟩,_⟩:=id G.out;generalize m.alloc (Yg #[Yd Yf Z,Yc B1 dw.length e1,Yc (Ya t) T.length h,Yc B3 A.length H,Yd Yf dp] 37)=w9 at *;go_wp2_with (go_at_call 58;(with_reducible refine(BF.out w9 (Za G.out)).mono ?_);rintro ea wa ⟨rfl,ag⟩;have BA:=zh ((Za G.out).trans (ag.mono (Za G.out).size));clear ag);go_ret;exact⟨Zbc (Zn0 QW.out HY.out qy qz QF.out HD.out.2.1 HD.out.1 D6.out (HU.out.trans (by rw[U2.out])) QB.out),BA.out⟩
      ·have td:((T.length:Int)==1)=false:=by rw[beq_eq_false_iff_ne];omega
       go_enter Tryz.func30,Tryz.ntmps30;go_upto_region 1 with fail;generalize(w.alloc (Yg #[Yd Yf 13,Yc P r.length Q,Yc (Ya f) a.length R,Yc (Ya C) j.length S,Yd Yf p] 37))=O at *
       go_upto_region 23 with(first
        |(go_at_call 26;(with_reducible refine(WF.out O (Za s.out)).mono ?_);rintro h D ⟨rfl,b⟩;have g:=zh (c.out _ _ b s.out);obtain⟨⟨J,K,L,M,N⟩,_⟩:=id g.out;obtain⟨V,X,Y⟩:=E.out D (Za g.out);clear b;cases W)
        |(go_at_call 59;(with_reducible refine(FF.out D (Za g.out)).mono ?_);rintro H U ⟨rfl,i⟩;have l:=zh (c.out _ _ i g.out);obtain⟨⟨ai,aj,ak,al,am⟩,_⟩:=id l.out;obtain⟨an,ao,ap⟩:=E.out U (Za l.out);clear i;cases F)
        |(go_at_call 29;(with_reducible refine(ZG.out U (Za l.out)).mono ?_);rintro e4 m ⟨rfl,o⟩;have n:=zh (c.out _ _ o l.out);obtain⟨⟨ar,au,av,aw,ax⟩,_⟩:=id n.out;obtain⟨a8,ba,bb⟩:=E.out m (Za n.out);obtain⟨ay,az,a1,a6,a7⟩:=NQ.out m (Za n.out);have z4:=ZC.out m (Za n.out);clear o))
       all_goals (try first|(go_ret;exact⟨Zh,Za g.out⟩)|(go_ret;exact⟨Zh,Za l.out⟩))
       have a5:=below_alloc1 m (Yg #[Yd Yf Z,Yc B1 dw.length e1,Yc B2 T.length h,Yc B3 A.length H,Yd Yf dp] 37);have G:=zh (c.out _ _ a5 n.out);have n9:=(Blk.start m #[Yd Yf Z,Yc B1 dw.length e1,Yc B2 T.length h,Yc B3 A.length H,Yd Yf dp] 37).cell 2;obtain⟨⟨bh,bi,bj,bk,bl⟩,_⟩:=id G.out;generalize m.alloc (Yg #[Yd Yf Z,Yc B1 dw.length e1,Yc B2 T.length h,Yc B3 A.length H,Yd Yf dp] 37)=w9 at *;go_wp2_with fail;go_ret;exact⟨Zh,Za G.out⟩
    ·have tk:((j.length:Int)==0)=true:=by rw[beq_iff_eq];omega
     go_enter Tryz.func30,Tryz.ntmps30;go_upto_region 1 with fail;generalize(w.alloc (Yg #[Yd Yf 13,Yc P r.length Q,Yc (Ya f) a.length R,Yc A3 j.length S,Yd Yf p] 37))=O at *
     go_wp2_with (first
      |(go_at_call 26;(with_reducible refine(WF.out O (Za s.out)).mono ?_);rintro h D ⟨rfl,b⟩;have g:=zh (c.out _ _ b s.out);obtain⟨⟨J,K,L,M,N⟩,_⟩:=id g.out;obtain⟨V,X,Y⟩:=E.out D (Za g.out);clear b;cases W)
      |(go_at_call 59;(with_reducible refine(FF.out D (Za g.out)).mono ?_);rintro H U ⟨rfl,i⟩;have l:=zh (c.out _ _ i g.out);obtain⟨⟨ai,aj,ak,al,am⟩,_⟩:=id l.out;obtain⟨an,ao,ap⟩:=E.out U (Za l.out);clear i;cases F))
     all_goals go_ret
     all_goals first
      |exact⟨Zh,Za l.out⟩
      |exact⟨Zh,Za g.out⟩
      |exact⟨Zh,Za s.out⟩
   ·have tz:4<y:=by omega
    go_enter Tryz.func30,Tryz.ntmps30;go_upto_region 1 with fail;generalize(w.alloc (Yg #[Yd Yf 13,Yc P r.length Q,Yc (Ya f) a.length R,Yc A3 j.length S,Yd Yf p] 37))=O at *
    go_wp2_with (first
     |(go_at_call 26;(with_reducible refine(WF.out O (Za s.out)).mono ?_);rintro h D ⟨rfl,b⟩;have g:=zh (c.out _ _ b s.out);obtain⟨⟨J,K,L,M,N⟩,_⟩:=id g.out;obtain⟨V,X,Y⟩:=E.out D (Za g.out);clear b;cases W))
    all_goals go_ret
    all_goals first
     |exact⟨Zh,Za g.out⟩
     |exact⟨Zh,Za s.out⟩
  ·have ty:y<1:=by omega
   go_enter Tryz.func30,Tryz.ntmps30;go_upto_region 1 with fail;generalize(w.alloc (Yg #[Yd Yf 13,Yc P r.length Q,Yc (Ya f) a.length R,Yc A3 j.length S,Yd Yf p] 37))=O at *
   go_wp2_with (first
    |(go_at_call 26;(with_reducible refine(WF.out O (Za s.out)).mono ?_);rintro h D ⟨rfl,b⟩;have g:=zh (c.out _ _ b s.out);obtain⟨⟨J,K,L,M,N⟩,_⟩:=id g.out;obtain⟨V,X,Y⟩:=E.out D (Za g.out);clear b;cases W))
   all_goals go_ret
   all_goals first
    |exact⟨Zh,Za g.out⟩
    |exact⟨Zh,Za s.out⟩
 ·have tn:((a.length:Int)==3)=false:=by rw[beq_eq_false_iff_ne];omega
  have cr:((a.length:Int) != 3)=true:=by rw[bne,tn];rfl
  go_enter Tryz.func30,Tryz.ntmps30;go_upto_region 1 with fail;generalize(w.alloc (Yg #[Yd Yf 13,Yc P r.length Q,Yc A2 a.length R,Yc A3 j.length S,Yd Yf p] 37))=O at *
  go_wp2_with (first
   |(go_at_call 26;(with_reducible refine(WF.out O (Za s.out)).mono ?_);rintro h D ⟨rfl,b⟩;have g:=zh (c.out _ _ b s.out);obtain⟨⟨J,K,L,M,N⟩,_⟩:=id g.out;clear b;cases W))
  all_goals go_ret
  all_goals first
   |exact⟨Zh,Za g.out⟩
   |exact⟨Zh,Za s.out⟩
end
section
open Go.RowKit
def Zga (ns:List Nd) (i:Nat) (k:Int):Nat:=((ns.take i).map fun d=>d.kids.count k).sum
theorem Zjr {ns:List Nd} {i:Nat} {d:Nd} {k:Int} (hd:ns[i]? = Ya d):Zga ns (i+1) k=Zga ns i k+d.kids.count k:=by unfold Zga;rw[List.take_add_one,hd,List.map_append,List.sum_append];simp
theorem ZpS {ns:List Nd} {k:Int}:Zga ns ns.length k=Zfe ns k:=by unfold Zga Zfe;rw[List.take_length]
theorem ZmV {l:List Int} {j:Nat} {x k:Int} (h:l[j]? = Ya x):(l.take (j+1)).count k=(l.take j).count k+(if x==k then 1 else 0):=by
 rw[List.take_add_one,h,List.count_append]
 congr 1
 show [x].count k=_;rw[List.count_singleton]
theorem ZgF {w:Yh} {A:Option Addr} {c:Nat} {ns:List Nd} (C:Zi w (Yc A ns.length c) ns) {q:Nat} {d:Nd} (hd:ns[q]? = Ya d):∃(a:Addr) (B:Option Addr) (e:Nat),A=Ya a/\d.kids.length<=maxLen/\(∀(j:Nat) (x:Int),d.kids[j]? = Ya x->∃b:Addr,B=Ya b/\∀wr:Yh,Below w.heap.size w wr->wr.cell? (b.add j)=Ya (Yd Yf x))/\∀wr:Yh,Below w.heap.size w wr->wr.cell? ⟨(a.add (q*5)).block,(a.add (q*5)).off+3,Yb⟩=Ya (Yc B d.kids.length e):=by
 obtain⟨F,G,E,v,H,I,n,o,z⟩:=C;injection v with ea _ ec;subst ea ec;have hq:=(List.getElem?_eq_some_iff.mp hd).1;obtain⟨y,g⟩:∃y,E[q]? = Ya y:=⟨_,Ym (by have:=congrArg List.length n;rw[List.length_map]at this;omega)⟩
 have k:y.2=d:=by
  have:ns[q]? = Ya y.2:=by rw[<-n,List.getElem?_map,g];rfl
  rw[hd]at this;exact(Option.some.inj this).symm
 obtain⟨a,rfl,_⟩:=Zan o (Below.refl _ _) g (by omega);obtain⟨_,_,r,u,p,D,J,l⟩:=z y (List.mem_of_getElem? g);rw[k]at D l p;refine⟨a,r,u,rfl,by omega,fun j x hx=>?_,fun wr i=>?_⟩
 ·obtain⟨b,e,_⟩:=ints_at l (Below.refl _ _) hx (by have:=(List.getElem?_eq_some_iff.mp hx).1;omega);refine⟨b,e,fun wr i=>?_⟩;obtain⟨t,f,h⟩:=ints_at l i hx (by have:=(List.getElem?_eq_some_iff.mp hx).1;omega);rw[e]at f;injection f with f;subst f;exact h
 ·obtain⟨s,e,_,_,_,m,_⟩:=Zan o i g (by omega);injection e with e;subst e;rw[p]at m;exact m
def Zd4 (ns:List Nd):Prop:=∀d∈ns,d.words.length*16<=140737488351232/\d.nums.length*8<=140737488351232/\d.kids.length*8<=140737488351232
theorem Zme {ns:List Nd} (b:Zd4 ns) (k:Int):∀i,i<=ns.length->Zga ns i k<=i*140737488355328
 |0,_=>by simp[Zga]
 |i+1,h=>by
  have hd:ns[i]? = Ya ns[i]:=Ym (by omega);have:=Zme b k i (by omega);have:=(b _ (List.mem_of_getElem? hd)).2.2;have:=List.count_le_length (a:=k) (l:=ns[i].kids);rw[Zjr hd];omega
theorem Zk6 (w:Yh) (v:Yi) (ns:List Nd) (k:Nat) (E:Zi w v ns) (J:ns.length<=1500) (K:Zd4 ns) :
  Calls Tryz.prog 24 #[v,Yd Yf k] w fun e w'=>e=.returned (Yd Yf (Zfe ns k))/\w=w':=by
 obtain⟨A,c,rfl⟩:∃A c,v=Yc A ns.length c:=by obtain⟨A,c,_,e,_⟩:=E;exact⟨A,c,e⟩
 have o:=zh (zi E (zi J K));clear E J K;go_enter Tryz.func24,Tryz.ntmps24;go_wp2_with fail;go_loopg [5,6] ns.length (fun gk v5 Q wr=>w=wr/\∃i:Nat,v5=Yd Yf (Zga ns i k)/\Q=Yd Yf i/\i<=ns.length/\gk=ns.length-i)
 case atStart=>exact⟨rfl,0,rfl,rfl,Nat.zero_le _,rfl⟩
 case round=>
  obtain⟨rfl,i,rfl,rfl,F,d⟩:=hrel;by_cases f:i=ns.length
  ·have M:¬(i:Int)<(ns.length:Int):=by omega
   have C:=zh (show Zga ns i k=Zfe ns k by rw[f,ZpS]);clear F d f;go_wp2_with fail;go_ret;exact⟨by rw[<-C.out];rfl,rfl⟩
  ·have l:i<ns.length:=by omega
   have hd:ns[i]? = Ya ns[i]:=Ym l;obtain⟨T,B,e,rfl,L,s,t⟩:=ZgF o.out.1 hd;have V:=t _ (Below.refl _ _);have u:=Zme o.out.2.2 (k:Int) i F;have y:=(o.out.2.2 _ (List.mem_of_getElem? hd)).2.2;have z:=Zjr (k:=(k:Int)) hd;have M:(i:Int)<(ns.length:Int):=by omega
   have N:(0:Int)<=(i:Int):=by omega
   have Y:IntKind.i64.wrap ((i:Int)+1)=(i:Int)+1:=IntWalk.i64_in _ (by have:=o.out.2.1;omega);generalize ns[i].kids=a at *;generalize Zga ns i k=p at *;have b:=zh (zi d (zi l (zi z (zi s (zi u (zi y o.out.2.1))))));clear d l z s t u y hd F f;go_wp2_with fail;go_loopg [5,7] a.length (fun D v5 R wr=>w=wr/\∃j:Nat,v5=Yd Yf ((p+(a.take j).count (k:Int):Nat):Int)/\R=Yd Yf j/\j<=a.length/\D=a.length-j)
   case atStart=>exact⟨rfl,0,by simp,rfl,Nat.zero_le _,rfl⟩
   case round=>
    obtain⟨rfl,j,rfl,rfl,I,hg2⟩:=hrel;by_cases h:j=a.length
    ·have O:¬(j:Int)<(a.length:Int):=by omega
     have H:a.take j=a:=by rw[h];exact List.take_length
     rw[H];clear I hg2 h H;go_wp2_with fail;go_roundg (ns.length-(i+1))
     case measure=>have:=b.out;omega
     case rel=>exact⟨rfl,i+1,by rw[b.out.2.2.1];first|rfl|(push_cast;rfl),by push_cast;rfl,by have:=b.out;omega,rfl⟩
    ·have g:j<a.length:=by omega
     obtain⟨x,hx⟩:∃x,a[j]? = Ya x:=⟨_,Ym g⟩
     obtain⟨U,rfl,r⟩:=b.out.2.2.2.1 j x hx;have W:=r _ (Below.refl _ _);have G:=ZmV (k:=(k:Int)) hx;have cl:(a.take j).count (k:Int)<=j:=Nat.le_trans List.count_le_length (by rw[List.length_take];omega);have O:(j:Int)<(a.length:Int):=by omega
     have P:(0:Int)<=(j:Int):=by omega
     have X:IntKind.i64.wrap ((j:Int)+1)=(j:Int)+1:=IntWalk.i64_in _ (by have:=b.out;omega);have wc:IntKind.i64.wrap (((p+(a.take j).count (k:Int):Nat):Int)+1)=((p+(a.take j).count (k:Int):Nat):Int)+1:=IntWalk.i64_in _ (by have:=b.out;omega);have S:IntKind.i64.wrap ((p:Int)+((a.take j).count (k:Int):Nat)+1)=(p:Int)+((a.take j).count (k:Int):Nat)+1:=IntWalk.i64_in _ (by have:=b.out;omega);have n:=zh (zi g (zi hg2 G));clear g hg2 G cl r hx I h;generalize(a.take j).count (k:Int)=m at *;cases q:(x==(k:Int))
     ·go_wp2_with fail;go_roundg (a.length-(j+1))
      case measure=>have:=n.out;omega
      case rel=>exact⟨rfl,j+1,by rw[n.out.2.2,q];first|rfl|(push_cast;rfl)|(push_cast;simp),by push_cast;rfl,by have:=n.out;omega,rfl⟩
     ·go_wp2_with fail;go_roundg (a.length-(j+1))
      case measure=>have:=n.out;omega
      case rel=>exact⟨rfl,j+1,by rw[n.out.2.2,q];first|rfl|(push_cast;rfl)|(push_cast;rw[Int.add_assoc];rfl)|(push_cast;simp)|(simp;omega),by push_cast;rfl,by have:=n.out;omega,rfl⟩
end
section
open Go.RowKit
def Zka (ns:List Nd) (j:Nat):Prop:=∀(i:Nat) (d:Nd),i<j->ns[i]? = Ya d->Zfe ns i=(if i=0 then 0 else 1)/\∀k∈d.kids,(i:Int)<k/\k<(ns.length:Int)
def inB (n i:Nat) (l:List Int):Bool:=l.all fun k=>decide ((i:Int)<k)&&decide (k<(n:Int))
theorem Zka.more {ns:List Nd} {j:Nat} {d:Nd} (h:Zka ns j) (hd:ns[j]? = Ya d) (hc:Zfe ns j=(if j=0 then 0 else 1)) (hk:inB ns.length j d.kids=true):Zka ns (j+1):=fun i e c b=>by
 by_cases q:i=j
 ·subst q;obtain rfl:d=e:=Option.some.inj (hd.symm.trans b);refine⟨hc,fun k a=>?_⟩;have:=List.all_eq_true.mp hk k a;simpa using this
 ·exact h i e (by omega) b
theorem ZlN (w:Yh) (v:Yi) (ns:List Nd) (O:Zi w v ns) (V:ns.length<=1500) (W:Zd4 ns) :
  Calls Tryz.prog 13 #[v] w fun e w'=>OkB (ZeO ns) e/\w=w':=by
 have PA:=zh (fun(k:Nat)=>Zk6 w v ns k O V W);obtain⟨A,c,rfl⟩:∃A c,v=Yc A ns.length c:=by obtain⟨A,c,_,e,_⟩:=O;exact⟨A,c,e⟩
 have Q:=zh (zi O (zi V W));clear O V W;go_enter Tryz.func13,Tryz.ntmps13;go_wp2_with fail;go_loopg [3] ns.length (fun gk v3 wr=>w=wr/\∃i:Nat,v3=Yd Yf i/\i<=ns.length/\gk=ns.length-i/\Zka ns i)
 case atStart=>exact⟨rfl,0,rfl,Nat.zero_le _,rfl,fun i _ h=>absurd h (Nat.not_lt_zero _)⟩
 case round=>
  obtain⟨rfl,i,rfl,U,p,H⟩:=hrel;by_cases u:i=ns.length
  ·have ti:¬(i:Int)<(ns.length:Int):=by omega
   by_cases N:0<ns.length
   ·have P:=zh (show ZeO ns from⟨N,fun j d hd=>H j d (by have:=(List.getElem?_eq_some_iff.mp hd).1;omega) hd⟩);have tz:(0:Int)<(ns.length:Int):=by omega
    clear U p H u N;go_wp2_with fail;go_ret;exact⟨Zbc P.out,rfl⟩
   ·have tz:¬(0:Int)<(ns.length:Int):=by omega
    have ao:(ns.length:Int)<=0:=by omega
    have H0:=zh N;clear U p H u N;go_wp2_with fail;go_ret;exact⟨by first|exact Zh|(show OkB _ (.returned (.bool (decide (0<ns.length))));rw[decide_eq_false H0.out];exact Zh),rfl⟩
  ·have y:i<ns.length:=by omega
   have hd:ns[i]? = Ya ns[i]:=Ym y;obtain⟨ad,B,e,rfl,ah,J,K⟩:=ZgF Q.out.1 hd;have d3:=K _ (Below.refl _ _);have L:=(Q.out.2.2 _ (List.mem_of_getElem? hd)).2.2;have ti:(i:Int)<(ns.length:Int):=by omega
   have am:(0:Int)<=(i:Int):=by omega
   have wk:IntKind.i64.wrap ((i:Int)+1)=(i:Int)+1:=IntWalk.i64_in _ (by have:=Q.out.2.1;omega);have MR:=zh (fun hc hk=>H.more hd hc hk);have M:=zh (PA.out i);generalize ns[i].kids=b at *;generalize Zfe ns (i:Int)=o at *;have q:=zh (zi p (zi y (zi J L)));clear p y J K L hd U u H;by_cases F:i=0
   ·have ez:((i:Int)==0)=true:=by rw[beq_iff_eq];omega
    by_cases hc:o=0
    ·have D:((o:Int)==0)=true:=by rw[beq_iff_eq];omega
     have E:((o:Int) != 0)=false:=by rw[bne,D];rfl
     have s:=zh (MR.out (by rw[hc];simp[F]));clear F hc;go_wp2_with (go_at_call 24;(with_reducible refine M.out.mono ?_);rintro T Z ⟨rfl,rfl⟩);go_loopg [5] b.length (fun t v5 wr=>w=wr/\∃j:Nat,v5=Yd Yf j/\j<=b.length/\t=b.length-j/\inB ns.length i (b.take j)=true)
     case atStart=>exact⟨rfl,0,rfl,Nat.zero_le _,rfl,rfl⟩
     case round=>
      obtain⟨rfl,j,rfl,I,hg2,a⟩:=hrel;by_cases l:j=b.length
      ·have X:¬(j:Int)<(b.length:Int):=by omega
       have G:b.take j=b:=by rw[l];exact List.take_length
       rw[G]at a;have R:=zh (s.out a);clear I hg2 l G a;go_wp2_with fail;go_roundg (ns.length-(i+1))
       case measure=>have:=q.out;omega
       case rel=>exact⟨rfl,i+1,by push_cast;rfl,by have:=q.out;omega,rfl,R.out⟩
      ·have g:j<b.length:=by omega
       obtain⟨x,hx⟩:∃x,b[j]? = Ya x:=⟨_,Ym g⟩
       obtain⟨ak,rfl,m⟩:=q.out.2.2.1 j x hx;have dx:=m _ (Below.refl _ _);have n:=Zcr (f:=fun k=>decide ((i:Int)<k)&&decide (k<(ns.length:Int))) hx a;have X:(j:Int)<(b.length:Int):=by omega
       have Y:(0:Int)<=(j:Int):=by omega
       have wj:IntKind.i64.wrap ((j:Int)+1)=(j:Int)+1:=IntWalk.i64_in _ (by have:=q.out;omega);have r:=zh (zi g (zi hg2 n));clear g hg2 n m hx I l a;by_cases q1:x<=(i:Int)
       ·go_wp2_with fail;go_ret;exact⟨Zh,rfl⟩
       ·have z:(i:Int)<x:=by omega
        by_cases q2:(ns.length:Int)<=x
        ·go_wp2_with fail;go_ret;exact⟨Zh,rfl⟩
        ·have C:x<(ns.length:Int):=by omega
         have S:=zh (r.out.2.2.trans (by rw[decide_eq_true z,decide_eq_true C];rfl:_=true));go_wp2_with fail;go_roundg (b.length-(j+1))
         case measure=>have:=r.out;omega
         case rel=>exact⟨rfl,j+1,by push_cast;rfl,by have:=r.out;omega,rfl,S.out⟩
    ·have D:((o:Int)==0)=false:=by rw[beq_eq_false_iff_ne];omega
     have E:((o:Int) != 0)=true:=by rw[bne,D];rfl
     clear F hc;go_wp2_with (go_at_call 24;(with_reducible refine M.out.mono ?_);rintro T Z ⟨rfl,rfl⟩);go_ret;exact⟨Zh,rfl⟩
   ·have ez:((i:Int)==0)=false:=by rw[beq_eq_false_iff_ne];omega
    by_cases hc:o=1
    ·have D:((o:Int)==1)=true:=by rw[beq_iff_eq];omega
     have E:((o:Int) != 1)=false:=by rw[bne,D];rfl
     have s:=zh (MR.out (by rw[hc];simp[F]));clear F hc;go_wp2_with (go_at_call 24;(with_reducible refine M.out.mono ?_);rintro T Z ⟨rfl,rfl⟩);go_loopg [5] b.length (fun t v5 wr=>w=wr/\∃j:Nat,v5=Yd Yf j/\j<=b.length/\t=b.length-j/\inB ns.length i (b.take j)=true)
     case atStart=>exact⟨rfl,0,rfl,Nat.zero_le _,rfl,rfl⟩
     case round=>
      obtain⟨rfl,j,rfl,I,hg2,a⟩:=hrel;by_cases l:j=b.length
      ·have X:¬(j:Int)<(b.length:Int):=by omega
       have G:b.take j=b:=by rw[l];exact List.take_length
       rw[G]at a;have R:=zh (s.out a);clear I hg2 l G a;go_wp2_with fail;go_roundg (ns.length-(i+1))
       case measure=>have:=q.out;omega
       case rel=>exact⟨rfl,i+1,by push_cast;rfl,by have:=q.out;omega,rfl,R.out⟩
      ·have g:j<b.length:=by omega
       obtain⟨x,hx⟩:∃x,b[j]? = Ya x:=⟨_,Ym g⟩
       obtain⟨ak,rfl,m⟩:=q.out.2.2.1 j x hx;have dx:=m _ (Below.refl _ _);have n:=Zcr (f:=fun k=>decide ((i:Int)<k)&&decide (k<(ns.length:Int))) hx a;have X:(j:Int)<(b.length:Int):=by omega
       have Y:(0:Int)<=(j:Int):=by omega
       have wj:IntKind.i64.wrap ((j:Int)+1)=(j:Int)+1:=IntWalk.i64_in _ (by have:=q.out;omega);have r:=zh (zi g (zi hg2 n));clear g hg2 n m hx I l a;by_cases q1:x<=(i:Int)
       ·go_wp2_with fail;go_ret;exact⟨Zh,rfl⟩
       ·have z:(i:Int)<x:=by omega
        by_cases q2:(ns.length:Int)<=x
        ·go_wp2_with fail;go_ret;exact⟨Zh,rfl⟩
        ·have C:x<(ns.length:Int):=by omega
         have S:=zh (r.out.2.2.trans (by rw[decide_eq_true z,decide_eq_true C];rfl:_=true));go_wp2_with fail;go_roundg (b.length-(j+1))
         case measure=>have:=r.out;omega
         case rel=>exact⟨rfl,j+1,by push_cast;rfl,by have:=r.out;omega,rfl,S.out⟩
    ·have D:((o:Int)==1)=false:=by rw[beq_eq_false_iff_ne];omega
     have E:((o:Int) != 1)=true:=by rw[bne,D];rfl
     clear F hc;go_wp2_with (go_at_call 24;(with_reducible refine M.out.mono ?_);rintro T Z ⟨rfl,rfl⟩);go_ret;exact⟨Zh,rfl⟩
def Zn3 (ns:List Nd):Prop:=∀(i:Nat) (d:Nd),ns[i]? = Ya d->∀k∈d.kids,(i:Int)<k/\k<(ns.length:Int)
theorem ZoA (ns:List Nd):∀(f:Nat) (k:Int),htF ns f k<=(f:Int)+1
 |0,_=>by rw[htF];omega
 |f+1,k=>by
  rw[htF]
  have:=ZgD ((Zf ns k).kids.map (htF ns f)) 0 ((f:Int)+1) (by omega) (fun x hx=>by
   obtain⟨y,_,rfl⟩:=List.mem_map.mp hx
   exact ZoA ns f y)
  unfold Zjh
  push_cast
  omega
def Zgb (g:Int->Int) (l:List Int):Int:=Zjh (l.map g)
theorem ZoM {g:Int->Int} {l:List Int} {j:Nat} {x:Int} (h:l[j]? = Ya x):Zgb g (l.take (j+1))=max (Zgb g (l.take j)) (g x):=by unfold Zgb Zjh;rw[List.take_add_one,h,List.map_append,List.foldl_append];rfl
theorem ZiK (w:Yh) (v:Yi) (ns:List Nd) (k:Nat) (d:Nd) (u:Zi w v ns) (G:Zd4 ns) (hd:ns[k]? = Ya d) (g:Int->Int) (E:∀x,0<=g x/\g x<=1501)
  (t:∀c∈d.kids,Calls Tryz.prog 14 #[v,Yd Yf c] w fun e w'=>e=.returned (Yd Yf (g c))/\w=w') :
  Calls Tryz.prog 14 #[v,Yd Yf k] w fun e w'=>e=.returned (Yd Yf (Zgb g d.kids+1))/\w=w':=by
 obtain⟨A,c,rfl⟩:∃A c,v=Yc A ns.length c:=by obtain⟨A,c,_,e,_⟩:=u;exact⟨A,c,e⟩
 obtain⟨O,B,e,rfl,z,i,o⟩:=ZgF u hd;have J:=o _ (Below.refl _ _);have l:=(G _ (List.mem_of_getElem? hd)).2.2;have C:=(List.getElem?_eq_some_iff.mp hd).1;have U:(k:Int)<(ns.length:Int):=by omega
 have K:(0:Int)<=(k:Int):=by omega
 obtain⟨a,p⟩:∃a,a=d.kids:=⟨_,rfl⟩
 rw[<-p]at z i J l t⊢;have m:∀j,0<=Zgb g (a.take j)/\Zgb g (a.take j)<=1501:=fun j=>⟨ZgC _ 0 0 (Int.le_refl _),ZgD _ 0 1501 (by omega) (fun x hx=>by obtain⟨y,_,rfl⟩:=List.mem_map.mp hx;exact(E y).2)⟩;have q:=zh (zi i (zi l (zi t m)));clear i o l hd C t m G u p E;go_enter Tryz.func14,Tryz.ntmps14;go_wp2_with fail;go_loopg [5,6] a.length (fun gk v5 N wr=>w=wr/\∃j:Nat,v5=Yd Yf (Zgb g (a.take j))/\N=Yd Yf j/\j<=a.length/\gk=a.length-j)
 case atStart=>exact⟨rfl,0,rfl,rfl,Nat.zero_le _,rfl⟩
 case round=>
  obtain⟨rfl,j,rfl,rfl,F,b⟩:=hrel;have s:=q.out.2.2.2 j;by_cases h:j=a.length
  ·have L:¬(j:Int)<(a.length:Int):=by omega
   have D:a.take j=a:=by rw[h];exact List.take_length
   rw[D]at s⊢;have X:IntKind.i64.wrap (Zgb g a+1)=Zgb g a+1:=IntWalk.i64_in _ (by omega);clear F b h D s;go_wp2_with fail;go_ret;exact⟨rfl,rfl⟩
  ·have f:j<a.length:=by omega
   obtain⟨x,hx⟩:∃x,a[j]? = Ya x:=⟨_,Ym f⟩
   obtain⟨P,rfl,n⟩:=q.out.1 j x hx;have Q:=n _ (Below.refl _ _);have I:=zh (q.out.2.2.1 x (List.mem_of_getElem? hx));have H:=ZoM (g:=g) hx;have L:(j:Int)<(a.length:Int):=by omega
   have M:(0:Int)<=(j:Int):=by omega
   have W:IntKind.i64.wrap ((j:Int)+1)=(j:Int)+1:=IntWalk.i64_in _ (by have:=q.out.2.1;omega);have r:=zh (zi f (zi b H));clear f b H n hx F h s;generalize Zgb g (a.take j)=T at *;generalize g x=S at *;go_wp2_with (go_at_call 14;(with_reducible refine I.out.mono ?_);rintro R V ⟨rfl,rfl⟩);go_roundg (a.length-(j+1))
   case measure=>have:=r.out;omega
   case rel=>exact⟨rfl,j+1,by rw[r.out.2.2],by push_cast;rfl,by have:=r.out;omega,rfl⟩
theorem ZjI (w:Yh) (v:Yi) (ns:List Nd) (d:Zi w v ns) (g:Zd4 ns) (b:Zn3 ns):∀(f k:Nat),f<=1500->k<ns.length->ns.length<=k+f+1 ->
  Calls Tryz.prog 14 #[v,Yd Yf k] w fun e w'=>e=.returned (Yd Yf (htF ns f k))/\w=w'
 |0,k,_,hk,hn=>by
  have hd:ns[k]? = Ya ns[k]:=Ym hk;have e:ns[k].kids=[]:=List.eq_nil_iff_forall_not_mem.mpr (fun y h=>by have:=b k _ hd y h;omega);have:=ZiK w v ns k _ d g hd (fun _=>0) (fun _=>by omega) (fun c hc=>by rw[e]at hc;cases hc);rw[e]at this;exact this
 |f+1,k,hf,hk,hn=>by
  have hd:ns[k]? = Ya ns[k]:=Ym hk
  have:=ZiK w v ns k _ d g hd (htF ns f) (fun x=>by have:=Zja ns f x;have:=ZoA ns f x;omega) (fun c hc=>by
   have i:=b k _ hd c hc;obtain⟨a,rfl⟩:∃a:Nat,c=a:=⟨c.toNat,by omega⟩
   exact ZjI w v ns d g b f a (by omega) (by omega) (by omega))
  rw[htF,Zcm hd];exact this
end
section
open Go.RowKit
def Zf1 (ns:List Nd) (l:List Int):Int:=match l.getLast? with
 |none=>-1
 |some k=>ZY ns k
theorem ZiO {ns:List Nd} {k:Int}:∀(l:List Int),ZaC ns l=true->Zf1 ns l<ZY ns k->ZaC ns (l++[k])=true
 |[],_,_=>rfl
 |[x],_,h=>by
  have h:ZY ns x<ZY ns k:=h;show(decide (ZY ns x<ZY ns k)&&ZaC ns [k])=true;rw[decide_eq_true h];rfl
 |x::y::r,h,hl=>by
  rw[ZaC,Bool.and_eq_true]at h;show(decide (ZY ns x<ZY ns y)&&ZaC ns ((y::r)++[k]))=true
  rw[h.1,ZiO (y::r) h.2 (by
   have e:(x::y::r).getLast? = (y::r).getLast?:=by simp[List.getLast?_cons]
   unfold Zf1 at hl⊢
   rwa[e]at hl)]
  rfl
theorem Zhe {ns:List Nd} {a:List Int} {i q:Nat} {b u:Int} {d j:Int} {l:List (List UInt8)} {f c:List Int} (p:Zam ns (a.take i) (isB [6])=true/\ZaC ns (a.take i)=true/\Zf1 ns (a.take i)=b) (t:a[i]? = Ya (q:Int)) (hd:ns[q]? = Ya ⟨d,l,f,c,j⟩) (o:d=6) (s:f=[u]) (r:b<u) :
  Zam ns (a.take (i+1)) (isB [6])=true/\ZaC ns (a.take (i+1))=true/\Zf1 ns (a.take (i+1))=u:=by
 obtain⟨g,m,n⟩:=p;have e:a.take (i+1)=a.take i++[(q:Int)]:=by rw[List.take_add_one,t];rfl
 have h:ZY ns (q:Int)=u:=Zge (k:=q) hd s;refine⟨?_,?_,?_⟩
 ·unfold Zam at g⊢;rw[e,List.all_append,g,List.all_cons,Zdk hd,o];rfl
 ·rw[e];exact ZiO _ m (by rw[n,h];exact r)
 ·rw[e];unfold Zf1;rw[List.getLast?_concat];exact h
theorem ZnX {ns:List Nd} {f:List (List UInt8)} {d e:List Int} {g:Int} (i:Zy ⟨5,f,d,e,g⟩ 1 1=true) (h:Zai ⟨5,f,d,e,g⟩=true) (hk:e.length=0):ZD ns ⟨5,f,d,e,g⟩=true:=by obtain⟨a,b,c⟩:=Zbk i;obtain rfl:d=[]:=Zbo h;obtain rfl:=List.length_eq_zero_iff.mp hk;refine ZbC a rfl ?_;show(Zq _ 1 0&&Zj ns [] []||Zq _ 2 3&&Zcn ns _)=true;rw[Zbv (a:=1) (b:=0) (by show f.length=1;omega) rfl];rfl
theorem ZgS {ns:List Nd} {i:List (List UInt8)} {d g:List Int} {k y e f:Int} (r:Zy ⟨5,i,d,g,k⟩ 2 2=true) (l:d=[y,e,f]) (v:0<=y) (o:y<=4) (p:(e=0/\f=0)\/ZcV ⟨5,i,d,g,k⟩=true) (ha:Zam ns g (isB [6])=true) (q:ZaC ns g=true):ZD ns ⟨5,i,d,g,k⟩=true:=by
 obtain⟨a,b,c⟩:=Zbk r;have j:(e=0/\f=0)\/(1<=e/\e<1000000000000000000/\1<=f/\f<1000000000000000000):=by
  rcases p with h|h
  ·exact .inl h
  ·exact .inr (Zg8 l h)
 subst l;refine ZbC a (by simp[Zb6];omega) ?_;show(Zq _ 1 0&&Zj ns g []||Zq _ 2 3&&(decide (y<=4)&&((e==0&&f==0)||(decide (1<=e)&&decide (1<=f)))&&Zam ns g (isB [6])&&ZaC ns g))=true;have s:((e==0&&f==0)||(decide (1<=e)&&decide (1<=f)))=true:=by
  rcases j with⟨rfl,rfl⟩|⟨m,t,n,u⟩
  ·rfl
  ·rw[decide_eq_true m,decide_eq_true n,Bool.or_comm];rfl
 rw[Zbv (a:=2) (b:=3) (by show i.length=2;omega) rfl,s,ha,q,decide_eq_true o,Bool.or_comm];rfl
theorem Zk4 (w:Yh) (v:Yi) (ns:List Nd) (va vb vc:Yi) (H:List (List UInt8)) (a g:List Int) (I:Int) (hN:Zi w v ns) (hx:ZS w ((va,vb,vc),⟨5,H,a,g,I⟩)) (hk:Zaw g ns.length) :
  Calls Tryz.prog 55 #[v,ndV ((va,vb,vc),⟨5,H,a,g,I⟩)] w fun e w'=>OkB (ZD ns ⟨5,H,a,g,I⟩=true) e/\Below w.heap.size w w':=by
 obtain⟨h1,h2,h3⟩:=id hx;dsimp only at h1 h2 h3;obtain⟨WR,bo,b5,b0,a8⟩:=hd6 hN hx hk;have HN:=zh hN;have bn:=zh h3;have KI:=zh hk;obtain⟨Av,cv,rfl⟩:∃A c,v=Yc A ns.length c:=by obtain⟨A,c,_,e,_⟩:=hN;exact⟨A,c,e⟩
 obtain⟨X,Z,rfl,_⟩:=h1;obtain⟨A2,c2,rfl,_,_,b8⟩:=h2;have KL:=zh h3.len;obtain⟨Y,c3,rfl,_⟩:=h3;have R2:=zh b8;unfold ndV at WR bo b5 b0 a8⊢;dsimp only at WR bo b5 b0 a8⊢;have B:=zh (Zcl w (Yd Yf 5) (Yc X H.length Z) (Yc A2 a.length c2) (Yc Y g.length c3) (Yd Yf I));have b3:=Zcg w (Yd Yf 5) (Yc X H.length Z) (Yc A2 a.length c2) (Yc Y g.length c3) (Yd Yf I);have L:=zh b3;obtain⟨⟨g0,g1,g2,g3,g4⟩,_⟩:=b3;clear b8 hx hN hk;by_cases qw:H.length=1
 ·have tw:((H.length:Int)==1)=true:=by rw[beq_iff_eq];omega
  clear qw;have WF:=zh (show ∀wr:Yh,Below w.heap.size w wr->Calls Tryz.prog 26 #[.agg #[Yd Yf 5,Yc X H.length Z,Yc A2 a.length c2,Yc Y g.length c3,Yd Yf I],Yd Yf 1,Yd Yf 1] wr fun e w'=>e=.returned (.bool (Zy ⟨5,H,a,g,I⟩ 1 1))/\Below wr.heap.size wr w' from fun wr K=>WR.out wr K 1 1);generalize av:Zy ⟨5,H,a,g,I⟩ 1 1=W at WF;have QW:=zh av;clear av;have NF:=zh (show ∀wr:Yh,Below w.heap.size w wr->Calls Tryz.prog 27 #[.agg #[Yd Yf 5,Yc X H.length Z,Yc A2 a.length c2,Yc Y g.length c3,Yd Yf I]] wr fun e w'=>e=.returned (.bool (Zai ⟨5,H,a,g,I⟩))/\Below wr.heap.size wr w' from fun wr K=>bo.out wr K);generalize ci:Zai ⟨5,H,a,g,I⟩=N at NF;have QN:=zh ci;clear ci;by_cases qk:g.length=0
  ·have tk:((g.length:Int)==0)=true:=by rw[beq_iff_eq];omega
   have QK:=zh qk;clear qk;go_enter Tryz.func55,Tryz.ntmps55;go_upto_region 1 with fail;generalize(w.alloc (Yg #[Yd Yf 5,Yc X H.length Z,Yc A2 a.length c2,Yc Y g.length c3,Yd Yf I] 37))=w1 at *
   go_wp2_with (first
    |(go_at_call 26;(with_reducible refine(WF.out w1 (Za L.out)).mono ?_);rintro f w2 ⟨rfl,D⟩;have G:=zh (B.out _ _ D L.out);obtain⟨⟨aj,ak,al,am,an⟩,_⟩:=id G.out;clear D;cases W)
    |(go_at_call 27;(with_reducible refine(NF.out w2 (Za G.out)).mono ?_);rintro m w3 ⟨rfl,O⟩;have K3:=zh (B.out _ _ O G.out);obtain⟨⟨bp,bq,br,bs,bt⟩,_⟩:=id K3.out;clear O;cases N))
   all_goals go_ret
   all_goals first
    |exact⟨Zbc (ZnX QW.out QN.out QK.out),Za K3.out⟩
    |exact⟨Zh,Za K3.out⟩
    |exact⟨Zh,Za G.out⟩
    |exact⟨Zh,Za L.out⟩
  ·have tk:((g.length:Int)==0)=false:=by rw[beq_eq_false_iff_ne];omega
   go_enter Tryz.func55,Tryz.ntmps55;go_upto_region 1 with fail;generalize(w.alloc (Yg #[Yd Yf 5,Yc X H.length Z,Yc A2 a.length c2,Yc Y g.length c3,Yd Yf I] 37))=w1 at *
   go_wp2_with (first
    |(go_at_call 26;(with_reducible refine(WF.out w1 (Za L.out)).mono ?_);rintro f w2 ⟨rfl,D⟩;have G:=zh (B.out _ _ D L.out);obtain⟨⟨aj,ak,al,am,an⟩,_⟩:=id G.out;clear D;cases W)
    |(go_at_call 27;(with_reducible refine(NF.out w2 (Za G.out)).mono ?_);rintro m w3 ⟨rfl,O⟩;have K3:=zh (B.out _ _ O G.out);obtain⟨⟨bp,bq,br,bs,bt⟩,_⟩:=id K3.out;clear O;cases N))
   all_goals go_ret
   all_goals first
    |exact⟨Zh,Za K3.out⟩
    |exact⟨Zh,Za G.out⟩
    |exact⟨Zh,Za L.out⟩
 ·have tw:((H.length:Int)==1)=false:=by rw[beq_eq_false_iff_ne];omega
  clear qw;have WF:=zh (show ∀wr:Yh,Below w.heap.size w wr->Calls Tryz.prog 26 #[.agg #[Yd Yf 5,Yc X H.length Z,Yc A2 a.length c2,Yc Y g.length c3,Yd Yf I],Yd Yf 2,Yd Yf 2] wr fun e w'=>e=.returned (.bool (Zy ⟨5,H,a,g,I⟩ 2 2))/\Below wr.heap.size wr w' from fun wr K=>WR.out wr K 2 2);generalize av:Zy ⟨5,H,a,g,I⟩ 2 2=W at WF;have QW:=zh av;clear av;by_cases qn:a.length=3
  ·have tn:((a.length:Int)==3)=true:=by rw[beq_iff_eq];omega
   have df:((a.length:Int) != 3)=false:=by rw[bne,tn];rfl
   have d6:(0:Int)<(a.length:Int):=by omega
   have d7:(1:Int)<(a.length:Int):=by omega
   have d8:(2:Int)<(a.length:Int):=by omega
   obtain⟨y,ya,yb,hy⟩:=Zhf qn;obtain⟨C,rfl,_⟩:=ints_at (x:=y) R2.out (Za L.out) (k:=0) (by rw[hy];rfl) (by omega)
   have NC:=zh (fun(wr:Yh) (K:Below w.heap.size w wr)=>show wr.cell? C=Ya (Yd Yf y)/\wr.cell? ⟨C.block,C.off+1,Yb⟩=Ya (Yd Yf ya)/\wr.cell? ⟨C.block,C.off+2,Yb⟩=Ya (Yd Yf yb)from by
    obtain⟨a2,f,q2⟩:=ints_at (x:=y) R2.out K (k:=0) (by rw[hy];rfl) (by omega);injection f with f;subst f;obtain⟨a2,f,q3⟩:=ints_at (x:=ya) R2.out K (k:=1) (by rw[hy];rfl) (by omega);injection f with f;subst f;obtain⟨a2,f,q4⟩:=ints_at (x:=yb) R2.out K (k:=2) (by rw[hy];rfl) (by omega);injection f with f;subst f;rw[show C.add 0=C by unfold Addr.add;simp]at q2;rw[show C.add 1=⟨C.block,C.off+1,Yb⟩by unfold Addr.add;simp]at q3;rw[show C.add 2=⟨C.block,C.off+2,Yb⟩by unfold Addr.add;simp]at q4
    exact⟨q2,q3,q4⟩)
   obtain⟨eb,ed,ee⟩:=NC.out _ (Za L.out);have HY:=zh hy;have hl:=zh qn;clear hy qn;by_cases qy:0<=y
   ·by_cases qz:y<=4
    ·cases za:(ya==0)
     ·have FF:=zh (show ∀wr:Yh,Below w.heap.size w wr->Calls Tryz.prog 59 #[.agg #[Yd Yf 5,Yc X H.length Z,Yc (Ya C) a.length c2,Yc Y g.length c3,Yd Yf I]] wr fun e w'=>e=.returned (.bool (ZcV ⟨5,H,a,g,I⟩))/\Below wr.heap.size wr w' from fun wr K=>a8.out hl wr K);generalize au:ZcV ⟨5,H,a,g,I⟩=F at FF;have QF:=zh au;clear au;go_enter Tryz.func55,Tryz.ntmps55;go_upto_region 1 with fail;generalize(w.alloc (Yg #[Yd Yf 5,Yc X H.length Z,Yc (Ya C) a.length c2,Yc Y g.length c3,Yd Yf I] 37))=w1 at *
      go_wp2_with (first
       |(go_at_call 26;(with_reducible refine(WF.out w1 (Za L.out)).mono ?_);rintro f w2 ⟨rfl,D⟩;have G:=zh (B.out _ _ D L.out);obtain⟨⟨aj,ak,al,am,an⟩,_⟩:=id G.out;obtain⟨ba,bb,bc⟩:=NC.out w2 (Za G.out);clear D;cases W)
       |(go_at_call 59;(with_reducible refine(FF.out w2 (Za G.out)).mono ?_);rintro m w3 ⟨rfl,O⟩;have K3:=zh (B.out _ _ O G.out);obtain⟨⟨bp,bq,br,bs,bt⟩,_⟩:=id K3.out;obtain⟨dg,dh,di⟩:=NC.out w3 (Za K3.out);clear O;cases F))
      all_goals (try first|(go_ret;exact⟨Zh,Za G.out⟩)|(go_ret;exact⟨Zh,Za K3.out⟩))
      have QZ:=zh (Or.inr QF.out:(ya=0/\yb=0)\/ZcV ⟨5,H,a,g,I⟩=true);go_loopg [5,6] g.length (fun gk v5 v6 wr=>∃(i:Nat) (n:Int),v5=Yd Yf n/\v6=Yd Yf i/\i<=g.length/\gk=g.length-i/\(Zam ns (g.take i) (isB [6])=true/\ZaC ns (g.take i)=true/\Zf1 ns (g.take i)=n)/\((wr.cell? ⟨w.heap.size,0,Yb⟩=Ya (Yd Yf 5)/\wr.cell? ⟨w.heap.size,1,Yb⟩=Ya (Yc X H.length Z)/\wr.cell? ⟨w.heap.size,2,Yb⟩=Ya (Yc (Ya C) a.length c2)/\wr.cell? ⟨w.heap.size,3,Yb⟩=Ya (Yc Y g.length c3)/\wr.cell? ⟨w.heap.size,4,Yb⟩=Ya (Yd Yf I))/\Below w.heap.size w wr))
      case atStart=>exact⟨0,-1,rfl,rfl,Nat.zero_le _,rfl,⟨rfl,rfl,rfl⟩,K3.out⟩
      case round=>
       obtain⟨i,n,rfl,rfl,hi,P,hP,hS⟩:=hrel;have M:=zh hS;obtain⟨⟨cc,cd,ce,cf,cg⟩,_⟩:=hS;by_cases ah:i=g.length
       ·have e:g.take i=g:=by rw[ah];exact List.take_length
        rw[e]at hP;have HP:=zh hP;have ti:¬(i:Int)<(g.length:Int):=by omega
        clear e hP P;go_wp2_with fail;go_ret;exact⟨Zbc (ZgS QW.out HY.out qy qz QZ.out HP.out.1 HP.out.2.1),Za M.out⟩
       ·have Q:i<g.length:=by omega
        obtain⟨z,hz⟩:∃z,g[i]? = Ya z:=⟨_,Ym Q⟩
        have K:=KI.out z (List.mem_of_getElem? hz);obtain⟨q,rfl⟩:∃q:Nat,z=q:=⟨z.toNat,by omega⟩
        obtain⟨d,ad,cp,o,J,p,t,f,m,hd,ev,hI,hc⟩:=Zfp HN.out (q:=q) (by omega);injection ev with ea _ ec;subst ea ec;obtain⟨m0,m1,m2,m3,m4⟩:=hc wr (Za M.out);obtain⟨bx,ca,ev,_,_,R3⟩:=bn.out;injection ev with ea _ ec;subst ea ec;obtain⟨b9,rfl,z1⟩:=ints_at R3 (Za M.out) hz (by omega);have ti:(i:Int)<(g.length:Int):=by omega
        have cs:(0:Int)<=(i:Int):=by omega
        have tq:(q:Int)<(ns.length:Int):=by omega
        have ct:(0:Int)<=(q:Int):=by omega
        have wk:IntKind.i64.wrap ((i:Int)+1)=(i:Int)+1:=IntWalk.i64_in _ (by have:=KL.out;unfold maxLen at this;omega);have HI:=zh (zi Q (zi P (zi hP (zi hd hz))));have NI:=zh hI;clear P hP hz hd hI hc R3 ah Q hi K;obtain⟨l,s,j,b,r⟩:=d;dsimp only at m0 m1 m2 m3 m4 NI;cases z6:(l==6)
        ·have a7:(l != 6)=true:=by rw[bne,z6];rfl
         go_upto_region 12 with fail;have a5:=below_alloc1 wr (Yg #[Yd Yf l,.slice o s.length t,Yc J j.length f,.slice p b.length m,Yd Yf r] 37);have E:=zh (B.out _ _ a5 M.out);have n9:=(Blk.start wr #[Yd Yf l,.slice o s.length t,Yc J j.length f,.slice p b.length m,Yd Yf r] 37).cell 2;have n8:=(Blk.start wr #[Yd Yf l,.slice o s.length t,Yc J j.length f,.slice p b.length m,Yd Yf r] 37).cell 0;obtain⟨⟨R,S,T,U,V⟩,_⟩:=id E.out;generalize wr.alloc (Yg #[Yd Yf l,.slice o s.length t,Yc J j.length f,.slice p b.length m,Yd Yf r] 37)=w9 at *;go_wp2_with fail;go_ret;exact⟨Zh,Za E.out⟩
        ·have a7:(l != 6)=false:=by rw[bne,z6];rfl
         have D6:=zh (show l=6 by simpa using z6);by_cases qd:j.length=1
         ·have td:((j.length:Int)==1)=true:=by rw[beq_iff_eq];omega
          have a1:((j.length:Int) != 1)=false:=by rw[bne,td];rfl
          have cq:(0:Int)<(j.length:Int):=by omega
          obtain⟨u,hu⟩:=List.length_eq_one_iff.mp qd;obtain⟨bz,cb,ev,_,_,RU⟩:=NI.out;injection ev with ea _ ec;subst ea ec;obtain⟨h,rfl,_⟩:=ints_at (x:=u) RU (Below.refl _ _) (k:=0) (by rw[hu];rfl) (by omega);have UC:=zh (fun(wr:Yh) (K:Below w.heap.size w wr)=>show wr.cell? h=Ya (Yd Yf u)from by obtain⟨a2,f,q2⟩:=ints_at (x:=u) RU K (k:=0) (by rw[hu];rfl) (by omega);injection f with f;subst f;rwa[show h.add 0=h by unfold Addr.add;simp]at q2);have HU:=zh hu;clear hu qd RU;by_cases ql:u<=n
          ·go_upto_region 12 with fail;have a5:=below_alloc1 wr (Yg #[Yd Yf l,.slice o s.length t,Yc (Ya h) j.length f,.slice p b.length m,Yd Yf r] 37);have E:=zh (B.out _ _ a5 M.out);have n9:=(Blk.start wr #[Yd Yf l,.slice o s.length t,Yc (Ya h) j.length f,.slice p b.length m,Yd Yf r] 37).cell 2;have n8:=(Blk.start wr #[Yd Yf l,.slice o s.length t,Yc (Ya h) j.length f,.slice p b.length m,Yd Yf r] 37).cell 0;have u9:=UC.out _ (Za E.out);obtain⟨⟨R,S,T,U,V⟩,_⟩:=id E.out;generalize wr.alloc (Yg #[Yd Yf l,.slice o s.length t,Yc (Ya h) j.length f,.slice p b.length m,Yd Yf r] 37)=w9 at *;go_wp2_with fail;go_ret;exact⟨Zh,Za E.out⟩
          ·have ay:n<u:=by omega
           go_upto_region 12 with fail;have a5:=below_alloc1 wr (Yg #[Yd Yf l,.slice o s.length t,Yc (Ya h) j.length f,.slice p b.length m,Yd Yf r] 37);have E:=zh (B.out _ _ a5 M.out);have n9:=(Blk.start wr #[Yd Yf l,.slice o s.length t,Yc (Ya h) j.length f,.slice p b.length m,Yd Yf r] 37).cell 2;have n8:=(Blk.start wr #[Yd Yf l,.slice o s.length t,Yc (Ya h) j.length f,.slice p b.length m,Yd Yf r] 37).cell 0;have u9:=UC.out _ (Za E.out);obtain⟨⟨R,S,T,U,V⟩,_⟩:=id E.out;generalize wr.alloc (Yg #[Yd Yf l,.slice o s.length t,Yc (Ya h) j.length f,.slice p b.length m,Yd Yf r] 37)=w9 at *;go_wp2_with fail;go_roundg (g.length-(i+1))
           case measure=>have:=HI.out;omega
           case rel=>exact⟨i+1,u,rfl,by push_cast;rfl,by have:=HI.out;omega,rfl,Zhe HI.out.2.2.1 HI.out.2.2.2.2 HI.out.2.2.2.1 D6.out HU.out ay,E.out⟩
         ·have td:((j.length:Int)==1)=false:=by rw[beq_eq_false_iff_ne];omega
          have a1:((j.length:Int) != 1)=true:=by rw[bne,td];rfl
          go_upto_region 12 with fail;have a5:=below_alloc1 wr (Yg #[Yd Yf l,.slice o s.length t,Yc J j.length f,.slice p b.length m,Yd Yf r] 37);have E:=zh (B.out _ _ a5 M.out);have n9:=(Blk.start wr #[Yd Yf l,.slice o s.length t,Yc J j.length f,.slice p b.length m,Yd Yf r] 37).cell 2;have n8:=(Blk.start wr #[Yd Yf l,.slice o s.length t,Yc J j.length f,.slice p b.length m,Yd Yf r] 37).cell 0;obtain⟨⟨R,S,T,U,V⟩,_⟩:=id E.out;generalize wr.alloc (Yg #[Yd Yf l,.slice o s.length t,Yc J j.length f,.slice p b.length m,Yd Yf r] 37)=w9 at *;go_wp2_with fail;go_ret;exact⟨Zh,Za E.out⟩
     ·cases zb:(yb==0)
      ·have FF:=zh (show ∀wr:Yh,Below w.heap.size w wr->Calls Tryz.prog 59 #[.agg #[Yd Yf 5,Yc X H.length Z,Yc (Ya C) a.length c2,Yc Y g.length c3,Yd Yf I]] wr fun e w'=>e=.returned (.bool (ZcV ⟨5,H,a,g,I⟩))/\Below wr.heap.size wr w' from fun wr K=>a8.out hl wr K);generalize au:ZcV ⟨5,H,a,g,I⟩=F at FF;have QF:=zh au;clear au;go_enter Tryz.func55,Tryz.ntmps55;go_upto_region 1 with fail;generalize(w.alloc (Yg #[Yd Yf 5,Yc X H.length Z,Yc (Ya C) a.length c2,Yc Y g.length c3,Yd Yf I] 37))=w1 at *
       go_wp2_with (first
        |(go_at_call 26;(with_reducible refine(WF.out w1 (Za L.out)).mono ?_);rintro f w2 ⟨rfl,D⟩;have G:=zh (B.out _ _ D L.out);obtain⟨⟨aj,ak,al,am,an⟩,_⟩:=id G.out;obtain⟨ba,bb,bc⟩:=NC.out w2 (Za G.out);clear D;cases W)
        |(go_at_call 59;(with_reducible refine(FF.out w2 (Za G.out)).mono ?_);rintro m w3 ⟨rfl,O⟩;have K3:=zh (B.out _ _ O G.out);obtain⟨⟨bp,bq,br,bs,bt⟩,_⟩:=id K3.out;obtain⟨dg,dh,di⟩:=NC.out w3 (Za K3.out);clear O;cases F))
       all_goals (try first|(go_ret;exact⟨Zh,Za G.out⟩)|(go_ret;exact⟨Zh,Za K3.out⟩))
       have QZ:=zh (Or.inr QF.out:(ya=0/\yb=0)\/ZcV ⟨5,H,a,g,I⟩=true);go_loopg [5,6] g.length (fun gk v5 v6 wr=>∃(i:Nat) (n:Int),v5=Yd Yf n/\v6=Yd Yf i/\i<=g.length/\gk=g.length-i/\(Zam ns (g.take i) (isB [6])=true/\ZaC ns (g.take i)=true/\Zf1 ns (g.take i)=n)/\((wr.cell? ⟨w.heap.size,0,Yb⟩=Ya (Yd Yf 5)/\wr.cell? ⟨w.heap.size,1,Yb⟩=Ya (Yc X H.length Z)/\wr.cell? ⟨w.heap.size,2,Yb⟩=Ya (Yc (Ya C) a.length c2)/\wr.cell? ⟨w.heap.size,3,Yb⟩=Ya (Yc Y g.length c3)/\wr.cell? ⟨w.heap.size,4,Yb⟩=Ya (Yd Yf I))/\Below w.heap.size w wr))
       case atStart=>exact⟨0,-1,rfl,rfl,Nat.zero_le _,rfl,⟨rfl,rfl,rfl⟩,K3.out⟩
       case round=>
        obtain⟨i,n,rfl,rfl,hi,P,hP,hS⟩:=hrel;have M:=zh hS;obtain⟨⟨cc,cd,ce,cf,cg⟩,_⟩:=hS;by_cases ah:i=g.length
        ·have e:g.take i=g:=by rw[ah];exact List.take_length
         rw[e]at hP;have HP:=zh hP;have ti:¬(i:Int)<(g.length:Int):=by omega
         clear e hP P;go_wp2_with fail;go_ret;exact⟨Zbc (ZgS QW.out HY.out qy qz QZ.out HP.out.1 HP.out.2.1),Za M.out⟩
        ·have Q:i<g.length:=by omega
         obtain⟨z,hz⟩:∃z,g[i]? = Ya z:=⟨_,Ym Q⟩
         have K:=KI.out z (List.mem_of_getElem? hz);obtain⟨q,rfl⟩:∃q:Nat,z=q:=⟨z.toNat,by omega⟩
         obtain⟨d,ad,cp,o,J,p,t,f,m,hd,ev,hI,hc⟩:=Zfp HN.out (q:=q) (by omega);injection ev with ea _ ec;subst ea ec;obtain⟨m0,m1,m2,m3,m4⟩:=hc wr (Za M.out);obtain⟨bx,ca,ev,_,_,R3⟩:=bn.out;injection ev with ea _ ec;subst ea ec;obtain⟨b9,rfl,z1⟩:=ints_at R3 (Za M.out) hz (by omega);have ti:(i:Int)<(g.length:Int):=by omega
         have cs:(0:Int)<=(i:Int):=by omega
         have tq:(q:Int)<(ns.length:Int):=by omega
         have ct:(0:Int)<=(q:Int):=by omega
         have wk:IntKind.i64.wrap ((i:Int)+1)=(i:Int)+1:=IntWalk.i64_in _ (by have:=KL.out;unfold maxLen at this;omega);have HI:=zh (zi Q (zi P (zi hP (zi hd hz))));have NI:=zh hI;clear P hP hz hd hI hc R3 ah Q hi K;obtain⟨l,s,j,b,r⟩:=d;dsimp only at m0 m1 m2 m3 m4 NI;cases z6:(l==6)
         ·have a7:(l != 6)=true:=by rw[bne,z6];rfl
          go_upto_region 12 with fail;have a5:=below_alloc1 wr (Yg #[Yd Yf l,.slice o s.length t,Yc J j.length f,.slice p b.length m,Yd Yf r] 37);have E:=zh (B.out _ _ a5 M.out);have n9:=(Blk.start wr #[Yd Yf l,.slice o s.length t,Yc J j.length f,.slice p b.length m,Yd Yf r] 37).cell 2;have n8:=(Blk.start wr #[Yd Yf l,.slice o s.length t,Yc J j.length f,.slice p b.length m,Yd Yf r] 37).cell 0;obtain⟨⟨R,S,T,U,V⟩,_⟩:=id E.out;generalize wr.alloc (Yg #[Yd Yf l,.slice o s.length t,Yc J j.length f,.slice p b.length m,Yd Yf r] 37)=w9 at *;go_wp2_with fail;go_ret;exact⟨Zh,Za E.out⟩
         ·have a7:(l != 6)=false:=by rw[bne,z6];rfl
          have D6:=zh (show l=6 by simpa using z6);by_cases qd:j.length=1
          ·have td:((j.length:Int)==1)=true:=by rw[beq_iff_eq];omega
           have a1:((j.length:Int) != 1)=false:=by rw[bne,td];rfl
           have cq:(0:Int)<(j.length:Int):=by omega
           obtain⟨u,hu⟩:=List.length_eq_one_iff.mp qd;obtain⟨bz,cb,ev,_,_,RU⟩:=NI.out;injection ev with ea _ ec;subst ea ec;obtain⟨h,rfl,_⟩:=ints_at (x:=u) RU (Below.refl _ _) (k:=0) (by rw[hu];rfl) (by omega);have UC:=zh (fun(wr:Yh) (K:Below w.heap.size w wr)=>show wr.cell? h=Ya (Yd Yf u)from by obtain⟨a2,f,q2⟩:=ints_at (x:=u) RU K (k:=0) (by rw[hu];rfl) (by omega);injection f with f;subst f;rwa[show h.add 0=h by unfold Addr.add;simp]at q2);have HU:=zh hu;clear hu qd RU;by_cases ql:u<=n
           ·go_upto_region 12 with fail;have a5:=below_alloc1 wr (Yg #[Yd Yf l,.slice o s.length t,Yc (Ya h) j.length f,.slice p b.length m,Yd Yf r] 37);have E:=zh (B.out _ _ a5 M.out);have n9:=(Blk.start wr #[Yd Yf l,.slice o s.length t,Yc (Ya h) j.length f,.slice p b.length m,Yd Yf r] 37).cell 2;have n8:=(Blk.start wr #[Yd Yf l,.slice o s.length t,Yc (Ya h) j.length f,.slice p b.length m,Yd Yf r] 37).cell 0;have u9:=UC.out _ (Za E.out);obtain⟨⟨R,S,T,U,V⟩,_⟩:=id E.out;generalize wr.alloc (Yg #[Yd Yf l,.slice o s.length t,Yc (Ya h) j.length f,.slice p b.length m,Yd Yf r] 37)=w9 at *;go_wp2_with fail;go_ret;exact⟨Zh,Za E.out⟩
           ·have ay:n<u:=by omega
            go_upto_region 12 with fail;have a5:=below_alloc1 wr (Yg #[Yd Yf l,.slice o s.length t,Yc (Ya h) j.length f,.slice p b.length m,Yd Yf r] 37);have E:=zh (B.out _ _ a5 M.out);have n9:=(Blk.start wr #[Yd Yf l,.slice o s.length t,Yc (Ya h) j.length f,.slice p b.length m,Yd Yf r] 37).cell 2;have n8:=(Blk.start wr #[Yd Yf l,.slice o s.length t,Yc (Ya h) j.length f,.slice p b.length m,Yd Yf r] 37).cell 0;have u9:=UC.out _ (Za E.out);obtain⟨⟨R,S,T,U,V⟩,_⟩:=id E.out;generalize wr.alloc (Yg #[Yd Yf l,.slice o s.length t,Yc (Ya h) j.length f,.slice p b.length m,Yd Yf r] 37)=w9 at *;go_wp2_with fail;go_roundg (g.length-(i+1))
            case measure=>have:=HI.out;omega
            case rel=>exact⟨i+1,u,rfl,by push_cast;rfl,by have:=HI.out;omega,rfl,Zhe HI.out.2.2.1 HI.out.2.2.2.2 HI.out.2.2.2.1 D6.out HU.out ay,E.out⟩
          ·have td:((j.length:Int)==1)=false:=by rw[beq_eq_false_iff_ne];omega
           have a1:((j.length:Int) != 1)=true:=by rw[bne,td];rfl
           go_upto_region 12 with fail;have a5:=below_alloc1 wr (Yg #[Yd Yf l,.slice o s.length t,Yc J j.length f,.slice p b.length m,Yd Yf r] 37);have E:=zh (B.out _ _ a5 M.out);have n9:=(Blk.start wr #[Yd Yf l,.slice o s.length t,Yc J j.length f,.slice p b.length m,Yd Yf r] 37).cell 2;have n8:=(Blk.start wr #[Yd Yf l,.slice o s.length t,Yc J j.length f,.slice p b.length m,Yd Yf r] 37).cell 0;obtain⟨⟨R,S,T,U,V⟩,_⟩:=id E.out;generalize wr.alloc (Yg #[Yd Yf l,.slice o s.length t,Yc J j.length f,.slice p b.length m,Yd Yf r] 37)=w9 at *;go_wp2_with fail;go_ret;exact⟨Zh,Za E.out⟩
      ·have QZ:=zh (Or.inl ⟨by simpa using za,by simpa using zb⟩:(ya=0/\yb=0)\/ZcV ⟨5,H,a,g,I⟩=true);go_enter Tryz.func55,Tryz.ntmps55;go_upto_region 1 with fail;generalize(w.alloc (Yg #[Yd Yf 5,Yc X H.length Z,Yc (Ya C) a.length c2,Yc Y g.length c3,Yd Yf I] 37))=w1 at *
       go_wp2_with (first
        |(go_at_call 26;(with_reducible refine(WF.out w1 (Za L.out)).mono ?_);rintro f w2 ⟨rfl,D⟩;have G:=zh (B.out _ _ D L.out);obtain⟨⟨aj,ak,al,am,an⟩,_⟩:=id G.out;obtain⟨ba,bb,bc⟩:=NC.out w2 (Za G.out);clear D;cases W))
       all_goals (try first|(go_ret;exact⟨Zh,Za G.out⟩)|(go_ret;exact⟨Zh,Za K3.out⟩))
       go_loopg [5,6] g.length (fun gk v5 v6 wr=>∃(i:Nat) (n:Int),v5=Yd Yf n/\v6=Yd Yf i/\i<=g.length/\gk=g.length-i/\(Zam ns (g.take i) (isB [6])=true/\ZaC ns (g.take i)=true/\Zf1 ns (g.take i)=n)/\((wr.cell? ⟨w.heap.size,0,Yb⟩=Ya (Yd Yf 5)/\wr.cell? ⟨w.heap.size,1,Yb⟩=Ya (Yc X H.length Z)/\wr.cell? ⟨w.heap.size,2,Yb⟩=Ya (Yc (Ya C) a.length c2)/\wr.cell? ⟨w.heap.size,3,Yb⟩=Ya (Yc Y g.length c3)/\wr.cell? ⟨w.heap.size,4,Yb⟩=Ya (Yd Yf I))/\Below w.heap.size w wr))
       case atStart=>exact⟨0,-1,rfl,rfl,Nat.zero_le _,rfl,⟨rfl,rfl,rfl⟩,G.out⟩
       case round=>
        obtain⟨i,n,rfl,rfl,hi,P,hP,hS⟩:=hrel;have M:=zh hS;obtain⟨⟨cc,cd,ce,cf,cg⟩,_⟩:=hS;by_cases ah:i=g.length
        ·have e:g.take i=g:=by rw[ah];exact List.take_length
         rw[e]at hP;have HP:=zh hP;have ti:¬(i:Int)<(g.length:Int):=by omega
         clear e hP P;go_wp2_with fail;go_ret;exact⟨Zbc (ZgS QW.out HY.out qy qz QZ.out HP.out.1 HP.out.2.1),Za M.out⟩
        ·have Q:i<g.length:=by omega
         obtain⟨z,hz⟩:∃z,g[i]? = Ya z:=⟨_,Ym Q⟩
         have K:=KI.out z (List.mem_of_getElem? hz);obtain⟨q,rfl⟩:∃q:Nat,z=q:=⟨z.toNat,by omega⟩
         obtain⟨d,ad,cp,o,J,p,t,f,m,hd,ev,hI,hc⟩:=Zfp HN.out (q:=q) (by omega);injection ev with ea _ ec;subst ea ec;obtain⟨m0,m1,m2,m3,m4⟩:=hc wr (Za M.out);obtain⟨bx,ca,ev,_,_,R3⟩:=bn.out;injection ev with ea _ ec;subst ea ec;obtain⟨b9,rfl,z1⟩:=ints_at R3 (Za M.out) hz (by omega);have ti:(i:Int)<(g.length:Int):=by omega
         have cs:(0:Int)<=(i:Int):=by omega
         have tq:(q:Int)<(ns.length:Int):=by omega
         have ct:(0:Int)<=(q:Int):=by omega
         have wk:IntKind.i64.wrap ((i:Int)+1)=(i:Int)+1:=IntWalk.i64_in _ (by have:=KL.out;unfold maxLen at this;omega);have HI:=zh (zi Q (zi P (zi hP (zi hd hz))));have NI:=zh hI;clear P hP hz hd hI hc R3 ah Q hi K;obtain⟨l,s,j,b,r⟩:=d;dsimp only at m0 m1 m2 m3 m4 NI;cases z6:(l==6)
         ·have a7:(l != 6)=true:=by rw[bne,z6];rfl
          go_upto_region 12 with fail;have a5:=below_alloc1 wr (Yg #[Yd Yf l,.slice o s.length t,Yc J j.length f,.slice p b.length m,Yd Yf r] 37);have E:=zh (B.out _ _ a5 M.out);have n9:=(Blk.start wr #[Yd Yf l,.slice o s.length t,Yc J j.length f,.slice p b.length m,Yd Yf r] 37).cell 2;have n8:=(Blk.start wr #[Yd Yf l,.slice o s.length t,Yc J j.length f,.slice p b.length m,Yd Yf r] 37).cell 0;obtain⟨⟨R,S,T,U,V⟩,_⟩:=id E.out;generalize wr.alloc (Yg #[Yd Yf l,.slice o s.length t,Yc J j.length f,.slice p b.length m,Yd Yf r] 37)=w9 at *;go_wp2_with fail;go_ret;exact⟨Zh,Za E.out⟩
         ·have a7:(l != 6)=false:=by rw[bne,z6];rfl
          have D6:=zh (show l=6 by simpa using z6);by_cases qd:j.length=1
          ·have td:((j.length:Int)==1)=true:=by rw[beq_iff_eq];omega
           have a1:((j.length:Int) != 1)=false:=by rw[bne,td];rfl
           have cq:(0:Int)<(j.length:Int):=by omega
           obtain⟨u,hu⟩:=List.length_eq_one_iff.mp qd;obtain⟨bz,cb,ev,_,_,RU⟩:=NI.out;injection ev with ea _ ec;subst ea ec;obtain⟨h,rfl,_⟩:=ints_at (x:=u) RU (Below.refl _ _) (k:=0) (by rw[hu];rfl) (by omega);have UC:=zh (fun(wr:Yh) (K:Below w.heap.size w wr)=>show wr.cell? h=Ya (Yd Yf u)from by obtain⟨a2,f,q2⟩:=ints_at (x:=u) RU K (k:=0) (by rw[hu];rfl) (by omega);injection f with f;subst f;rwa[show h.add 0=h by unfold Addr.add;simp]at q2);have HU:=zh hu;clear hu qd RU;by_cases ql:u<=n
           ·go_upto_region 12 with fail;have a5:=below_alloc1 wr (Yg #[Yd Yf l,.slice o s.length t,Yc (Ya h) j.length f,.slice p b.length m,Yd Yf r] 37);have E:=zh (B.out _ _ a5 M.out);have n9:=(Blk.start wr #[Yd Yf l,.slice o s.length t,Yc (Ya h) j.length f,.slice p b.length m,Yd Yf r] 37).cell 2;have n8:=(Blk.start wr #[Yd Yf l,.slice o s.length t,Yc (Ya h) j.length f,.slice p b.length m,Yd Yf r] 37).cell 0;have u9:=UC.out _ (Za E.out);obtain⟨⟨R,S,T,U,V⟩,_⟩:=id E.out;generalize wr.alloc (Yg #[Yd Yf l,.slice o s.length t,Yc (Ya h) j.length f,.slice p b.length m,Yd Yf r] 37)=w9 at *;go_wp2_with fail;go_ret;exact⟨Zh,Za E.out⟩
           ·have ay:n<u:=by omega
            go_upto_region 12 with fail;have a5:=below_alloc1 wr (Yg #[Yd Yf l,.slice o s.length t,Yc (Ya h) j.length f,.slice p b.length m,Yd Yf r] 37);have E:=zh (B.out _ _ a5 M.out);have n9:=(Blk.start wr #[Yd Yf l,.slice o s.length t,Yc (Ya h) j.length f,.slice p b.length m,Yd Yf r] 37).cell 2;have n8:=(Blk.start wr #[Yd Yf l,.slice o s.length t,Yc (Ya h) j.length f,.slice p b.length m,Yd Yf r] 37).cell 0;have u9:=UC.out _ (Za E.out);obtain⟨⟨R,S,T,U,V⟩,_⟩:=id E.out;generalize wr.alloc (Yg #[Yd Yf l,.slice o s.length t,Yc (Ya h) j.length f,.slice p b.length m,Yd Yf r] 37)=w9 at *;go_wp2_with fail;go_roundg (g.length-(i+1))
            case measure=>have:=HI.out;omega
            case rel=>exact⟨i+1,u,rfl,by push_cast;rfl,by have:=HI.out;omega,rfl,Zhe HI.out.2.2.1 HI.out.2.2.2.2 HI.out.2.2.2.1 D6.out HU.out ay,E.out⟩
          ·have td:((j.length:Int)==1)=false:=by rw[beq_eq_false_iff_ne];omega
           have a1:((j.length:Int) != 1)=true:=by rw[bne,td];rfl
           go_upto_region 12 with fail;have a5:=below_alloc1 wr (Yg #[Yd Yf l,.slice o s.length t,Yc J j.length f,.slice p b.length m,Yd Yf r] 37);have E:=zh (B.out _ _ a5 M.out);have n9:=(Blk.start wr #[Yd Yf l,.slice o s.length t,Yc J j.length f,.slice p b.length m,Yd Yf r] 37).cell 2;have n8:=(Blk.start wr #[Yd Yf l,.slice o s.length t,Yc J j.length f,.slice p b.length m,Yd Yf r] 37).cell 0;obtain⟨⟨R,S,T,U,V⟩,_⟩:=id E.out;generalize wr.alloc (Yg #[Yd Yf l,.slice o s.length t,Yc J j.length f,.slice p b.length m,Yd Yf r] 37)=w9 at *;go_wp2_with fail;go_ret;exact⟨Zh,Za E.out⟩
    ·have tz:4<y:=by omega
     go_enter Tryz.func55,Tryz.ntmps55;go_upto_region 1 with fail;generalize(w.alloc (Yg #[Yd Yf 5,Yc X H.length Z,Yc (Ya C) a.length c2,Yc Y g.length c3,Yd Yf I] 37))=w1 at *
     go_wp2_with (first
      |(go_at_call 26;(with_reducible refine(WF.out w1 (Za L.out)).mono ?_);rintro f w2 ⟨rfl,D⟩;have G:=zh (B.out _ _ D L.out);obtain⟨⟨aj,ak,al,am,an⟩,_⟩:=id G.out;obtain⟨ba,bb,bc⟩:=NC.out w2 (Za G.out);clear D;cases W))
     all_goals go_ret
     all_goals first
      |exact⟨Zh,Za G.out⟩
      |exact⟨Zh,Za L.out⟩
   ·have ty:y<0:=by omega
    go_enter Tryz.func55,Tryz.ntmps55;go_upto_region 1 with fail;generalize(w.alloc (Yg #[Yd Yf 5,Yc X H.length Z,Yc (Ya C) a.length c2,Yc Y g.length c3,Yd Yf I] 37))=w1 at *
    go_wp2_with (first
     |(go_at_call 26;(with_reducible refine(WF.out w1 (Za L.out)).mono ?_);rintro f w2 ⟨rfl,D⟩;have G:=zh (B.out _ _ D L.out);obtain⟨⟨aj,ak,al,am,an⟩,_⟩:=id G.out;obtain⟨ba,bb,bc⟩:=NC.out w2 (Za G.out);clear D;cases W))
    all_goals go_ret
    all_goals first
     |exact⟨Zh,Za G.out⟩
     |exact⟨Zh,Za L.out⟩
  ·have tn:((a.length:Int)==3)=false:=by rw[beq_eq_false_iff_ne];omega
   have df:((a.length:Int) != 3)=true:=by rw[bne,tn];rfl
   go_enter Tryz.func55,Tryz.ntmps55;go_upto_region 1 with fail;generalize(w.alloc (Yg #[Yd Yf 5,Yc X H.length Z,Yc A2 a.length c2,Yc Y g.length c3,Yd Yf I] 37))=w1 at *
   go_wp2_with (first
    |(go_at_call 26;(with_reducible refine(WF.out w1 (Za L.out)).mono ?_);rintro f w2 ⟨rfl,D⟩;have G:=zh (B.out _ _ D L.out);obtain⟨⟨aj,ak,al,am,an⟩,_⟩:=id G.out;clear D;cases W))
   all_goals go_ret
   all_goals first
    |exact⟨Zh,Za G.out⟩
    |exact⟨Zh,Za L.out⟩
end
end Go.Proofs.YtfbepcelkijgkaaGreatDoor
