import Derived.Deep.DeepFit
import Derived.Test.YtdkegpkfjgloeaaGreatDoorQAK
set_option maxRecDepth 100000
set_option maxHeartbeats 8000000
open Option renaming some → Ya, none → Yb
open Go.Value renaming slice → Yc, int → Yd
open Go.IntKind renaming i64 → Yf
open Go.Obj renaming cells → Yg
open Go renaming World → Yh, Value → Yi
open Go.RowKit
namespace Go.Proofs.YtdkegpkfjgloeaaGreatDoor
theorem ZfE {w:Yh} {v:Yi} {ns:List Nd} (D:Zi w v ns) {q:Nat} (hq:q<ns.length):∃(d:Nd) (a:Addr) (r:Nat) (h b i:Option Addr) (e1 f j:Nat),ns[q]? = Ya d/\v=Yc (Ya a) ns.length r/\Za7 w (.slice b d.nums.length f) d.nums/\∀wr:Yh,Below w.heap.size w wr ->
  wr.cell? (a.add (q*5))=Ya (Yd Yf d.kind)/\wr.cell? ⟨(a.add (q*5)).block,(a.add (q*5)).off+1,Yb⟩=Ya (.slice h d.words.length e1)/\wr.cell? ⟨(a.add (q*5)).block,(a.add (q*5)).off+2,Yb⟩=Ya (.slice b d.nums.length f)/\wr.cell? ⟨(a.add (q*5)).block,(a.add (q*5)).off+3,Yb⟩=Ya (.slice i d.kids.length j)/\wr.cell? ⟨(a.add (q*5)).block,(a.add (q*5)).off+4,Yb⟩=Ya (Yd Yf d.pos):=by
 obtain⟨A,c,G,rfl,H,I,n,o,u⟩:=D;obtain⟨y,g⟩:∃y,G[q]? = Ya y:=⟨_,Ym (by have:=congrArg List.length n;rw[List.length_map]at this;omega)⟩
 have hd:ns[q]? = Ya y.2:=by rw[<-n,List.getElem?_map,g];rfl
 obtain⟨a,rfl,_⟩:=ZaG o (Below.refl _ _) g (by omega);obtain⟨⟨h,e1,z,_⟩,⟨b,f,B,F⟩,i,j,C,_⟩:=u y (List.mem_of_getElem? g);refine⟨y.2,a,c,h,b,i,e1,f,j,hd,rfl,⟨b,f,rfl,F⟩,fun wr E=>?_⟩;obtain⟨p,e,s,k,l,m,t⟩:=ZaG o E g (by omega);injection e with e;subst e;rw[z]at k;rw[B]at l;rw[C]at m;exact⟨s,k,l,m,t⟩
theorem Zhi {e g y b c:Int} {i:List (List UInt8)} {a f:List Int} (d:a=[y,b,c]) (h:Zdc ⟨e,i,a,f,g⟩=true):1<=b/\b<1000000000000000000/\1<=c/\c<1000000000000000000:=by subst d;unfold Zdc at h;simp only[Bool.and_eq_true,decide_eq_true_eq]at h;exact⟨h.1.1.1,h.1.1.2,h.1.2,h.2⟩
theorem Zoc {ns:List Nd} {j y m n:Int} {i:List (List UInt8)} {g h:List Int} (t:ZA ⟨13,i,g,h,j⟩ 2 2=true) (l:g=[y,m,n]) (w:1<=y) (q:y<=4) (s:Zdc ⟨13,i,g,h,j⟩=true) (r:ZbH ns ⟨13,i,g,h,j⟩ 0 1 1=true):ZE ns ⟨13,i,g,h,j⟩=true:=by obtain⟨a,b,c⟩:=Zbu t;obtain⟨o,u,p,v⟩:=Zhi l s;obtain⟨d,e,f⟩:=ZdQ r;obtain⟨x,rfl⟩:=List.length_eq_one_iff.mp (show h.length=1 by omega);subst l;refine ZbN a (by simp[Zcm];omega) ?_;show(Zr _ 2 3&&(!(y==0)&&decide (y<=4)&&(decide (1<=m)&&decide (1<=n))&&(Zj ns [x] [isB [7]]||Zj ns [x] [isB [6],isB [7]]&&ZaC ns (atI [x] 0)==2)))=true;rw[ZbI (a:=2) (b:=3) (by show i.length=2;omega) rfl,ZeX (k:=x) (all_cons d).1,show(y==0)=false by rw[beq_eq_false_iff_ne];omega,decide_eq_true q,decide_eq_true o,decide_eq_true p];rfl
theorem Zod {ns:List Nd} {m y s t:Int} {i:List (List UInt8)} {g h:List Int} {q:Nat} {e:Nd} (C:ZA ⟨13,i,g,h,m⟩ 2 2=true) (r:g=[y,s,t]) (H:1<=y) (w:y<=4) (B:Zdc ⟨13,i,g,h,m⟩=true) (D:h[0]? = Ya (q:Int)) (p:ns[q]? = Ya e) (z:e.kind=6) (hn:e.nums=[2]) (A:ZbH ns ⟨13,i,g,h,m⟩ 1 1 1=true):ZE ns ⟨13,i,g,h,m⟩=true:=by
 obtain⟨a,b,c⟩:=Zbu C;obtain⟨u,F,v,G⟩:=Zhi r B;obtain⟨d,E,f⟩:=ZdQ A;obtain⟨x,j,rfl⟩:=Zgt (l:=h) (by omega);obtain rfl:x=(q:Int):=by simpa using D
 subst r;refine ZbN a (by simp[Zcm];omega) ?_;show(Zr _ 2 3&&(!(y==0)&&decide (y<=4)&&(decide (1<=s)&&decide (1<=t))&&(Zj ns [(q:Int),j] [isB [7]]||Zj ns [(q:Int),j] [isB [6],isB [7]]&&ZaC ns (atI [(q:Int),j] 0)==2)))=true;have n:isB [6] (Zs ns (q:Int))=true:=by rw[Zde p,z];rfl
 have o:ZaC ns (atI [(q:Int),j] 0)=2:=Zgo (k:=q) p hn;rw[ZbI (a:=2) (b:=3) (by show i.length=2;omega) rfl,Zgr (k:=(q:Int)) (l:=j) n (all_cons d).1,o,show(y==0)=false by rw[beq_eq_false_iff_ne];omega,decide_eq_true w,decide_eq_true u,decide_eq_true v,Bool.or_comm];rfl
theorem ZkW (w:Yh) (v:Yi) (ns:List Nd) (va vb vc:Yi) (r:List (List UInt8)) (a j:List Int) (p:Int) (hN:Zi w v ns) (hx:ZU w ((va,vb,vc),⟨13,r,a,j,p⟩)) (hk:ZaB j ns.length) :
  Calls Tryz.prog 26 #[v,ndV ((va,vb,vc),⟨13,r,a,j,p⟩)] w fun e w'=>OkB (ZE ns ⟨13,r,a,j,p⟩=true) e/\Below w.heap.size w w':=by
 obtain⟨h1,h2,h3⟩:=id hx;dsimp only at h1 h2 h3;obtain⟨WR,bt,be,ap,bd⟩:=hd6 hN hx hk;have HN:=zh hN;have ca:=zh h3;have KI:=zh hk;obtain⟨P,Q,rfl,_⟩:=h1;obtain⟨A2,R,rfl,_,_,bu⟩:=h2;have KL:=zh h3.len;obtain⟨A3,S,rfl,_⟩:=h3;have R2:=zh bu;unfold ndV at WR bt be ap bd⊢;dsimp only at WR bt be ap bd⊢;have c:=zh (ZcE w (Yd Yf 13) (Yc P r.length Q) (Yc A2 a.length R) (Yc A3 j.length S) (Yd Yf p));have bs:=ZcA w (Yd Yf 13) (Yc P r.length Q) (Yc A2 a.length R) (Yc A3 j.length S) (Yd Yf p);have s:=zh bs;obtain⟨⟨g0,g1,g2,g3,g4⟩,_⟩:=bs;clear bu hx hN hk;have WF:=zh (show ∀wr:Yh,Below w.heap.size w wr->Calls Tryz.prog 22 #[.agg #[Yd Yf 13,Yc P r.length Q,Yc A2 a.length R,Yc A3 j.length S,Yd Yf p],Yd Yf 2,Yd Yf 2] wr fun e w'=>e=.returned (.bool (ZA ⟨13,r,a,j,p⟩ 2 2))/\Below wr.heap.size wr w' from fun wr I=>WR.out wr I 2 2);generalize bz:ZA ⟨13,r,a,j,p⟩ 2 2=W at WF;have QW:=zh bz;clear bz;by_cases qn:a.length=3
 ·have tn:((a.length:Int)==3)=true:=by rw[beq_iff_eq];omega
  have cq:((a.length:Int) != 3)=false:=by rw[bne,tn];rfl
  have d0:(0:Int)<(a.length:Int):=by omega
  have d1:(1:Int)<(a.length:Int):=by omega
  have d2:(2:Int)<(a.length:Int):=by omega
  obtain⟨y,ya,yb,hy⟩:=Zhr qn;obtain⟨f,rfl,_⟩:=ints_at (x:=y) R2.out (Za s.out) (k:=0) (by rw[hy];rfl) (by omega)
  have E:=zh (fun(wr:Yh) (I:Below w.heap.size w wr)=>show wr.cell? f=Ya (Yd Yf y)/\wr.cell? ⟨f.block,f.off+1,Yb⟩=Ya (Yd Yf ya)/\wr.cell? ⟨f.block,f.off+2,Yb⟩=Ya (Yd Yf yb)from by
   obtain⟨a2,h,q2⟩:=ints_at (x:=y) R2.out I (k:=0) (by rw[hy];rfl) (by omega);injection h with h;subst h;obtain⟨a2,h,q3⟩:=ints_at (x:=ya) R2.out I (k:=1) (by rw[hy];rfl) (by omega);injection h with h;subst h;obtain⟨a2,h,q4⟩:=ints_at (x:=yb) R2.out I (k:=2) (by rw[hy];rfl) (by omega);injection h with h;subst h;rw[show f.add 0=f by unfold Addr.add;simp]at q2;rw[show f.add 1=⟨f.block,f.off+1,Yb⟩by unfold Addr.add;simp]at q3;rw[show f.add 2=⟨f.block,f.off+2,Yb⟩by unfold Addr.add;simp]at q4
   exact⟨q2,q3,q4⟩)
  obtain⟨d6,d7,d8⟩:=E.out _ (Za s.out);have HY:=zh hy;have hl:=zh qn;clear hy qn;by_cases qy:1<=y
  ·by_cases qz:y<=4
   ·have FF:=zh (show ∀wr:Yh,Below w.heap.size w wr->Calls Tryz.prog 52 #[.agg #[Yd Yf 13,Yc P r.length Q,Yc (Ya f) a.length R,Yc A3 j.length S,Yd Yf p]] wr fun e w'=>e=.returned (.bool (Zdc ⟨13,r,a,j,p⟩))/\Below wr.heap.size wr w' from fun wr I=>bd.out hl wr I);generalize bx:Zdc ⟨13,r,a,j,p⟩=F at FF;have QF:=zh bx;clear bx;by_cases qk:0<j.length
    ·have tk:((j.length:Int)==0)=false:=by rw[beq_eq_false_iff_ne];omega
     have QK:=zh qk;obtain⟨z,hz⟩:∃z,j[0]? = Ya z:=⟨_,Ym (by have:=QK.out;omega)⟩
     have ck:=KI.out z (List.mem_of_getElem? hz);obtain⟨q,rfl⟩:∃q:Nat,z=q:=⟨z.toNat,by omega⟩
     obtain⟨d,ad,cp,B1,B2,B3,e1,h,H,hd,rfl,hI,hc⟩:=ZfE HN.out (q:=q) (by omega);have NQ:=zh hc;have NI:=zh hI;clear hc hI;obtain⟨dc,dj,ev,_,_,R3⟩:=ca.out;injection ev with ea _ ec;subst ea ec;obtain⟨C,rfl,z1⟩:=ints_at R3 (Za s.out) hz (by have:=QK.out;omega);have ZC:=zh (fun(wr:Yh) (I:Below w.heap.size w wr)=>show wr.cell? C=Ya (Yd Yf (q:Int))from by obtain⟨a2,h,q2⟩:=ints_at R3 I hz (by have:=QK.out;omega);injection h with h;subst h;rwa[show C.add 0=C by unfold Addr.add;simp]at q2);have bf:kdR ns ⟨13,r,a,j,p⟩ 0=d.kind:=by unfold kdR;dsimp only;rw[Zcp hz,Zde hd]
     have tq:(q:Int)<(ns.length:Int):=by omega
     have d3:(0:Int)<=(q:Int):=by omega
     have dz:(0:Int)<(j.length:Int):=by have:=QK.out;omega
     have ZG:=zh (show ∀wr:Yh,Below w.heap.size w wr->Calls Tryz.prog 25 #[Yc (Ya ad) ns.length cp,.agg #[Yd Yf 13,Yc P r.length Q,Yc (Ya f) a.length R,Yc (Ya C) j.length S,Yd Yf p],Yd Yf 0] wr fun e w'=>e=.returned (Yd Yf d.kind)/\Below wr.heap.size wr w' from fun wr I=>by rw[<-bf];exact be.out wr I 0 (by have:=QK.out;omega));have HD:=zh (zi hd (zi hz bf));clear hd hz bf ck R3 z1;obtain⟨Z,dw,T,A,dp⟩:=d;dsimp only at NQ NI ZG HD;cases z6:(Z==6)
     ·have BF:=zh (show ∀wr:Yh,Below w.heap.size w wr->Calls Tryz.prog 51 #[Yc (Ya ad) ns.length cp,.agg #[Yd Yf 13,Yc P r.length Q,Yc (Ya f) a.length R,Yc (Ya C) j.length S,Yd Yf p],Yd Yf 0,Yd Yf 1,Yd Yf 1] wr fun e w'=>e=.returned (.bool (ZbH ns ⟨13,r,a,j,p⟩ 0 1 1))/\Below wr.heap.size wr w' from fun wr I=>ap.out wr I 0 1 1 (by omega) (by omega));generalize ag:ZbH ns ⟨13,r,a,j,p⟩ 0 1 1=B at BF;have QB:=zh ag;clear ag;go_enter Tryz.func26,Tryz.ntmps26;go_upto_region 1 with fail;generalize(w.alloc (Yg #[Yd Yf 13,Yc P r.length Q,Yc (Ya f) a.length R,Yc (Ya C) j.length S,Yd Yf p] 36))=O at *
      go_wp2_with (first
       |(go_at_call 22;go_fit (WF.out O (Za s.out));rintro h D ⟨rfl,b⟩;have g:=zh (c.out _ _ b s.out);obtain⟨⟨J,K,L,M,N⟩,_⟩:=id g.out;obtain⟨V,X,Y⟩:=E.out D (Za g.out);clear b;cases W)
       |(go_at_call 52;go_fit (FF.out D (Za g.out));rintro H U ⟨rfl,i⟩;have l:=zh (c.out _ _ i g.out);obtain⟨⟨ah,ai,aj,ak,al⟩,_⟩:=id l.out;obtain⟨am,an,ao⟩:=E.out U (Za l.out);clear i;cases F)
       |(go_at_call 25;go_fit (ZG.out U (Za l.out));rintro e4 m ⟨rfl,o⟩;have n:=zh (c.out _ _ o l.out);obtain⟨⟨aq,ar,au,av,aw⟩,_⟩:=id n.out;obtain⟨a7,a8,ba⟩:=E.out m (Za n.out);obtain⟨ax,ay,az,a1,a6⟩:=NQ.out m (Za n.out);have z4:=ZC.out m (Za n.out);clear o)
       |(go_at_call 51;go_fit (BF.out m (Za n.out));rintro e5 w5 ⟨rfl,bw⟩;have K5:=zh (c.out _ _ bw n.out);obtain⟨⟨dq,dr,ds,dt,du⟩,_⟩:=id K5.out;obtain⟨d9,eb,ed⟩:=E.out w5 (Za K5.out);clear bw;cases B))
      all_goals go_ret
      all_goals first
       |exact⟨Zbm (Zoc QW.out HY.out qy qz QF.out QB.out),Za K5.out⟩
       |exact⟨Zh,Za K5.out⟩
       |exact⟨Zh,Za n.out⟩
       |exact⟨Zh,Za l.out⟩
       |exact⟨Zh,Za g.out⟩
       |exact⟨Zh,Za s.out⟩
     ·have D6:=zh (show Z=6 by simpa using z6);by_cases qd:T.length=1
      ·have td:((T.length:Int)==1)=true:=by rw[beq_iff_eq];omega
       have dy:(0:Int)<(T.length:Int):=by omega
       obtain⟨u,hu⟩:=List.length_eq_one_iff.mp qd;obtain⟨dd,dl,ev,_,_,RU⟩:=NI.out;injection ev with ea _ ec;subst ea ec;obtain⟨t,rfl,_⟩:=ints_at (x:=u) RU (Below.refl _ _) (k:=0) (by rw[hu];rfl) (by omega);have UC:=zh (fun(wr:Yh) (I:Below w.heap.size w wr)=>show wr.cell? t=Ya (Yd Yf u)from by obtain⟨a2,h,q2⟩:=ints_at (x:=u) RU I (k:=0) (by rw[hu];rfl) (by omega);injection h with h;subst h;rwa[show t.add 0=t by unfold Addr.add;simp]at q2);have HU:=zh hu;clear hu qd RU;cases z2:(u==2)
       ·go_enter Tryz.func26,Tryz.ntmps26;go_upto_region 1 with fail;generalize(w.alloc (Yg #[Yd Yf 13,Yc P r.length Q,Yc (Ya f) a.length R,Yc (Ya C) j.length S,Yd Yf p] 36))=O at *
        go_upto_region 23 with(first
         |(go_at_call 22;go_fit (WF.out O (Za s.out));rintro h D ⟨rfl,b⟩;have g:=zh (c.out _ _ b s.out);obtain⟨⟨J,K,L,M,N⟩,_⟩:=id g.out;obtain⟨V,X,Y⟩:=E.out D (Za g.out);clear b;cases W)
         |(go_at_call 52;go_fit (FF.out D (Za g.out));rintro H U ⟨rfl,i⟩;have l:=zh (c.out _ _ i g.out);obtain⟨⟨ah,ai,aj,ak,al⟩,_⟩:=id l.out;obtain⟨am,an,ao⟩:=E.out U (Za l.out);clear i;cases F)
         |(go_at_call 25;go_fit (ZG.out U (Za l.out));rintro e4 m ⟨rfl,o⟩;have n:=zh (c.out _ _ o l.out);obtain⟨⟨aq,ar,au,av,aw⟩,_⟩:=id n.out;obtain⟨a7,a8,ba⟩:=E.out m (Za n.out);obtain⟨ax,ay,az,a1,a6⟩:=NQ.out m (Za n.out);have z4:=ZC.out m (Za n.out);clear o))
        all_goals (try first|(go_ret;exact⟨Zh,Za g.out⟩)|(go_ret;exact⟨Zh,Za l.out⟩))
        have a5:=below_alloc1 m (Yg #[Yd Yf Z,Yc B1 dw.length e1,Yc (Ya t) T.length h,Yc B3 A.length H,Yd Yf dp] 36);have G:=zh (c.out _ _ a5 n.out);have n9:=(Blk.start m #[Yd Yf Z,Yc B1 dw.length e1,Yc (Ya t) T.length h,Yc B3 A.length H,Yd Yf dp] 36).cell 2;have u9:=UC.out _ (Za G.out);obtain⟨⟨bg,bh,bi,bj,bk⟩,_⟩:=id G.out;generalize m.alloc (Yg #[Yd Yf Z,Yc B1 dw.length e1,Yc (Ya t) T.length h,Yc B3 A.length H,Yd Yf dp] 36)=w9 at *;go_wp2_with fail;go_ret;exact⟨Zh,Za G.out⟩
       ·have U2:=zh (show u=2 by simpa using z2);have BF:=zh (show ∀wr:Yh,Below w.heap.size w wr->Calls Tryz.prog 51 #[Yc (Ya ad) ns.length cp,.agg #[Yd Yf 13,Yc P r.length Q,Yc (Ya f) a.length R,Yc (Ya C) j.length S,Yd Yf p],Yd Yf 1,Yd Yf 1,Yd Yf 1] wr fun e w'=>e=.returned (.bool (ZbH ns ⟨13,r,a,j,p⟩ 1 1 1))/\Below wr.heap.size wr w' from fun wr I=>ap.out wr I 1 1 1 (by have:=QK.out;omega) (by omega));generalize ag:ZbH ns ⟨13,r,a,j,p⟩ 1 1 1=B at BF;have QB:=zh ag;clear ag;cases B
        ·go_enter Tryz.func26,Tryz.ntmps26;go_upto_region 1 with fail;generalize(w.alloc (Yg #[Yd Yf 13,Yc P r.length Q,Yc (Ya f) a.length R,Yc (Ya C) j.length S,Yd Yf p] 36))=O at *
         go_upto_region 23 with(first
          |(go_at_call 22;go_fit (WF.out O (Za s.out));rintro h D ⟨rfl,b⟩;have g:=zh (c.out _ _ b s.out);obtain⟨⟨J,K,L,M,N⟩,_⟩:=id g.out;obtain⟨V,X,Y⟩:=E.out D (Za g.out);clear b;cases W)
          |(go_at_call 52;go_fit (FF.out D (Za g.out));rintro H U ⟨rfl,i⟩;have l:=zh (c.out _ _ i g.out);obtain⟨⟨ah,ai,aj,ak,al⟩,_⟩:=id l.out;obtain⟨am,an,ao⟩:=E.out U (Za l.out);clear i;cases F)
          |(go_at_call 25;go_fit (ZG.out U (Za l.out));rintro e4 m ⟨rfl,o⟩;have n:=zh (c.out _ _ o l.out);obtain⟨⟨aq,ar,au,av,aw⟩,_⟩:=id n.out;obtain⟨a7,a8,ba⟩:=E.out m (Za n.out);obtain⟨ax,ay,az,a1,a6⟩:=NQ.out m (Za n.out);have z4:=ZC.out m (Za n.out);clear o))
         all_goals (try first|(go_ret;exact⟨Zh,Za g.out⟩)|(go_ret;exact⟨Zh,Za l.out⟩))
         have a5:=below_alloc1 m (Yg #[Yd Yf Z,Yc B1 dw.length e1,Yc (Ya t) T.length h,Yc B3 A.length H,Yd Yf dp] 36);have G:=zh (c.out _ _ a5 n.out);have n9:=(Blk.start m #[Yd Yf Z,Yc B1 dw.length e1,Yc (Ya t) T.length h,Yc B3 A.length H,Yd Yf dp] 36).cell 2;have u9:=UC.out _ (Za G.out);obtain⟨⟨bg,bh,bi,bj,bk⟩,_⟩:=id G.out;generalize m.alloc (Yg #[Yd Yf Z,Yc B1 dw.length e1,Yc (Ya t) T.length h,Yc B3 A.length H,Yd Yf dp] 36)=w9 at *;go_wp2_with (go_at_call 51;go_fit (BF.out w9 (Za G.out));rintro ea wa ⟨rfl,af⟩;have BA:=zh ((Za G.out).trans (af.mono (Za G.out).size));clear af);go_ret;exact⟨Zh,BA.out⟩
        ·go_enter Tryz.func26,Tryz.ntmps26;go_upto_region 1 with fail;generalize(w.alloc (Yg #[Yd Yf 13,Yc P r.length Q,Yc (Ya f) a.length R,Yc (Ya C) j.length S,Yd Yf p] 36))=O at *
         go_upto_region 23 with(first
          |(go_at_call 22;go_fit (WF.out O (Za s.out));rintro h D ⟨rfl,b⟩;have g:=zh (c.out _ _ b s.out);obtain⟨⟨J,K,L,M,N⟩,_⟩:=id g.out;obtain⟨V,X,Y⟩:=E.out D (Za g.out);clear b;cases W)
          |(go_at_call 52;go_fit (FF.out D (Za g.out));rintro H U ⟨rfl,i⟩;have l:=zh (c.out _ _ i g.out);obtain⟨⟨ah,ai,aj,ak,al⟩,_⟩:=id l.out;obtain⟨am,an,ao⟩:=E.out U (Za l.out);clear i;cases F)
          |(go_at_call 25;go_fit (ZG.out U (Za l.out));rintro e4 m ⟨rfl,o⟩;have n:=zh (c.out _ _ o l.out);obtain⟨⟨aq,ar,au,av,aw⟩,_⟩:=id n.out;obtain⟨a7,a8,ba⟩:=E.out m (Za n.out);obtain⟨ax,ay,az,a1,a6⟩:=NQ.out m (Za n.out);have z4:=ZC.out m (Za n.out);clear o))
         all_goals (try first|(go_ret;exact⟨Zh,Za g.out⟩)|(go_ret;exact⟨Zh,Za l.out⟩))
         have a5:=below_alloc1 m (Yg #[Yd Yf Z,Yc B1 dw.length e1,Yc (Ya t) T.length h,Yc B3 A.length H,Yd Yf dp] 36);have G:=zh (c.out _ _ a5 n.out);have n9:=(Blk.start m #[Yd Yf Z,Yc B1 dw.length e1,Yc (Ya t) T.length h,Yc B3 A.length H,Yd Yf dp] 36).cell 2;have u9:=UC.out _ (Za G.out);obtain⟨⟨bg,bh,bi,bj,bk⟩,_⟩:=id G.out;generalize m.alloc (Yg #[Yd Yf Z,Yc B1 dw.length e1,Yc (Ya t) T.length h,Yc B3 A.length H,Yd Yf dp] 36)=w9 at *;go_wp2_with (go_at_call 51;go_fit (BF.out w9 (Za G.out));rintro ea wa ⟨rfl,af⟩;have BA:=zh ((Za G.out).trans (af.mono (Za G.out).size));clear af);go_ret;exact⟨Zbm (Zod QW.out HY.out qy qz QF.out HD.out.2.1 HD.out.1 D6.out (HU.out.trans (by rw[U2.out])) QB.out),BA.out⟩
      ·have td:((T.length:Int)==1)=false:=by rw[beq_eq_false_iff_ne];omega
       go_enter Tryz.func26,Tryz.ntmps26;go_upto_region 1 with fail;generalize(w.alloc (Yg #[Yd Yf 13,Yc P r.length Q,Yc (Ya f) a.length R,Yc (Ya C) j.length S,Yd Yf p] 36))=O at *
       go_upto_region 23 with(first
        |(go_at_call 22;go_fit (WF.out O (Za s.out));rintro h D ⟨rfl,b⟩;have g:=zh (c.out _ _ b s.out);obtain⟨⟨J,K,L,M,N⟩,_⟩:=id g.out;obtain⟨V,X,Y⟩:=E.out D (Za g.out);clear b;cases W)
        |(go_at_call 52;go_fit (FF.out D (Za g.out));rintro H U ⟨rfl,i⟩;have l:=zh (c.out _ _ i g.out);obtain⟨⟨ah,ai,aj,ak,al⟩,_⟩:=id l.out;obtain⟨am,an,ao⟩:=E.out U (Za l.out);clear i;cases F)
        |(go_at_call 25;go_fit (ZG.out U (Za l.out));rintro e4 m ⟨rfl,o⟩;have n:=zh (c.out _ _ o l.out);obtain⟨⟨aq,ar,au,av,aw⟩,_⟩:=id n.out;obtain⟨a7,a8,ba⟩:=E.out m (Za n.out);obtain⟨ax,ay,az,a1,a6⟩:=NQ.out m (Za n.out);have z4:=ZC.out m (Za n.out);clear o))
       all_goals (try first|(go_ret;exact⟨Zh,Za g.out⟩)|(go_ret;exact⟨Zh,Za l.out⟩))
       have a5:=below_alloc1 m (Yg #[Yd Yf Z,Yc B1 dw.length e1,Yc B2 T.length h,Yc B3 A.length H,Yd Yf dp] 36);have G:=zh (c.out _ _ a5 n.out);have n9:=(Blk.start m #[Yd Yf Z,Yc B1 dw.length e1,Yc B2 T.length h,Yc B3 A.length H,Yd Yf dp] 36).cell 2;obtain⟨⟨bg,bh,bi,bj,bk⟩,_⟩:=id G.out;generalize m.alloc (Yg #[Yd Yf Z,Yc B1 dw.length e1,Yc B2 T.length h,Yc B3 A.length H,Yd Yf dp] 36)=w9 at *;go_wp2_with fail;go_ret;exact⟨Zh,Za G.out⟩
    ·have tk:((j.length:Int)==0)=true:=by rw[beq_iff_eq];omega
     go_enter Tryz.func26,Tryz.ntmps26;go_upto_region 1 with fail;generalize(w.alloc (Yg #[Yd Yf 13,Yc P r.length Q,Yc (Ya f) a.length R,Yc A3 j.length S,Yd Yf p] 36))=O at *
     go_wp2_with (first
      |(go_at_call 22;go_fit (WF.out O (Za s.out));rintro h D ⟨rfl,b⟩;have g:=zh (c.out _ _ b s.out);obtain⟨⟨J,K,L,M,N⟩,_⟩:=id g.out;obtain⟨V,X,Y⟩:=E.out D (Za g.out);clear b;cases W)
      |(go_at_call 52;go_fit (FF.out D (Za g.out));rintro H U ⟨rfl,i⟩;have l:=zh (c.out _ _ i g.out);obtain⟨⟨ah,ai,aj,ak,al⟩,_⟩:=id l.out;obtain⟨am,an,ao⟩:=E.out U (Za l.out);clear i;cases F))
     all_goals go_ret
     all_goals first
      |exact⟨Zh,Za l.out⟩
      |exact⟨Zh,Za g.out⟩
      |exact⟨Zh,Za s.out⟩
   ·have tz:4<y:=by omega
    go_enter Tryz.func26,Tryz.ntmps26;go_upto_region 1 with fail;generalize(w.alloc (Yg #[Yd Yf 13,Yc P r.length Q,Yc (Ya f) a.length R,Yc A3 j.length S,Yd Yf p] 36))=O at *
    go_wp2_with (first
     |(go_at_call 22;go_fit (WF.out O (Za s.out));rintro h D ⟨rfl,b⟩;have g:=zh (c.out _ _ b s.out);obtain⟨⟨J,K,L,M,N⟩,_⟩:=id g.out;obtain⟨V,X,Y⟩:=E.out D (Za g.out);clear b;cases W))
    all_goals go_ret
    all_goals first
     |exact⟨Zh,Za g.out⟩
     |exact⟨Zh,Za s.out⟩
  ·have ty:y<1:=by omega
   go_enter Tryz.func26,Tryz.ntmps26;go_upto_region 1 with fail;generalize(w.alloc (Yg #[Yd Yf 13,Yc P r.length Q,Yc (Ya f) a.length R,Yc A3 j.length S,Yd Yf p] 36))=O at *
   go_wp2_with (first
    |(go_at_call 22;go_fit (WF.out O (Za s.out));rintro h D ⟨rfl,b⟩;have g:=zh (c.out _ _ b s.out);obtain⟨⟨J,K,L,M,N⟩,_⟩:=id g.out;obtain⟨V,X,Y⟩:=E.out D (Za g.out);clear b;cases W))
   all_goals go_ret
   all_goals first
    |exact⟨Zh,Za g.out⟩
    |exact⟨Zh,Za s.out⟩
 ·have tn:((a.length:Int)==3)=false:=by rw[beq_eq_false_iff_ne];omega
  have cq:((a.length:Int) != 3)=true:=by rw[bne,tn];rfl
  go_enter Tryz.func26,Tryz.ntmps26;go_upto_region 1 with fail;generalize(w.alloc (Yg #[Yd Yf 13,Yc P r.length Q,Yc A2 a.length R,Yc A3 j.length S,Yd Yf p] 36))=O at *
  go_wp2_with (first
   |(go_at_call 22;go_fit (WF.out O (Za s.out));rintro h D ⟨rfl,b⟩;have g:=zh (c.out _ _ b s.out);obtain⟨⟨J,K,L,M,N⟩,_⟩:=id g.out;clear b;cases W))
  all_goals go_ret
  all_goals first
   |exact⟨Zh,Za g.out⟩
   |exact⟨Zh,Za s.out⟩
def Zgl (ns:List Nd) (i:Nat) (k:Int):Nat:=((ns.take i).map fun d=>d.kids.count k).sum
theorem Zjw {ns:List Nd} {i:Nat} {d:Nd} {k:Int} (hd:ns[i]? = Ya d):Zgl ns (i+1) k=Zgl ns i k+d.kids.count k:=by unfold Zgl;rw[List.take_add_one,hd,List.map_append,List.sum_append];simp
theorem Zp9 {ns:List Nd} {k:Int}:Zgl ns ns.length k=Zfq ns k:=by unfold Zgl Zfq;rw[List.take_length]
theorem Zm4 {l:List Int} {j:Nat} {x k:Int} (h:l[j]? = Ya x):(l.take (j+1)).count k=(l.take j).count k+(if x==k then 1 else 0):=by
 rw[List.take_add_one,h,List.count_append]
 congr 1
 show [x].count k=_;rw[List.count_singleton]
theorem ZgP {w:Yh} {A:Option Addr} {c:Nat} {ns:List Nd} (C:Zi w (Yc A ns.length c) ns) {q:Nat} {d:Nd} (hd:ns[q]? = Ya d):∃(a:Addr) (B:Option Addr) (e:Nat),A=Ya a/\d.kids.length<=maxLen/\(∀(j:Nat) (x:Int),d.kids[j]? = Ya x->∃b:Addr,B=Ya b/\∀wr:Yh,Below w.heap.size w wr->wr.cell? (b.add j)=Ya (Yd Yf x))/\∀wr:Yh,Below w.heap.size w wr->wr.cell? ⟨(a.add (q*5)).block,(a.add (q*5)).off+3,Yb⟩=Ya (Yc B d.kids.length e):=by
 obtain⟨F,G,E,v,H,I,n,o,z⟩:=C;injection v with ea _ ec;subst ea ec;have hq:=(List.getElem?_eq_some_iff.mp hd).1;obtain⟨y,g⟩:∃y,E[q]? = Ya y:=⟨_,Ym (by have:=congrArg List.length n;rw[List.length_map]at this;omega)⟩
 have k:y.2=d:=by
  have:ns[q]? = Ya y.2:=by rw[<-n,List.getElem?_map,g];rfl
  rw[hd]at this;exact(Option.some.inj this).symm
 obtain⟨a,rfl,_⟩:=ZaG o (Below.refl _ _) g (by omega);obtain⟨_,_,r,u,p,D,J,l⟩:=z y (List.mem_of_getElem? g);rw[k]at D l p;refine⟨a,r,u,rfl,by omega,fun j x hx=>?_,fun wr i=>?_⟩
 ·obtain⟨b,e,_⟩:=ints_at l (Below.refl _ _) hx (by have:=(List.getElem?_eq_some_iff.mp hx).1;omega);refine⟨b,e,fun wr i=>?_⟩;obtain⟨t,f,h⟩:=ints_at l i hx (by have:=(List.getElem?_eq_some_iff.mp hx).1;omega);rw[e]at f;injection f with f;subst f;exact h
 ·obtain⟨s,e,_,_,_,m,_⟩:=ZaG o i g (by omega);injection e with e;subst e;rw[p]at m;exact m
def Zee (ns:List Nd):Prop:=∀d∈ns,d.words.length*16<=140737488351232/\d.nums.length*8<=140737488351232/\d.kids.length*8<=140737488351232
theorem Zmn {ns:List Nd} (b:Zee ns) (k:Int):∀i,i<=ns.length->Zgl ns i k<=i*140737488355328
 |0,_=>by simp[Zgl]
 |i+1,h=>by
  have hd:ns[i]? = Ya ns[i]:=Ym (by omega);have:=Zmn b k i (by omega);have:=(b _ (List.mem_of_getElem? hd)).2.2;have:=List.count_le_length (a:=k) (l:=ns[i].kids);rw[Zjw hd];omega
theorem Zk9 (w:Yh) (v:Yi) (ns:List Nd) (k:Nat) (E:Zi w v ns) (J:ns.length<=1500) (K:Zee ns) :
  Calls Tryz.prog 20 #[v,Yd Yf k] w fun e w'=>e=.returned (Yd Yf (Zfq ns k))/\w=w':=by
 obtain⟨A,c,rfl⟩:∃A c,v=Yc A ns.length c:=by obtain⟨A,c,_,e,_⟩:=E;exact⟨A,c,e⟩
 have o:=zh (zi E (zi J K));clear E J K;go_enter Tryz.func20,Tryz.ntmps20;go_wp2_with fail;go_loopg [5,6] ns.length (fun gk v5 Q wr=>w=wr/\∃i:Nat,v5=Yd Yf (Zgl ns i k)/\Q=Yd Yf i/\i<=ns.length/\gk=ns.length-i)
 case atStart=>exact⟨rfl,0,rfl,rfl,Nat.zero_le _,rfl⟩
 case round=>
  obtain⟨rfl,i,rfl,rfl,F,d⟩:=hrel;by_cases f:i=ns.length
  ·have M:¬(i:Int)<(ns.length:Int):=by omega
   have C:=zh (show Zgl ns i k=Zfq ns k by rw[f,Zp9]);clear F d f;go_wp2_with fail;go_ret;exact⟨by rw[<-C.out];rfl,rfl⟩
  ·have l:i<ns.length:=by omega
   have hd:ns[i]? = Ya ns[i]:=Ym l;obtain⟨T,B,e,rfl,L,s,t⟩:=ZgP o.out.1 hd;have V:=t _ (Below.refl _ _);have u:=Zmn o.out.2.2 (k:Int) i F;have y:=(o.out.2.2 _ (List.mem_of_getElem? hd)).2.2;have z:=Zjw (k:=(k:Int)) hd;have M:(i:Int)<(ns.length:Int):=by omega
   have N:(0:Int)<=(i:Int):=by omega
   have Y:IntKind.i64.wrap ((i:Int)+1)=(i:Int)+1:=IntWalk.i64_in _ (by have:=o.out.2.1;omega);generalize ns[i].kids=a at *;generalize Zgl ns i k=p at *;have b:=zh (zi d (zi l (zi z (zi s (zi u (zi y o.out.2.1))))));clear d l z s t u y hd F f;go_wp2_with fail;go_loopg [5,7] a.length (fun D v5 R wr=>w=wr/\∃j:Nat,v5=Yd Yf ((p+(a.take j).count (k:Int):Nat):Int)/\R=Yd Yf j/\j<=a.length/\D=a.length-j)
   case atStart=>exact⟨rfl,0,by simp,rfl,Nat.zero_le _,rfl⟩
   case round=>
    obtain⟨rfl,j,rfl,rfl,I,hg2⟩:=hrel;by_cases h:j=a.length
    ·have O:¬(j:Int)<(a.length:Int):=by omega
     have H:a.take j=a:=by rw[h];exact List.take_length
     rw[H];clear I hg2 h H;go_wp2_with fail;go_roundg (ns.length-(i+1))
     case measure=>have:=b.out;omega
     case rel=>exact⟨rfl,i+1,by rw[b.out.2.2.1];first|rfl|(push_cast;rfl),by push_cast;rfl,by have:=b.out;omega,rfl⟩
    ·have g:j<a.length:=by omega
     obtain⟨x,hx⟩:∃x,a[j]? = Ya x:=⟨_,Ym g⟩
     obtain⟨U,rfl,r⟩:=b.out.2.2.2.1 j x hx;have W:=r _ (Below.refl _ _);have G:=Zm4 (k:=(k:Int)) hx;have cl:(a.take j).count (k:Int)<=j:=Nat.le_trans List.count_le_length (by rw[List.length_take];omega);have O:(j:Int)<(a.length:Int):=by omega
     have P:(0:Int)<=(j:Int):=by omega
     have X:IntKind.i64.wrap ((j:Int)+1)=(j:Int)+1:=IntWalk.i64_in _ (by have:=b.out;omega);have wc:IntKind.i64.wrap (((p+(a.take j).count (k:Int):Nat):Int)+1)=((p+(a.take j).count (k:Int):Nat):Int)+1:=IntWalk.i64_in _ (by have:=b.out;omega);have S:IntKind.i64.wrap ((p:Int)+((a.take j).count (k:Int):Nat)+1)=(p:Int)+((a.take j).count (k:Int):Nat)+1:=IntWalk.i64_in _ (by have:=b.out;omega);have n:=zh (zi g (zi hg2 G));clear g hg2 G cl r hx I h;generalize(a.take j).count (k:Int)=m at *;cases q:(x==(k:Int))
     ·go_wp2_with fail;go_roundg (a.length-(j+1))
      case measure=>have:=n.out;omega
      case rel=>exact⟨rfl,j+1,by rw[n.out.2.2,q];first|rfl|(push_cast;rfl)|(push_cast;simp),by push_cast;rfl,by have:=n.out;omega,rfl⟩
     ·go_wp2_with fail;go_roundg (a.length-(j+1))
      case measure=>have:=n.out;omega
      case rel=>exact⟨rfl,j+1,by rw[n.out.2.2,q];first|rfl|(push_cast;rfl)|(push_cast;rw[Int.add_assoc];rfl)|(push_cast;simp)|(simp;omega),by push_cast;rfl,by have:=n.out;omega,rfl⟩
def Zkb (ns:List Nd) (j:Nat):Prop:=∀(i:Nat) (d:Nd),i<j->ns[i]? = Ya d->Zfq ns i=(if i=0 then 0 else 1)/\∀k∈d.kids,(i:Int)<k/\k<(ns.length:Int)
def inB (n i:Nat) (l:List Int):Bool:=l.all fun k=>decide ((i:Int)<k)&&decide (k<(n:Int))
theorem Zkb.more {ns:List Nd} {j:Nat} {d:Nd} (h:Zkb ns j) (hd:ns[j]? = Ya d) (hc:Zfq ns j=(if j=0 then 0 else 1)) (hk:inB ns.length j d.kids=true):Zkb ns (j+1):=fun i e c b=>by
 by_cases q:i=j
 ·subst q;obtain rfl:d=e:=Option.some.inj (hd.symm.trans b);refine⟨hc,fun k a=>?_⟩;have:=List.all_eq_true.mp hk k a;simpa using this
 ·exact h i e (by omega) b
theorem ZlV (w:Yh) (v:Yi) (ns:List Nd) (O:Zi w v ns) (U:ns.length<=1500) (V:Zee ns) :
  Calls Tryz.prog 10 #[v] w fun e w'=>OkB (ZeV ns) e/\w=w':=by
 have PA:=zh (fun(k:Nat)=>Zk9 w v ns k O U V);obtain⟨A,c,rfl⟩:∃A c,v=Yc A ns.length c:=by obtain⟨A,c,_,e,_⟩:=O;exact⟨A,c,e⟩
 have Q:=zh (zi O (zi U V));clear O U V;go_enter Tryz.func10,Tryz.ntmps10;go_wp2_with fail;go_loopg [3] ns.length (fun gk v3 wr=>w=wr/\∃i:Nat,v3=Yd Yf i/\i<=ns.length/\gk=ns.length-i/\Zkb ns i)
 case atStart=>exact⟨rfl,0,rfl,Nat.zero_le _,rfl,fun i _ h=>absurd h (Nat.not_lt_zero _)⟩
 case round=>
  obtain⟨rfl,i,rfl,T,p,H⟩:=hrel;by_cases u:i=ns.length
  ·have ti:¬(i:Int)<(ns.length:Int):=by omega
   by_cases N:0<ns.length
   ·have P:=zh (show ZeV ns from⟨N,fun j d hd=>H j d (by have:=(List.getElem?_eq_some_iff.mp hd).1;omega) hd⟩);have tz:(0:Int)<(ns.length:Int):=by omega
    clear T p H u N;go_wp2_with fail;go_ret;exact⟨Zbm P.out,rfl⟩
   ·have tz:¬(0:Int)<(ns.length:Int):=by omega
    have an:(ns.length:Int)<=0:=by omega
    have H0:=zh N;clear T p H u N;go_wp2_with fail;go_ret;exact⟨by first|exact Zh|(show OkB _ (.returned (.bool (decide (0<ns.length))));rw[decide_eq_false H0.out];exact Zh),rfl⟩
  ·have y:i<ns.length:=by omega
   have hd:ns[i]? = Ya ns[i]:=Ym y;obtain⟨ad,B,e,rfl,ag,J,K⟩:=ZgP Q.out.1 hd;have d3:=K _ (Below.refl _ _);have L:=(Q.out.2.2 _ (List.mem_of_getElem? hd)).2.2;have ti:(i:Int)<(ns.length:Int):=by omega
   have al:(0:Int)<=(i:Int):=by omega
   have wk:IntKind.i64.wrap ((i:Int)+1)=(i:Int)+1:=IntWalk.i64_in _ (by have:=Q.out.2.1;omega);have Z:=zh (fun hc hk=>H.more hd hc hk);have M:=zh (PA.out i);generalize ns[i].kids=b at *;generalize Zfq ns (i:Int)=o at *;have q:=zh (zi p (zi y (zi J L)));clear p y J K L hd T u H;by_cases F:i=0
   ·have ez:((i:Int)==0)=true:=by rw[beq_iff_eq];omega
    by_cases hc:o=0
    ·have D:((o:Int)==0)=true:=by rw[beq_iff_eq];omega
     have E:((o:Int) != 0)=false:=by rw[bne,D];rfl
     have s:=zh (Z.out (by rw[hc];simp[F]));clear F hc;go_wp2_with (go_at_call 20;go_fit M.out;rintro e1 Y ⟨rfl,rfl⟩);go_loopg [5] b.length (fun t v5 wr=>w=wr/\∃j:Nat,v5=Yd Yf j/\j<=b.length/\t=b.length-j/\inB ns.length i (b.take j)=true)
     case atStart=>exact⟨rfl,0,rfl,Nat.zero_le _,rfl,rfl⟩
     case round=>
      obtain⟨rfl,j,rfl,I,hg2,a⟩:=hrel;by_cases l:j=b.length
      ·have W:¬(j:Int)<(b.length:Int):=by omega
       have G:b.take j=b:=by rw[l];exact List.take_length
       rw[G]at a;have R:=zh (s.out a);clear I hg2 l G a;go_wp2_with fail;go_roundg (ns.length-(i+1))
       case measure=>have:=q.out;omega
       case rel=>exact⟨rfl,i+1,by push_cast;rfl,by have:=q.out;omega,rfl,R.out⟩
      ·have g:j<b.length:=by omega
       obtain⟨x,hx⟩:∃x,b[j]? = Ya x:=⟨_,Ym g⟩
       obtain⟨ak,rfl,m⟩:=q.out.2.2.1 j x hx;have dx:=m _ (Below.refl _ _);have n:=ZcJ (f:=fun k=>decide ((i:Int)<k)&&decide (k<(ns.length:Int))) hx a;have W:(j:Int)<(b.length:Int):=by omega
       have X:(0:Int)<=(j:Int):=by omega
       have wj:IntKind.i64.wrap ((j:Int)+1)=(j:Int)+1:=IntWalk.i64_in _ (by have:=q.out;omega);have r:=zh (zi g (zi hg2 n));clear g hg2 n m hx I l a;by_cases q1:x<=(i:Int)
       ·go_wp2_with fail;go_ret;exact⟨Zh,rfl⟩
       ·have z:(i:Int)<x:=by omega
        by_cases q2:(ns.length:Int)<=x
        ·go_wp2_with fail;go_ret;exact⟨Zh,rfl⟩
        ·have C:x<(ns.length:Int):=by omega
         have S:=zh (r.out.2.2.trans (by rw[decide_eq_true z,decide_eq_true C];rfl:_=true));go_wp2_with fail;go_roundg (b.length-(j+1))
         case measure=>have:=r.out;omega
         case rel=>exact⟨rfl,j+1,by push_cast;rfl,by have:=r.out;omega,rfl,S.out⟩
    ·have D:((o:Int)==0)=false:=by rw[beq_eq_false_iff_ne];omega
     have E:((o:Int) != 0)=true:=by rw[bne,D];rfl
     clear F hc;go_wp2_with (go_at_call 20;go_fit M.out;rintro e1 Y ⟨rfl,rfl⟩);go_ret;exact⟨Zh,rfl⟩
   ·have ez:((i:Int)==0)=false:=by rw[beq_eq_false_iff_ne];omega
    by_cases hc:o=1
    ·have D:((o:Int)==1)=true:=by rw[beq_iff_eq];omega
     have E:((o:Int) != 1)=false:=by rw[bne,D];rfl
     have s:=zh (Z.out (by rw[hc];simp[F]));clear F hc;go_wp2_with (go_at_call 20;go_fit M.out;rintro e1 Y ⟨rfl,rfl⟩);go_loopg [5] b.length (fun t v5 wr=>w=wr/\∃j:Nat,v5=Yd Yf j/\j<=b.length/\t=b.length-j/\inB ns.length i (b.take j)=true)
     case atStart=>exact⟨rfl,0,rfl,Nat.zero_le _,rfl,rfl⟩
     case round=>
      obtain⟨rfl,j,rfl,I,hg2,a⟩:=hrel;by_cases l:j=b.length
      ·have W:¬(j:Int)<(b.length:Int):=by omega
       have G:b.take j=b:=by rw[l];exact List.take_length
       rw[G]at a;have R:=zh (s.out a);clear I hg2 l G a;go_wp2_with fail;go_roundg (ns.length-(i+1))
       case measure=>have:=q.out;omega
       case rel=>exact⟨rfl,i+1,by push_cast;rfl,by have:=q.out;omega,rfl,R.out⟩
      ·have g:j<b.length:=by omega
       obtain⟨x,hx⟩:∃x,b[j]? = Ya x:=⟨_,Ym g⟩
       obtain⟨ak,rfl,m⟩:=q.out.2.2.1 j x hx;have dx:=m _ (Below.refl _ _);have n:=ZcJ (f:=fun k=>decide ((i:Int)<k)&&decide (k<(ns.length:Int))) hx a;have W:(j:Int)<(b.length:Int):=by omega
       have X:(0:Int)<=(j:Int):=by omega
       have wj:IntKind.i64.wrap ((j:Int)+1)=(j:Int)+1:=IntWalk.i64_in _ (by have:=q.out;omega);have r:=zh (zi g (zi hg2 n));clear g hg2 n m hx I l a;by_cases q1:x<=(i:Int)
       ·go_wp2_with fail;go_ret;exact⟨Zh,rfl⟩
       ·have z:(i:Int)<x:=by omega
        by_cases q2:(ns.length:Int)<=x
        ·go_wp2_with fail;go_ret;exact⟨Zh,rfl⟩
        ·have C:x<(ns.length:Int):=by omega
         have S:=zh (r.out.2.2.trans (by rw[decide_eq_true z,decide_eq_true C];rfl:_=true));go_wp2_with fail;go_roundg (b.length-(j+1))
         case measure=>have:=r.out;omega
         case rel=>exact⟨rfl,j+1,by push_cast;rfl,by have:=r.out;omega,rfl,S.out⟩
    ·have D:((o:Int)==1)=false:=by rw[beq_eq_false_iff_ne];omega
     have E:((o:Int) != 1)=true:=by rw[bne,D];rfl
     clear F hc;go_wp2_with (go_at_call 20;go_fit M.out;rintro e1 Y ⟨rfl,rfl⟩);go_ret;exact⟨Zh,rfl⟩
def Zof (ns:List Nd):Prop:=∀(i:Nat) (d:Nd),ns[i]? = Ya d->∀k∈d.kids,(i:Int)<k/\k<(ns.length:Int)
theorem ZoL (ns:List Nd):∀(f:Nat) (k:Int),htF ns f k<=(f:Int)+1
 |0,_=>by rw[htF];omega
 |f+1,k=>by
  rw[htF]
  have:=ZgN ((Zb ns k).kids.map (htF ns f)) 0 ((f:Int)+1) (by omega) (fun x hx=>by
   obtain⟨y,_,rfl⟩:=List.mem_map.mp hx
   exact ZoL ns f y)
  unfold Zjk
  push_cast
  omega
def Zgm (g:Int->Int) (l:List Int):Int:=Zjk (l.map g)
theorem ZoZ {g:Int->Int} {l:List Int} {j:Nat} {x:Int} (h:l[j]? = Ya x):Zgm g (l.take (j+1))=max (Zgm g (l.take j)) (g x):=by unfold Zgm Zjk;rw[List.take_add_one,h,List.map_append,List.foldl_append];rfl
theorem ZiR (w:Yh) (v:Yi) (ns:List Nd) (k:Nat) (d:Nd) (u:Zi w v ns) (G:Zee ns) (hd:ns[k]? = Ya d) (g:Int->Int) (E:∀x,0<=g x/\g x<=1501)
  (t:∀c∈d.kids,Calls Tryz.prog 11 #[v,Yd Yf c] w fun e w'=>e=.returned (Yd Yf (g c))/\w=w') :
  Calls Tryz.prog 11 #[v,Yd Yf k] w fun e w'=>e=.returned (Yd Yf (Zgm g d.kids+1))/\w=w':=by
 obtain⟨A,c,rfl⟩:∃A c,v=Yc A ns.length c:=by obtain⟨A,c,_,e,_⟩:=u;exact⟨A,c,e⟩
 obtain⟨O,B,e,rfl,z,i,o⟩:=ZgP u hd;have J:=o _ (Below.refl _ _);have l:=(G _ (List.mem_of_getElem? hd)).2.2;have C:=(List.getElem?_eq_some_iff.mp hd).1;have T:(k:Int)<(ns.length:Int):=by omega
 have K:(0:Int)<=(k:Int):=by omega
 obtain⟨a,p⟩:∃a,a=d.kids:=⟨_,rfl⟩
 rw[<-p]at z i J l t⊢;have m:∀j,0<=Zgm g (a.take j)/\Zgm g (a.take j)<=1501:=fun j=>⟨ZgM _ 0 0 (Int.le_refl _),ZgN _ 0 1501 (by omega) (fun x hx=>by obtain⟨y,_,rfl⟩:=List.mem_map.mp hx;exact(E y).2)⟩;have q:=zh (zi i (zi l (zi t m)));clear i o l hd C t m G u p E;go_enter Tryz.func11,Tryz.ntmps11;go_wp2_with fail;go_loopg [5,6] a.length (fun gk v5 N wr=>w=wr/\∃j:Nat,v5=Yd Yf (Zgm g (a.take j))/\N=Yd Yf j/\j<=a.length/\gk=a.length-j)
 case atStart=>exact⟨rfl,0,rfl,rfl,Nat.zero_le _,rfl⟩
 case round=>
  obtain⟨rfl,j,rfl,rfl,F,b⟩:=hrel;have s:=q.out.2.2.2 j;by_cases h:j=a.length
  ·have L:¬(j:Int)<(a.length:Int):=by omega
   have D:a.take j=a:=by rw[h];exact List.take_length
   rw[D]at s⊢;have W:IntKind.i64.wrap (Zgm g a+1)=Zgm g a+1:=IntWalk.i64_in _ (by omega);clear F b h D s;go_wp2_with fail;go_ret;exact⟨rfl,rfl⟩
  ·have f:j<a.length:=by omega
   obtain⟨x,hx⟩:∃x,a[j]? = Ya x:=⟨_,Ym f⟩
   obtain⟨P,rfl,n⟩:=q.out.1 j x hx;have Q:=n _ (Below.refl _ _);have I:=zh (q.out.2.2.1 x (List.mem_of_getElem? hx));have H:=ZoZ (g:=g) hx;have L:(j:Int)<(a.length:Int):=by omega
   have M:(0:Int)<=(j:Int):=by omega
   have V:IntKind.i64.wrap ((j:Int)+1)=(j:Int)+1:=IntWalk.i64_in _ (by have:=q.out.2.1;omega);have r:=zh (zi f (zi b H));clear f b H n hx F h s;generalize Zgm g (a.take j)=S at *;generalize g x=R at *;go_wp2_with (go_at_call 11;go_fit I.out;rintro e1 U ⟨rfl,rfl⟩);go_roundg (a.length-(j+1))
   case measure=>have:=r.out;omega
   case rel=>exact⟨rfl,j+1,by rw[r.out.2.2],by push_cast;rfl,by have:=r.out;omega,rfl⟩
theorem ZjM (w:Yh) (v:Yi) (ns:List Nd) (d:Zi w v ns) (g:Zee ns) (b:Zof ns):∀(f k:Nat),f<=1500->k<ns.length->ns.length<=k+f+1 ->
  Calls Tryz.prog 11 #[v,Yd Yf k] w fun e w'=>e=.returned (Yd Yf (htF ns f k))/\w=w'
 |0,k,_,hk,hn=>by
  have hd:ns[k]? = Ya ns[k]:=Ym hk;have e:ns[k].kids=[]:=List.eq_nil_iff_forall_not_mem.mpr (fun y h=>by have:=b k _ hd y h;omega);have:=ZiR w v ns k _ d g hd (fun _=>0) (fun _=>by omega) (fun c hc=>by rw[e]at hc;cases hc);rw[e]at this;exact this
 |f+1,k,hf,hk,hn=>by
  have hd:ns[k]? = Ya ns[k]:=Ym hk
  have:=ZiR w v ns k _ d g hd (htF ns f) (fun x=>by have:=Zjd ns f x;have:=ZoL ns f x;omega) (fun c hc=>by
   have i:=b k _ hd c hc;obtain⟨a,rfl⟩:∃a:Nat,c=a:=⟨c.toNat,by omega⟩
   exact ZjM w v ns d g b f a (by omega) (by omega) (by omega))
  rw[htF,Zcg hd];exact this
def Zgd (ns:List Nd) (l:List Int):Int:=match l.getLast? with
 |none=>-1
 |some k=>ZaC ns k
theorem ZiV {ns:List Nd} {k:Int}:∀(l:List Int),ZaN ns l=true->Zgd ns l<ZaC ns k->ZaN ns (l++[k])=true
 |[],_,_=>rfl
 |[x],_,h=>by
  have h:ZaC ns x<ZaC ns k:=h;show(decide (ZaC ns x<ZaC ns k)&&ZaN ns [k])=true;rw[decide_eq_true h];rfl
 |x::y::r,h,hl=>by
  rw[ZaN,Bool.and_eq_true]at h;show(decide (ZaC ns x<ZaC ns y)&&ZaN ns ((y::r)++[k]))=true
  rw[h.1,ZiV (y::r) h.2 (by
   have e:(x::y::r).getLast? = (y::r).getLast?:=by simp[List.getLast?_cons]
   unfold Zgd at hl⊢
   rwa[e]at hl)]
  rfl
theorem Zho {ns:List Nd} {a:List Int} {i q:Nat} {b u:Int} {d j:Int} {l:List (List UInt8)} {f c:List Int} (p:Zat ns (a.take i) (isB [6])=true/\ZaN ns (a.take i)=true/\Zgd ns (a.take i)=b) (t:a[i]? = Ya (q:Int)) (hd:ns[q]? = Ya ⟨d,l,f,c,j⟩) (o:d=6) (s:f=[u]) (r:b<u) :
  Zat ns (a.take (i+1)) (isB [6])=true/\ZaN ns (a.take (i+1))=true/\Zgd ns (a.take (i+1))=u:=by
 obtain⟨g,m,n⟩:=p;have e:a.take (i+1)=a.take i++[(q:Int)]:=by rw[List.take_add_one,t];rfl
 have h:ZaC ns (q:Int)=u:=Zgo (k:=q) hd s;refine⟨?_,?_,?_⟩
 ·unfold Zat at g⊢;rw[e,List.all_append,g,List.all_cons,Zde hd,o];rfl
 ·rw[e];exact ZiV _ m (by rw[n,h];exact r)
 ·rw[e];unfold Zgd;rw[List.getLast?_concat];exact h
theorem Zoa {ns:List Nd} {f:List (List UInt8)} {d e:List Int} {g:Int} (h:ZA ⟨5,f,d,e,g⟩ 1 1=true) (hn:Zan ⟨5,f,d,e,g⟩=true) (hk:e.length=0):ZE ns ⟨5,f,d,e,g⟩=true:=by obtain⟨a,b,c⟩:=Zbu h;obtain rfl:d=[]:=ZbA hn;obtain rfl:=List.length_eq_zero_iff.mp hk;refine ZbN a rfl ?_;show(Zr _ 1 0&&Zj ns [] []||Zr _ 2 3&&ZcU ns _)=true;rw[ZbI (a:=1) (b:=0) (by show f.length=1;omega) rfl];rfl
theorem Zg3 {ns:List Nd} {i:List (List UInt8)} {d g:List Int} {k y e f:Int} (r:ZA ⟨5,i,d,g,k⟩ 2 2=true) (l:d=[y,e,f]) (v:0<=y) (o:y<=4) (p:(e=0/\f=0)\/Zdc ⟨5,i,d,g,k⟩=true) (ha:Zat ns g (isB [6])=true) (q:ZaN ns g=true):ZE ns ⟨5,i,d,g,k⟩=true:=by
 obtain⟨a,b,c⟩:=Zbu r;have j:(e=0/\f=0)\/(1<=e/\e<1000000000000000000/\1<=f/\f<1000000000000000000):=by
  rcases p with h|h
  ·exact .inl h
  ·exact .inr (Zhi l h)
 subst l;refine ZbN a (by simp[Zcm];omega) ?_;show(Zr _ 1 0&&Zj ns g []||Zr _ 2 3&&(decide (y<=4)&&((e==0&&f==0)||(decide (1<=e)&&decide (1<=f)))&&Zat ns g (isB [6])&&ZaN ns g))=true;have s:((e==0&&f==0)||(decide (1<=e)&&decide (1<=f)))=true:=by
  rcases j with⟨rfl,rfl⟩|⟨m,t,n,u⟩
  ·rfl
  ·rw[decide_eq_true m,decide_eq_true n,Bool.or_comm];rfl
 rw[ZbI (a:=2) (b:=3) (by show i.length=2;omega) rfl,s,ha,q,decide_eq_true o,Bool.or_comm];rfl
theorem Zk7 (w:Yh) (v:Yi) (ns:List Nd) (va vb vc:Yi) (G:List (List UInt8)) (a g:List Int) (H:Int) (hN:Zi w v ns) (hx:ZU w ((va,vb,vc),⟨5,G,a,g,H⟩)) (hk:ZaB g ns.length) :
  Calls Tryz.prog 48 #[v,ndV ((va,vb,vc),⟨5,G,a,g,H⟩)] w fun e w'=>OkB (ZE ns ⟨5,G,a,g,H⟩=true) e/\Below w.heap.size w w':=by
 obtain⟨h1,h2,h3⟩:=id hx;dsimp only at h1 h2 h3;obtain⟨WR,bn,b4,bz,a7⟩:=hd6 hN hx hk;have HN:=zh hN;have bm:=zh h3;have KI:=zh hk;obtain⟨Av,cv,rfl⟩:∃A c,v=Yc A ns.length c:=by obtain⟨A,c,_,e,_⟩:=hN;exact⟨A,c,e⟩
 obtain⟨V,Y,rfl,_⟩:=h1;obtain⟨A2,Z,rfl,_,_,b7⟩:=h2;have KL:=zh h3.len;obtain⟨X,c3,rfl,_⟩:=h3;have R2:=zh b7;unfold ndV at WR bn b4 bz a7⊢;dsimp only at WR bn b4 bz a7⊢;have t:=zh (ZcE w (Yd Yf 5) (Yc V G.length Y) (Yc A2 a.length Z) (Yc X g.length c3) (Yd Yf H));have b2:=ZcA w (Yd Yf 5) (Yc V G.length Y) (Yc A2 a.length Z) (Yc X g.length c3) (Yd Yf H);have K:=zh b2;obtain⟨⟨g0,g1,g2,g3,g4⟩,_⟩:=b2;clear b7 hx hN hk;by_cases qw:G.length=1
 ·have tw:((G.length:Int)==1)=true:=by rw[beq_iff_eq];omega
  clear qw;have WF:=zh (show ∀wr:Yh,Below w.heap.size w wr->Calls Tryz.prog 22 #[.agg #[Yd Yf 5,Yc V G.length Y,Yc A2 a.length Z,Yc X g.length c3,Yd Yf H],Yd Yf 1,Yd Yf 1] wr fun e w'=>e=.returned (.bool (ZA ⟨5,G,a,g,H⟩ 1 1))/\Below wr.heap.size wr w' from fun wr J=>WR.out wr J 1 1);generalize au:ZA ⟨5,G,a,g,H⟩ 1 1=W at WF;have QW:=zh au;clear au;have NF:=zh (show ∀wr:Yh,Below w.heap.size w wr->Calls Tryz.prog 23 #[.agg #[Yd Yf 5,Yc V G.length Y,Yc A2 a.length Z,Yc X g.length c3,Yd Yf H]] wr fun e w'=>e=.returned (.bool (Zan ⟨5,G,a,g,H⟩))/\Below wr.heap.size wr w' from fun wr J=>bn.out wr J);generalize ch:Zan ⟨5,G,a,g,H⟩=N at NF;have QN:=zh ch;clear ch;by_cases qk:g.length=0
  ·have tk:((g.length:Int)==0)=true:=by rw[beq_iff_eq];omega
   have QK:=zh qk;clear qk;go_enter Tryz.func48,Tryz.ntmps48;go_upto_region 1 with fail;generalize(w.alloc (Yg #[Yd Yf 5,Yc V G.length Y,Yc A2 a.length Z,Yc X g.length c3,Yd Yf H] 36))=w1 at *
   go_wp2_with (first
    |(go_at_call 22;go_fit (WF.out w1 (Za K.out));rintro f w2 ⟨rfl,C⟩;have E:=zh (t.out _ _ C K.out);obtain⟨⟨ai,aj,ak,al,am⟩,_⟩:=id E.out;clear C;cases W)
    |(go_at_call 23;go_fit (NF.out w2 (Za E.out));rintro m w3 ⟨rfl,M⟩;have K3:=zh (t.out _ _ M E.out);obtain⟨⟨bo,bp,bq,br,bs⟩,_⟩:=id K3.out;clear M;cases N))
   all_goals go_ret
   all_goals first
    |exact⟨Zbm (Zoa QW.out QN.out QK.out),Za K3.out⟩
    |exact⟨Zh,Za K3.out⟩
    |exact⟨Zh,Za E.out⟩
    |exact⟨Zh,Za K.out⟩
  ·have tk:((g.length:Int)==0)=false:=by rw[beq_eq_false_iff_ne];omega
   go_enter Tryz.func48,Tryz.ntmps48;go_upto_region 1 with fail;generalize(w.alloc (Yg #[Yd Yf 5,Yc V G.length Y,Yc A2 a.length Z,Yc X g.length c3,Yd Yf H] 36))=w1 at *
   go_wp2_with (first
    |(go_at_call 22;go_fit (WF.out w1 (Za K.out));rintro f w2 ⟨rfl,C⟩;have E:=zh (t.out _ _ C K.out);obtain⟨⟨ai,aj,ak,al,am⟩,_⟩:=id E.out;clear C;cases W)
    |(go_at_call 23;go_fit (NF.out w2 (Za E.out));rintro m w3 ⟨rfl,M⟩;have K3:=zh (t.out _ _ M E.out);obtain⟨⟨bo,bp,bq,br,bs⟩,_⟩:=id K3.out;clear M;cases N))
   all_goals go_ret
   all_goals first
    |exact⟨Zh,Za K3.out⟩
    |exact⟨Zh,Za E.out⟩
    |exact⟨Zh,Za K.out⟩
 ·have tw:((G.length:Int)==1)=false:=by rw[beq_eq_false_iff_ne];omega
  clear qw;have WF:=zh (show ∀wr:Yh,Below w.heap.size w wr->Calls Tryz.prog 22 #[.agg #[Yd Yf 5,Yc V G.length Y,Yc A2 a.length Z,Yc X g.length c3,Yd Yf H],Yd Yf 2,Yd Yf 2] wr fun e w'=>e=.returned (.bool (ZA ⟨5,G,a,g,H⟩ 2 2))/\Below wr.heap.size wr w' from fun wr J=>WR.out wr J 2 2);generalize au:ZA ⟨5,G,a,g,H⟩ 2 2=W at WF;have QW:=zh au;clear au;by_cases qn:a.length=3
  ·have tn:((a.length:Int)==3)=true:=by rw[beq_iff_eq];omega
   have de:((a.length:Int) != 3)=false:=by rw[bne,tn];rfl
   have d5:(0:Int)<(a.length:Int):=by omega
   have d6:(1:Int)<(a.length:Int):=by omega
   have d7:(2:Int)<(a.length:Int):=by omega
   obtain⟨y,ya,yb,hy⟩:=Zhr qn;obtain⟨B,rfl,_⟩:=ints_at (x:=y) R2.out (Za K.out) (k:=0) (by rw[hy];rfl) (by omega)
   have NC:=zh (fun(wr:Yh) (J:Below w.heap.size w wr)=>show wr.cell? B=Ya (Yd Yf y)/\wr.cell? ⟨B.block,B.off+1,Yb⟩=Ya (Yd Yf ya)/\wr.cell? ⟨B.block,B.off+2,Yb⟩=Ya (Yd Yf yb)from by
    obtain⟨a2,f,q2⟩:=ints_at (x:=y) R2.out J (k:=0) (by rw[hy];rfl) (by omega);injection f with f;subst f;obtain⟨a2,f,q3⟩:=ints_at (x:=ya) R2.out J (k:=1) (by rw[hy];rfl) (by omega);injection f with f;subst f;obtain⟨a2,f,q4⟩:=ints_at (x:=yb) R2.out J (k:=2) (by rw[hy];rfl) (by omega);injection f with f;subst f;rw[show B.add 0=B by unfold Addr.add;simp]at q2;rw[show B.add 1=⟨B.block,B.off+1,Yb⟩by unfold Addr.add;simp]at q3;rw[show B.add 2=⟨B.block,B.off+2,Yb⟩by unfold Addr.add;simp]at q4
    exact⟨q2,q3,q4⟩)
   obtain⟨d9,eb,ed⟩:=NC.out _ (Za K.out);have HY:=zh hy;have hl:=zh qn;clear hy qn;by_cases qy:0<=y
   ·by_cases qz:y<=4
    ·cases za:(ya==0)
     ·have FF:=zh (show ∀wr:Yh,Below w.heap.size w wr->Calls Tryz.prog 52 #[.agg #[Yd Yf 5,Yc V G.length Y,Yc (Ya B) a.length Z,Yc X g.length c3,Yd Yf H]] wr fun e w'=>e=.returned (.bool (Zdc ⟨5,G,a,g,H⟩))/\Below wr.heap.size wr w' from fun wr J=>a7.out hl wr J);generalize ar:Zdc ⟨5,G,a,g,H⟩=F at FF;have QF:=zh ar;clear ar;go_enter Tryz.func48,Tryz.ntmps48;go_upto_region 1 with fail;generalize(w.alloc (Yg #[Yd Yf 5,Yc V G.length Y,Yc (Ya B) a.length Z,Yc X g.length c3,Yd Yf H] 36))=w1 at *
      go_wp2_with (first
       |(go_at_call 22;go_fit (WF.out w1 (Za K.out));rintro f w2 ⟨rfl,C⟩;have E:=zh (t.out _ _ C K.out);obtain⟨⟨ai,aj,ak,al,am⟩,_⟩:=id E.out;obtain⟨a8,ba,bb⟩:=NC.out w2 (Za E.out);clear C;cases W)
       |(go_at_call 52;go_fit (FF.out w2 (Za E.out));rintro m w3 ⟨rfl,M⟩;have K3:=zh (t.out _ _ M E.out);obtain⟨⟨bo,bp,bq,br,bs⟩,_⟩:=id K3.out;obtain⟨df,dg,dh⟩:=NC.out w3 (Za K3.out);clear M;cases F))
      all_goals (try first|(go_ret;exact⟨Zh,Za E.out⟩)|(go_ret;exact⟨Zh,Za K3.out⟩))
      have QZ:=zh (Or.inr QF.out:(ya=0/\yb=0)\/Zdc ⟨5,G,a,g,H⟩=true);go_loopg [5,6] g.length (fun gk v5 v6 wr=>∃(i:Nat) (n:Int),v5=Yd Yf n/\v6=Yd Yf i/\i<=g.length/\gk=g.length-i/\(Zat ns (g.take i) (isB [6])=true/\ZaN ns (g.take i)=true/\Zgd ns (g.take i)=n)/\((wr.cell? ⟨w.heap.size,0,Yb⟩=Ya (Yd Yf 5)/\wr.cell? ⟨w.heap.size,1,Yb⟩=Ya (Yc V G.length Y)/\wr.cell? ⟨w.heap.size,2,Yb⟩=Ya (Yc (Ya B) a.length Z)/\wr.cell? ⟨w.heap.size,3,Yb⟩=Ya (Yc X g.length c3)/\wr.cell? ⟨w.heap.size,4,Yb⟩=Ya (Yd Yf H))/\Below w.heap.size w wr))
      case atStart=>exact⟨0,-1,rfl,rfl,Nat.zero_le _,rfl,⟨rfl,rfl,rfl⟩,K3.out⟩
      case round=>
       obtain⟨i,n,rfl,rfl,hi,O,hP,hS⟩:=hrel;have L:=zh hS;obtain⟨⟨cb,cc,cd,ce,cf⟩,_⟩:=hS;by_cases ag:i=g.length
       ·have e:g.take i=g:=by rw[ag];exact List.take_length
        rw[e]at hP;have HP:=zh hP;have ti:¬(i:Int)<(g.length:Int):=by omega
        clear e hP O;go_wp2_with fail;go_ret;exact⟨Zbm (Zg3 QW.out HY.out qy qz QZ.out HP.out.1 HP.out.2.1),Za L.out⟩
       ·have P:i<g.length:=by omega
        obtain⟨z,hz⟩:∃z,g[i]? = Ya z:=⟨_,Ym P⟩
        have J:=KI.out z (List.mem_of_getElem? hz);obtain⟨q,rfl⟩:∃q:Nat,z=q:=⟨z.toNat,by omega⟩
        obtain⟨d,ad,cp,o,I,p,e1,f,m,hd,ev,hI,hc⟩:=ZfE HN.out (q:=q) (by omega);injection ev with ea _ ec;subst ea ec;obtain⟨m0,m1,m2,m3,m4⟩:=hc wr (Za L.out);obtain⟨bw,b9,ev,_,_,R3⟩:=bm.out;injection ev with ea _ ec;subst ea ec;obtain⟨b8,rfl,z1⟩:=ints_at R3 (Za L.out) hz (by omega);have ti:(i:Int)<(g.length:Int):=by omega
        have cr:(0:Int)<=(i:Int):=by omega
        have tq:(q:Int)<(ns.length:Int):=by omega
        have cs:(0:Int)<=(q:Int):=by omega
        have wk:IntKind.i64.wrap ((i:Int)+1)=(i:Int)+1:=IntWalk.i64_in _ (by have:=KL.out;unfold maxLen at this;omega);have HI:=zh (zi P (zi O (zi hP (zi hd hz))));have NI:=zh hI;clear O hP hz hd hI hc R3 ag P hi J;obtain⟨l,s,j,b,r⟩:=d;dsimp only at m0 m1 m2 m3 m4 NI;cases z6:(l==6)
        ·have a6:(l != 6)=true:=by rw[bne,z6];rfl
         go_upto_region 12 with fail;have a5:=below_alloc1 wr (Yg #[Yd Yf l,.slice o s.length e1,Yc I j.length f,.slice p b.length m,Yd Yf r] 36);have D:=zh (t.out _ _ a5 L.out);have n9:=(Blk.start wr #[Yd Yf l,.slice o s.length e1,Yc I j.length f,.slice p b.length m,Yd Yf r] 36).cell 2;have n8:=(Blk.start wr #[Yd Yf l,.slice o s.length e1,Yc I j.length f,.slice p b.length m,Yd Yf r] 36).cell 0;obtain⟨⟨Q,R,S,T,U⟩,_⟩:=id D.out;generalize wr.alloc (Yg #[Yd Yf l,.slice o s.length e1,Yc I j.length f,.slice p b.length m,Yd Yf r] 36)=w9 at *;go_wp2_with fail;go_ret;exact⟨Zh,Za D.out⟩
        ·have a6:(l != 6)=false:=by rw[bne,z6];rfl
         have D6:=zh (show l=6 by simpa using z6);by_cases qd:j.length=1
         ·have td:((j.length:Int)==1)=true:=by rw[beq_iff_eq];omega
          have az:((j.length:Int) != 1)=false:=by rw[bne,td];rfl
          have co:(0:Int)<(j.length:Int):=by omega
          obtain⟨u,hu⟩:=List.length_eq_one_iff.mp qd;obtain⟨bx,ca,ev,_,_,RU⟩:=NI.out;injection ev with ea _ ec;subst ea ec;obtain⟨h,rfl,_⟩:=ints_at (x:=u) RU (Below.refl _ _) (k:=0) (by rw[hu];rfl) (by omega);have UC:=zh (fun(wr:Yh) (J:Below w.heap.size w wr)=>show wr.cell? h=Ya (Yd Yf u)from by obtain⟨a2,f,q2⟩:=ints_at (x:=u) RU J (k:=0) (by rw[hu];rfl) (by omega);injection f with f;subst f;rwa[show h.add 0=h by unfold Addr.add;simp]at q2);have HU:=zh hu;clear hu qd RU;by_cases ql:u<=n
          ·go_upto_region 12 with fail;have a5:=below_alloc1 wr (Yg #[Yd Yf l,.slice o s.length e1,Yc (Ya h) j.length f,.slice p b.length m,Yd Yf r] 36);have D:=zh (t.out _ _ a5 L.out);have n9:=(Blk.start wr #[Yd Yf l,.slice o s.length e1,Yc (Ya h) j.length f,.slice p b.length m,Yd Yf r] 36).cell 2;have n8:=(Blk.start wr #[Yd Yf l,.slice o s.length e1,Yc (Ya h) j.length f,.slice p b.length m,Yd Yf r] 36).cell 0;have u9:=UC.out _ (Za D.out);obtain⟨⟨Q,R,S,T,U⟩,_⟩:=id D.out;generalize wr.alloc (Yg #[Yd Yf l,.slice o s.length e1,Yc (Ya h) j.length f,.slice p b.length m,Yd Yf r] 36)=w9 at *;go_wp2_with fail;go_ret;exact⟨Zh,Za D.out⟩
          ·have ax:n<u:=by omega
           go_upto_region 12 with fail;have a5:=below_alloc1 wr (Yg #[Yd Yf l,.slice o s.length e1,Yc (Ya h) j.length f,.slice p b.length m,Yd Yf r] 36);have D:=zh (t.out _ _ a5 L.out);have n9:=(Blk.start wr #[Yd Yf l,.slice o s.length e1,Yc (Ya h) j.length f,.slice p b.length m,Yd Yf r] 36).cell 2;have n8:=(Blk.start wr #[Yd Yf l,.slice o s.length e1,Yc (Ya h) j.length f,.slice p b.length m,Yd Yf r] 36).cell 0;have u9:=UC.out _ (Za D.out);obtain⟨⟨Q,R,S,T,U⟩,_⟩:=id D.out;generalize wr.alloc (Yg #[Yd Yf l,.slice o s.length e1,Yc (Ya h) j.length f,.slice p b.length m,Yd Yf r] 36)=w9 at *;go_wp2_with fail;go_roundg (g.length-(i+1))
           case measure=>have:=HI.out;omega
           case rel=>exact⟨i+1,u,rfl,by push_cast;rfl,by have:=HI.out;omega,rfl,Zho HI.out.2.2.1 HI.out.2.2.2.2 HI.out.2.2.2.1 D6.out HU.out ax,D.out⟩
         ·have td:((j.length:Int)==1)=false:=by rw[beq_eq_false_iff_ne];omega
          have az:((j.length:Int) != 1)=true:=by rw[bne,td];rfl
          go_upto_region 12 with fail;have a5:=below_alloc1 wr (Yg #[Yd Yf l,.slice o s.length e1,Yc I j.length f,.slice p b.length m,Yd Yf r] 36);have D:=zh (t.out _ _ a5 L.out);have n9:=(Blk.start wr #[Yd Yf l,.slice o s.length e1,Yc I j.length f,.slice p b.length m,Yd Yf r] 36).cell 2;have n8:=(Blk.start wr #[Yd Yf l,.slice o s.length e1,Yc I j.length f,.slice p b.length m,Yd Yf r] 36).cell 0;obtain⟨⟨Q,R,S,T,U⟩,_⟩:=id D.out;generalize wr.alloc (Yg #[Yd Yf l,.slice o s.length e1,Yc I j.length f,.slice p b.length m,Yd Yf r] 36)=w9 at *;go_wp2_with fail;go_ret;exact⟨Zh,Za D.out⟩
     ·cases zb:(yb==0)
      ·have FF:=zh (show ∀wr:Yh,Below w.heap.size w wr->Calls Tryz.prog 52 #[.agg #[Yd Yf 5,Yc V G.length Y,Yc (Ya B) a.length Z,Yc X g.length c3,Yd Yf H]] wr fun e w'=>e=.returned (.bool (Zdc ⟨5,G,a,g,H⟩))/\Below wr.heap.size wr w' from fun wr J=>a7.out hl wr J);generalize ar:Zdc ⟨5,G,a,g,H⟩=F at FF;have QF:=zh ar;clear ar;go_enter Tryz.func48,Tryz.ntmps48;go_upto_region 1 with fail;generalize(w.alloc (Yg #[Yd Yf 5,Yc V G.length Y,Yc (Ya B) a.length Z,Yc X g.length c3,Yd Yf H] 36))=w1 at *
       go_wp2_with (first
        |(go_at_call 22;go_fit (WF.out w1 (Za K.out));rintro f w2 ⟨rfl,C⟩;have E:=zh (t.out _ _ C K.out);obtain⟨⟨ai,aj,ak,al,am⟩,_⟩:=id E.out;obtain⟨a8,ba,bb⟩:=NC.out w2 (Za E.out);clear C;cases W)
        |(go_at_call 52;go_fit (FF.out w2 (Za E.out));rintro m w3 ⟨rfl,M⟩;have K3:=zh (t.out _ _ M E.out);obtain⟨⟨bo,bp,bq,br,bs⟩,_⟩:=id K3.out;obtain⟨df,dg,dh⟩:=NC.out w3 (Za K3.out);clear M;cases F))
       all_goals (try first|(go_ret;exact⟨Zh,Za E.out⟩)|(go_ret;exact⟨Zh,Za K3.out⟩))
       have QZ:=zh (Or.inr QF.out:(ya=0/\yb=0)\/Zdc ⟨5,G,a,g,H⟩=true);go_loopg [5,6] g.length (fun gk v5 v6 wr=>∃(i:Nat) (n:Int),v5=Yd Yf n/\v6=Yd Yf i/\i<=g.length/\gk=g.length-i/\(Zat ns (g.take i) (isB [6])=true/\ZaN ns (g.take i)=true/\Zgd ns (g.take i)=n)/\((wr.cell? ⟨w.heap.size,0,Yb⟩=Ya (Yd Yf 5)/\wr.cell? ⟨w.heap.size,1,Yb⟩=Ya (Yc V G.length Y)/\wr.cell? ⟨w.heap.size,2,Yb⟩=Ya (Yc (Ya B) a.length Z)/\wr.cell? ⟨w.heap.size,3,Yb⟩=Ya (Yc X g.length c3)/\wr.cell? ⟨w.heap.size,4,Yb⟩=Ya (Yd Yf H))/\Below w.heap.size w wr))
       case atStart=>exact⟨0,-1,rfl,rfl,Nat.zero_le _,rfl,⟨rfl,rfl,rfl⟩,K3.out⟩
       case round=>
        obtain⟨i,n,rfl,rfl,hi,O,hP,hS⟩:=hrel;have L:=zh hS;obtain⟨⟨cb,cc,cd,ce,cf⟩,_⟩:=hS;by_cases ag:i=g.length
        ·have e:g.take i=g:=by rw[ag];exact List.take_length
         rw[e]at hP;have HP:=zh hP;have ti:¬(i:Int)<(g.length:Int):=by omega
         clear e hP O;go_wp2_with fail;go_ret;exact⟨Zbm (Zg3 QW.out HY.out qy qz QZ.out HP.out.1 HP.out.2.1),Za L.out⟩
        ·have P:i<g.length:=by omega
         obtain⟨z,hz⟩:∃z,g[i]? = Ya z:=⟨_,Ym P⟩
         have J:=KI.out z (List.mem_of_getElem? hz);obtain⟨q,rfl⟩:∃q:Nat,z=q:=⟨z.toNat,by omega⟩
         obtain⟨d,ad,cp,o,I,p,e1,f,m,hd,ev,hI,hc⟩:=ZfE HN.out (q:=q) (by omega);injection ev with ea _ ec;subst ea ec;obtain⟨m0,m1,m2,m3,m4⟩:=hc wr (Za L.out);obtain⟨bw,b9,ev,_,_,R3⟩:=bm.out;injection ev with ea _ ec;subst ea ec;obtain⟨b8,rfl,z1⟩:=ints_at R3 (Za L.out) hz (by omega);have ti:(i:Int)<(g.length:Int):=by omega
         have cr:(0:Int)<=(i:Int):=by omega
         have tq:(q:Int)<(ns.length:Int):=by omega
         have cs:(0:Int)<=(q:Int):=by omega
         have wk:IntKind.i64.wrap ((i:Int)+1)=(i:Int)+1:=IntWalk.i64_in _ (by have:=KL.out;unfold maxLen at this;omega);have HI:=zh (zi P (zi O (zi hP (zi hd hz))));have NI:=zh hI;clear O hP hz hd hI hc R3 ag P hi J;obtain⟨l,s,j,b,r⟩:=d;dsimp only at m0 m1 m2 m3 m4 NI;cases z6:(l==6)
         ·have a6:(l != 6)=true:=by rw[bne,z6];rfl
          go_upto_region 12 with fail;have a5:=below_alloc1 wr (Yg #[Yd Yf l,.slice o s.length e1,Yc I j.length f,.slice p b.length m,Yd Yf r] 36);have D:=zh (t.out _ _ a5 L.out);have n9:=(Blk.start wr #[Yd Yf l,.slice o s.length e1,Yc I j.length f,.slice p b.length m,Yd Yf r] 36).cell 2;have n8:=(Blk.start wr #[Yd Yf l,.slice o s.length e1,Yc I j.length f,.slice p b.length m,Yd Yf r] 36).cell 0;obtain⟨⟨Q,R,S,T,U⟩,_⟩:=id D.out;generalize wr.alloc (Yg #[Yd Yf l,.slice o s.length e1,Yc I j.length f,.slice p b.length m,Yd Yf r] 36)=w9 at *;go_wp2_with fail;go_ret;exact⟨Zh,Za D.out⟩
         ·have a6:(l != 6)=false:=by rw[bne,z6];rfl
          have D6:=zh (show l=6 by simpa using z6);by_cases qd:j.length=1
          ·have td:((j.length:Int)==1)=true:=by rw[beq_iff_eq];omega
           have az:((j.length:Int) != 1)=false:=by rw[bne,td];rfl
           have co:(0:Int)<(j.length:Int):=by omega
           obtain⟨u,hu⟩:=List.length_eq_one_iff.mp qd;obtain⟨bx,ca,ev,_,_,RU⟩:=NI.out;injection ev with ea _ ec;subst ea ec;obtain⟨h,rfl,_⟩:=ints_at (x:=u) RU (Below.refl _ _) (k:=0) (by rw[hu];rfl) (by omega);have UC:=zh (fun(wr:Yh) (J:Below w.heap.size w wr)=>show wr.cell? h=Ya (Yd Yf u)from by obtain⟨a2,f,q2⟩:=ints_at (x:=u) RU J (k:=0) (by rw[hu];rfl) (by omega);injection f with f;subst f;rwa[show h.add 0=h by unfold Addr.add;simp]at q2);have HU:=zh hu;clear hu qd RU;by_cases ql:u<=n
           ·go_upto_region 12 with fail;have a5:=below_alloc1 wr (Yg #[Yd Yf l,.slice o s.length e1,Yc (Ya h) j.length f,.slice p b.length m,Yd Yf r] 36);have D:=zh (t.out _ _ a5 L.out);have n9:=(Blk.start wr #[Yd Yf l,.slice o s.length e1,Yc (Ya h) j.length f,.slice p b.length m,Yd Yf r] 36).cell 2;have n8:=(Blk.start wr #[Yd Yf l,.slice o s.length e1,Yc (Ya h) j.length f,.slice p b.length m,Yd Yf r] 36).cell 0;have u9:=UC.out _ (Za D.out);obtain⟨⟨Q,R,S,T,U⟩,_⟩:=id D.out;generalize wr.alloc (Yg #[Yd Yf l,.slice o s.length e1,Yc (Ya h) j.length f,.slice p b.length m,Yd Yf r] 36)=w9 at *;go_wp2_with fail;go_ret;exact⟨Zh,Za D.out⟩
           ·have ax:n<u:=by omega
            go_upto_region 12 with fail;have a5:=below_alloc1 wr (Yg #[Yd Yf l,.slice o s.length e1,Yc (Ya h) j.length f,.slice p b.length m,Yd Yf r] 36);have D:=zh (t.out _ _ a5 L.out);have n9:=(Blk.start wr #[Yd Yf l,.slice o s.length e1,Yc (Ya h) j.length f,.slice p b.length m,Yd Yf r] 36).cell 2;have n8:=(Blk.start wr #[Yd Yf l,.slice o s.length e1,Yc (Ya h) j.length f,.slice p b.length m,Yd Yf r] 36).cell 0;have u9:=UC.out _ (Za D.out);obtain⟨⟨Q,R,S,T,U⟩,_⟩:=id D.out;generalize wr.alloc (Yg #[Yd Yf l,.slice o s.length e1,Yc (Ya h) j.length f,.slice p b.length m,Yd Yf r] 36)=w9 at *;go_wp2_with fail;go_roundg (g.length-(i+1))
            case measure=>have:=HI.out;omega
            case rel=>exact⟨i+1,u,rfl,by push_cast;rfl,by have:=HI.out;omega,rfl,Zho HI.out.2.2.1 HI.out.2.2.2.2 HI.out.2.2.2.1 D6.out HU.out ax,D.out⟩
          ·have td:((j.length:Int)==1)=false:=by rw[beq_eq_false_iff_ne];omega
           have az:((j.length:Int) != 1)=true:=by rw[bne,td];rfl
           go_upto_region 12 with fail;have a5:=below_alloc1 wr (Yg #[Yd Yf l,.slice o s.length e1,Yc I j.length f,.slice p b.length m,Yd Yf r] 36);have D:=zh (t.out _ _ a5 L.out);have n9:=(Blk.start wr #[Yd Yf l,.slice o s.length e1,Yc I j.length f,.slice p b.length m,Yd Yf r] 36).cell 2;have n8:=(Blk.start wr #[Yd Yf l,.slice o s.length e1,Yc I j.length f,.slice p b.length m,Yd Yf r] 36).cell 0;obtain⟨⟨Q,R,S,T,U⟩,_⟩:=id D.out;generalize wr.alloc (Yg #[Yd Yf l,.slice o s.length e1,Yc I j.length f,.slice p b.length m,Yd Yf r] 36)=w9 at *;go_wp2_with fail;go_ret;exact⟨Zh,Za D.out⟩
      ·have QZ:=zh (Or.inl ⟨by simpa using za,by simpa using zb⟩:(ya=0/\yb=0)\/Zdc ⟨5,G,a,g,H⟩=true);go_enter Tryz.func48,Tryz.ntmps48;go_upto_region 1 with fail;generalize(w.alloc (Yg #[Yd Yf 5,Yc V G.length Y,Yc (Ya B) a.length Z,Yc X g.length c3,Yd Yf H] 36))=w1 at *
       go_wp2_with (first
        |(go_at_call 22;go_fit (WF.out w1 (Za K.out));rintro f w2 ⟨rfl,C⟩;have E:=zh (t.out _ _ C K.out);obtain⟨⟨ai,aj,ak,al,am⟩,_⟩:=id E.out;obtain⟨a8,ba,bb⟩:=NC.out w2 (Za E.out);clear C;cases W))
       all_goals (try first|(go_ret;exact⟨Zh,Za E.out⟩)|(go_ret;exact⟨Zh,Za K3.out⟩))
       go_loopg [5,6] g.length (fun gk v5 v6 wr=>∃(i:Nat) (n:Int),v5=Yd Yf n/\v6=Yd Yf i/\i<=g.length/\gk=g.length-i/\(Zat ns (g.take i) (isB [6])=true/\ZaN ns (g.take i)=true/\Zgd ns (g.take i)=n)/\((wr.cell? ⟨w.heap.size,0,Yb⟩=Ya (Yd Yf 5)/\wr.cell? ⟨w.heap.size,1,Yb⟩=Ya (Yc V G.length Y)/\wr.cell? ⟨w.heap.size,2,Yb⟩=Ya (Yc (Ya B) a.length Z)/\wr.cell? ⟨w.heap.size,3,Yb⟩=Ya (Yc X g.length c3)/\wr.cell? ⟨w.heap.size,4,Yb⟩=Ya (Yd Yf H))/\Below w.heap.size w wr))
       case atStart=>exact⟨0,-1,rfl,rfl,Nat.zero_le _,rfl,⟨rfl,rfl,rfl⟩,E.out⟩
       case round=>
        obtain⟨i,n,rfl,rfl,hi,O,hP,hS⟩:=hrel;have L:=zh hS;obtain⟨⟨cb,cc,cd,ce,cf⟩,_⟩:=hS;by_cases ag:i=g.length
        ·have e:g.take i=g:=by rw[ag];exact List.take_length
         rw[e]at hP;have HP:=zh hP;have ti:¬(i:Int)<(g.length:Int):=by omega
         clear e hP O;go_wp2_with fail;go_ret;exact⟨Zbm (Zg3 QW.out HY.out qy qz QZ.out HP.out.1 HP.out.2.1),Za L.out⟩
        ·have P:i<g.length:=by omega
         obtain⟨z,hz⟩:∃z,g[i]? = Ya z:=⟨_,Ym P⟩
         have J:=KI.out z (List.mem_of_getElem? hz);obtain⟨q,rfl⟩:∃q:Nat,z=q:=⟨z.toNat,by omega⟩
         obtain⟨d,ad,cp,o,I,p,e1,f,m,hd,ev,hI,hc⟩:=ZfE HN.out (q:=q) (by omega);injection ev with ea _ ec;subst ea ec;obtain⟨m0,m1,m2,m3,m4⟩:=hc wr (Za L.out);obtain⟨bw,b9,ev,_,_,R3⟩:=bm.out;injection ev with ea _ ec;subst ea ec;obtain⟨b8,rfl,z1⟩:=ints_at R3 (Za L.out) hz (by omega);have ti:(i:Int)<(g.length:Int):=by omega
         have cr:(0:Int)<=(i:Int):=by omega
         have tq:(q:Int)<(ns.length:Int):=by omega
         have cs:(0:Int)<=(q:Int):=by omega
         have wk:IntKind.i64.wrap ((i:Int)+1)=(i:Int)+1:=IntWalk.i64_in _ (by have:=KL.out;unfold maxLen at this;omega);have HI:=zh (zi P (zi O (zi hP (zi hd hz))));have NI:=zh hI;clear O hP hz hd hI hc R3 ag P hi J;obtain⟨l,s,j,b,r⟩:=d;dsimp only at m0 m1 m2 m3 m4 NI;cases z6:(l==6)
         ·have a6:(l != 6)=true:=by rw[bne,z6];rfl
          go_upto_region 12 with fail;have a5:=below_alloc1 wr (Yg #[Yd Yf l,.slice o s.length e1,Yc I j.length f,.slice p b.length m,Yd Yf r] 36);have D:=zh (t.out _ _ a5 L.out);have n9:=(Blk.start wr #[Yd Yf l,.slice o s.length e1,Yc I j.length f,.slice p b.length m,Yd Yf r] 36).cell 2;have n8:=(Blk.start wr #[Yd Yf l,.slice o s.length e1,Yc I j.length f,.slice p b.length m,Yd Yf r] 36).cell 0;obtain⟨⟨Q,R,S,T,U⟩,_⟩:=id D.out;generalize wr.alloc (Yg #[Yd Yf l,.slice o s.length e1,Yc I j.length f,.slice p b.length m,Yd Yf r] 36)=w9 at *;go_wp2_with fail;go_ret;exact⟨Zh,Za D.out⟩
         ·have a6:(l != 6)=false:=by rw[bne,z6];rfl
          have D6:=zh (show l=6 by simpa using z6);by_cases qd:j.length=1
          ·have td:((j.length:Int)==1)=true:=by rw[beq_iff_eq];omega
           have az:((j.length:Int) != 1)=false:=by rw[bne,td];rfl
           have co:(0:Int)<(j.length:Int):=by omega
           obtain⟨u,hu⟩:=List.length_eq_one_iff.mp qd;obtain⟨bx,ca,ev,_,_,RU⟩:=NI.out;injection ev with ea _ ec;subst ea ec;obtain⟨h,rfl,_⟩:=ints_at (x:=u) RU (Below.refl _ _) (k:=0) (by rw[hu];rfl) (by omega);have UC:=zh (fun(wr:Yh) (J:Below w.heap.size w wr)=>show wr.cell? h=Ya (Yd Yf u)from by obtain⟨a2,f,q2⟩:=ints_at (x:=u) RU J (k:=0) (by rw[hu];rfl) (by omega);injection f with f;subst f;rwa[show h.add 0=h by unfold Addr.add;simp]at q2);have HU:=zh hu;clear hu qd RU;by_cases ql:u<=n
           ·go_upto_region 12 with fail;have a5:=below_alloc1 wr (Yg #[Yd Yf l,.slice o s.length e1,Yc (Ya h) j.length f,.slice p b.length m,Yd Yf r] 36);have D:=zh (t.out _ _ a5 L.out);have n9:=(Blk.start wr #[Yd Yf l,.slice o s.length e1,Yc (Ya h) j.length f,.slice p b.length m,Yd Yf r] 36).cell 2;have n8:=(Blk.start wr #[Yd Yf l,.slice o s.length e1,Yc (Ya h) j.length f,.slice p b.length m,Yd Yf r] 36).cell 0;have u9:=UC.out _ (Za D.out);obtain⟨⟨Q,R,S,T,U⟩,_⟩:=id D.out;generalize wr.alloc (Yg #[Yd Yf l,.slice o s.length e1,Yc (Ya h) j.length f,.slice p b.length m,Yd Yf r] 36)=w9 at *;go_wp2_with fail;go_ret;exact⟨Zh,Za D.out⟩
           ·have ax:n<u:=by omega
            go_upto_region 12 with fail;have a5:=below_alloc1 wr (Yg #[Yd Yf l,.slice o s.length e1,Yc (Ya h) j.length f,.slice p b.length m,Yd Yf r] 36);have D:=zh (t.out _ _ a5 L.out);have n9:=(Blk.start wr #[Yd Yf l,.slice o s.length e1,Yc (Ya h) j.length f,.slice p b.length m,Yd Yf r] 36).cell 2;have n8:=(Blk.start wr #[Yd Yf l,.slice o s.length e1,Yc (Ya h) j.length f,.slice p b.length m,Yd Yf r] 36).cell 0;have u9:=UC.out _ (Za D.out);obtain⟨⟨Q,R,S,T,U⟩,_⟩:=id D.out;generalize wr.alloc (Yg #[Yd Yf l,.slice o s.length e1,Yc (Ya h) j.length f,.slice p b.length m,Yd Yf r] 36)=w9 at *;go_wp2_with fail;go_roundg (g.length-(i+1))
            case measure=>have:=HI.out;omega
            case rel=>exact⟨i+1,u,rfl,by push_cast;rfl,by have:=HI.out;omega,rfl,Zho HI.out.2.2.1 HI.out.2.2.2.2 HI.out.2.2.2.1 D6.out HU.out ax,D.out⟩
          ·have td:((j.length:Int)==1)=false:=by rw[beq_eq_false_iff_ne];omega
           have az:((j.length:Int) != 1)=true:=by rw[bne,td];rfl
           go_upto_region 12 with fail;have a5:=below_alloc1 wr (Yg #[Yd Yf l,.slice o s.length e1,Yc I j.length f,.slice p b.length m,Yd Yf r] 36);have D:=zh (t.out _ _ a5 L.out);have n9:=(Blk.start wr #[Yd Yf l,.slice o s.length e1,Yc I j.length f,.slice p b.length m,Yd Yf r] 36).cell 2;have n8:=(Blk.start wr #[Yd Yf l,.slice o s.length e1,Yc I j.length f,.slice p b.length m,Yd Yf r] 36).cell 0;obtain⟨⟨Q,R,S,T,U⟩,_⟩:=id D.out;generalize wr.alloc (Yg #[Yd Yf l,.slice o s.length e1,Yc I j.length f,.slice p b.length m,Yd Yf r] 36)=w9 at *;go_wp2_with fail;go_ret;exact⟨Zh,Za D.out⟩
    ·have tz:4<y:=by omega
     go_enter Tryz.func48,Tryz.ntmps48;go_upto_region 1 with fail;generalize(w.alloc (Yg #[Yd Yf 5,Yc V G.length Y,Yc (Ya B) a.length Z,Yc X g.length c3,Yd Yf H] 36))=w1 at *
     go_wp2_with (first
      |(go_at_call 22;go_fit (WF.out w1 (Za K.out));rintro f w2 ⟨rfl,C⟩;have E:=zh (t.out _ _ C K.out);obtain⟨⟨ai,aj,ak,al,am⟩,_⟩:=id E.out;obtain⟨a8,ba,bb⟩:=NC.out w2 (Za E.out);clear C;cases W))
     all_goals go_ret
     all_goals first
      |exact⟨Zh,Za E.out⟩
      |exact⟨Zh,Za K.out⟩
   ·have ty:y<0:=by omega
    go_enter Tryz.func48,Tryz.ntmps48;go_upto_region 1 with fail;generalize(w.alloc (Yg #[Yd Yf 5,Yc V G.length Y,Yc (Ya B) a.length Z,Yc X g.length c3,Yd Yf H] 36))=w1 at *
    go_wp2_with (first
     |(go_at_call 22;go_fit (WF.out w1 (Za K.out));rintro f w2 ⟨rfl,C⟩;have E:=zh (t.out _ _ C K.out);obtain⟨⟨ai,aj,ak,al,am⟩,_⟩:=id E.out;obtain⟨a8,ba,bb⟩:=NC.out w2 (Za E.out);clear C;cases W))
    all_goals go_ret
    all_goals first
     |exact⟨Zh,Za E.out⟩
     |exact⟨Zh,Za K.out⟩
  ·have tn:((a.length:Int)==3)=false:=by rw[beq_eq_false_iff_ne];omega
   have de:((a.length:Int) != 3)=true:=by rw[bne,tn];rfl
   go_enter Tryz.func48,Tryz.ntmps48;go_upto_region 1 with fail;generalize(w.alloc (Yg #[Yd Yf 5,Yc V G.length Y,Yc A2 a.length Z,Yc X g.length c3,Yd Yf H] 36))=w1 at *
   go_wp2_with (first
    |(go_at_call 22;go_fit (WF.out w1 (Za K.out));rintro f w2 ⟨rfl,C⟩;have E:=zh (t.out _ _ C K.out);obtain⟨⟨ai,aj,ak,al,am⟩,_⟩:=id E.out;clear C;cases W))
   all_goals go_ret
   all_goals first
    |exact⟨Zh,Za E.out⟩
    |exact⟨Zh,Za K.out⟩
end Go.Proofs.YtdkegpkfjgloeaaGreatDoor
