import Derived.Test.YtfbepcelkijgkaaGreatDoorQAC
import Derived.Test.YtfbepcelkijgkaaGreatDoorQAH
import Derived.Test.YtfbepcelkijgkaaGreatDoorQAJ
import Derived.Test.YtfbepcelkijgkaaGreatDoorQAZ
set_option maxRecDepth 100000
set_option maxHeartbeats 8000000
open Option renaming some → Ya, none → Yb
open Go.Value renaming slice → Yc, int → Yd
open Go.IntKind renaming i64 → Yf
open Go.Obj renaming cells → Yg
open Go renaming World → Yh
namespace Go.Proofs.YtfbepcelkijgkaaGreatDoor
section
open Go.RowKit
theorem ZmP {b:List Nd} {a j:Nat} {n:Int} (h:j≠a):(ZfE b a n)[j]? = b[j]?:=by
 unfold ZfE
 split
 ·rw[List.getElem?_set_ne (fun e=>h e.symm)]
 ·rfl
theorem ZqR {b:List Nd} {a:Nat} {n:Int} {x:Nd} (h:b[a]? = Ya x):(ZfE b a n)[a]? = Ya ⟨x.kind,x.words,x.nums,x.kids++[n],x.pos⟩:=by
 unfold ZfE;rw[h];exact List.getElem?_set_self (List.getElem?_eq_some_iff.1 h).1
mutual
theorem Zjx:∀(t:Tr) (a:List Nd) (j:Nat),j<a.length->(Zcz t a)[j]? = a[j]?
 |.mk k ws us p ks,a,j,hj=>by
  rw[Zcz,ZiD ks a.length _ j (by rw[Yj];omega) (by omega),List.getElem?_append_left hj]
theorem ZiD:∀(ts:List Tr) (a:Nat) (b:List Nd) (j:Nat),j<b.length->j≠a->(Zdf ts a b)[j]? = b[j]?
 |[],a,b,j,_,_=>by rw[Zdf]
 |t::r,a,b,j,hj,hne=>by
  rw[Zdf,ZiD r a _ j (by rw[ZfM,ZfF];omega) hne,Zjx t _ j (by rw[ZfF];exact hj),ZmP hne]
end
theorem ZmD:∀ts:List Tr,ts.length<=ZaD ts
 |[]=>Nat.zero_le _
 |t::r=>by
  have:=ZmD r;have a:1<=szT t:=by cases t;rw[szT];omega
  rw[ZaD,Yk];omega
theorem Zqm {W:Yh} {Q:Nat->Prop} {x:NV} {t:Tr} (h:TrO W Q x t):∀(w:Yh) (v:Value) (f:List (NdV×Nd)),Below W.heap.size W w->LayS w W.heap.size v f->f.length+szT t<=1000000 ->
  Calls Tryz.prog 21 #[ZbF (x,t),v] w fun e w'=>∃(v':Value) (ai:List (NdV×Nd)),e=.returned v'/\LayS w' W.heap.size v' ai/\ai.map (·.2)=Zcz t (f.map (·.2))/\Below W.heap.size W w'/\Zcv w w':=by
 obtain⟨iA,hA,bn,bo,bp⟩:=info_parts ZrU;obtain⟨iK,bd,bq,br,bs⟩:=info_parts ZrV
 induction h with
 |@mk Q wv uv lv k p ws us vs hw hm hu hl hq he ih=>
  intro w v f hb hL r;have S1:=Za8 hw;have S2:=Za8 hu;have S3:=Zbj hl;have S4:=Zbj hL.own;obtain⟨A,n,c,rfl⟩:=S1;obtain⟨B,m,d,rfl⟩:=S2;obtain⟨C,e,rfl⟩:=S3;obtain⟨O,o,rfl⟩:=S4;have hM:Zcz (.mk k ws us p (vs.map (·.2))) (f.map (·.2))=Zdf (vs.map (·.2)) f.length (f.map (·.2)++[⟨k,ws,us,[],p⟩]):=by rw[Zcz,List.length_map]
  have hS:szT (.mk k ws us p (vs.map (·.2)))=ZaD (vs.map (·.2))+1:=by rw[szT]
  rw[hS]at r;rw[hM];dsimp only[ZbF,Tr.kd,Tr.ps];obtain⟨R,hR⟩:∃R,R=Zdf (vs.map (·.2)) f.length (f.map (·.2)++[⟨k,ws,us,[],p⟩]):=⟨_,rfl⟩
  rw[<-hR];have a1:=below_alloc1 w (Yg #[Yd Yf k,Yc A n c,Yc B m d,Yc Yb 0 0,Yd Yf p,Yc C vs.length e] 58);have T1:=Zk.start w #[Yd Yf k,Yc A n c,Yc B m d,Yc Yb 0 0,Yd Yf p,Yc C vs.length e] 58;have L1:=hL.below a1;have b1:=hb.trans (a1.mono hb.size);generalize da:w.alloc (Yg #[Yd Yf k,Yc A n c,Yc B m d,Yc Yb 0 0,Yd Yf p,Yc C vs.length e] 58)=w1 at *;have z:=fun i=>T1.blk.cell i;have z0:=z 0;have z1:=z 1;have z2:=z 2;have z3:=z 3;have z4:=z 4;simp only[List.getElem?_toArray,List.getElem?_cons_zero,List.getElem?_cons_succ]at z0 z1 z2 z3 z4;have a2:=below_alloc1 w1 (Yg #[Yd Yf k,Yc A n c,Yc B m d,Yc Yb 0 0,Yd Yf p] 37);have L2:=zh (L1.below a2);have RD:=zh (Zny w1 (Yd Yf k) (Yc A n c) (Yc B m d) (Yc Yb 0 0) (Yd Yf p) 37);have b2:=b1.trans (a2.mono b1.size);generalize db:w1.alloc (Yg #[Yd Yf k,Yc A n c,Yc B m d,Yc Yb 0 0,Yd Yf p] 37)=w2 at *;have L:vs.length<=maxLen:=by
   rcases hl.2 with⟨_,q⟩|⟨_,bc,_,q,_,_,h3,h4,_⟩
   ·omega
   ·injection q with _ q2 q3;omega
  have G:=zh (zi hl (zi he (zi ih (zi L (zi r hm)))));have HO:=zh (zi hw hu);have HB:=zh (zi b2 ((Zcv.of_below a1).trans (Zcv.of_below a2)));have HT:=zh (T1.keep a2);have HR:=zh hR;have T:=zh (show Below W.heap.size W w2 from b2);clear z T1 a1 a2 L1 b1 b2 hw hm hu hl hq he ih hb hL r hM hS hR L;go_enter Tryz.func21,Tryz.ntmps21;go_upto_region 3 with(at_builtin;(refine ZaN _ rfl _ _ 22 rfl W.heap.size 37 iA (.agg #[Yd Yf 0,Yc Yb 0 0,Yc Yb 0 0,Yc Yb 0 0,Yd Yf 0]) 5 88 Tryz.underlying22 hA bn bo bp rfl (by decide) (Yc O f.length o) _ _ rfl L2.out.own _ _ 1 1 [Yd Yf k,Yc A n c,Yc B m d,Yc Yb 0 0,Yd Yf p] rfl RD.out (Zqe _ _ _ _ _ _ _ _ _ _ _) (by have:=G.out.2.2.2.2.1;unfold maxLen;omega) (by have:=G.out.2.2.2.2.1;omega) T.out.size ?_);intro v3 w3 j b _;have G3:=zh (zi j b);clear j b)
  have af:w2.ownsRow 0 9 1 (Yc A n c) ws.length (ws.map txt)/\w2.ownsRow 0 2 1 (Yc B m d) us.length (us.map (Value.int Yf))/\∀y∈ws,y.length<=maxLen:=
   ⟨Zcj HO.out.1 (T.out),Zcj HO.out.2 (T.out),G.out.2.2.2.2.2⟩
  have L3:=L2.out.push (x:=((Yc A n c,Yc B m d,Yc Yb 0 0),⟨k,ws,us,[],p⟩)) af ⟨rfl,rfl⟩ G3.out.1 G3.out.2;have F3:=Zic L3.own (by simp);obtain⟨g3,c3,c6,rfl,_,_⟩:=F3;have M:=zh (zi L3 (zi (T.out.grown G3.out.2 T.out.size (fun q hq=>(L2.out.own.lt q hq).1)) (Zcv.row L2.out.own (.inl rfl) G3.out.2)));clear af L3 z0 z1 z2 z3 z4;go_upto_region 4 with fail;go_loopg [1,6] vs.length (fun g v1 v6 wr=>∃(i:Nat) (a:List (NdV×Nd)),v6=Yd Yf i/\i<=vs.length/\g=vs.length-i/\LayS wr W.heap.size v1 a/\R=Zdf ((vs.map (·.2)).drop i) f.length (a.map (·.2))/\Below W.heap.size W wr/\Zcv w2 wr/\f.length<a.length/\a.length+ZaD ((vs.map (·.2)).drop i)<=1000000/\∃nq:Nd,(a.map (·.2))[f.length]? = Ya nq/\nq.kids.length=i)
  case atStart=>
   refine⟨0,f++[((Yc A n c,Yc B m d,Yc Yb 0 0),⟨k,ws,us,[],p⟩)],rfl,Nat.zero_le _,rfl,?_,?_,M.out.2.1,M.out.2.2,by simp,?_,⟨k,ws,us,[],p⟩,by simp,rfl⟩
   ·have q:=M.out.1;rw[Yj]at q;exact q
   ·rw[HR.out,List.map_append];rfl
   ·have:=G.out.2.2.2.2.1;rw[Yj];simp only[List.drop_zero,Yk,Yl];omega
  case round=>
   obtain⟨i,a,rfl,hi,hg,l,S,E,F,I,r,nq,s,N⟩:=hrel;have F4:=Zic l.own (by omega);obtain⟨g,c,cs,rfl,hT,aa⟩:=F4;have TB:=F.2 _ _ _ HT.out (by decide) (by decide);have y5:wr.cell? ⟨w.heap.size,5,Yb⟩=Ya (Yc C vs.length e):=TB.blk.cell 5;by_cases H:i<vs.length
   ·obtain⟨y,hy⟩:∃y,vs[i]? = Ya y:=⟨_,Ym H⟩
    have hd:(vs.map (·.2)).drop i=y.2::(vs.map (·.2)).drop (i+1):=List.drop_eq_getElem?_toList_append.trans (by rw[List.getElem?_map,hy];rfl);rw[hd,Zdf,List.length_map]at S;rw[hd,ZaD]at r;obtain⟨x2,D⟩:∃x2,a[f.length]? = Ya x2:=⟨_,Ym I⟩
    have k0:=l.own.cells (g:=g) rfl (f.length*5+3) x2.1.2.2 (ZeF a f.length x2 D).2.2.2.1;rw[Addr.add_lit,Nat.zero_add]at k0;have SK:=Za8 (l.each _ _ D).2.2.1;have U:=zh (zi D (l.each _ _ D).2.2.1);obtain⟨⟨xw,xu,xk⟩,nd⟩:=x2;dsimp only at k0 SK;obtain⟨KA,kn,kc,rfl⟩:=SK;have J:=List.mem_of_getElem? hy;have i0:(0:Int)<=(i:Int):=by omega
    have i1:(i:Int)<(vs.length:Int):=by omega
    have r0:(0:Int)<=(f.length:Int):=by omega
    have r1:(f.length:Int)<(a.length:Int):=by omega
    have wi:IntKind.i64.wrap ((i:Int)+1)=((i+1:Nat):Int):=by push_cast;exact IntWalk.i64_in _ (by have:=G.out.2.2.2.1;unfold maxLen at this;omega)
    have a4:=below_alloc1 wr (Yg #[Yd Yf (a.length:Int)] 3);have L4:=zh (l.below a4);have ay:=zh (Zc4 wr (Yd Yf (a.length:Int)) 3);have V:=zh (Zcj U.out.2 a4);have B4:=zh (zi (E.trans (a4.mono E.size)) (Zcv.of_below a4));generalize dc:wr.alloc (Yg #[Yd Yf (a.length:Int)] 3)=w4 at *;have u:=zh (zi H (zi hg (zi S (zi F (zi I (zi r (zi hy (zi J aa))))))));have ag:nd.kids.length<=maxLen:=by
     rcases U.out.2.2 with⟨_,q⟩|⟨_,bc,_,q,_,_,h3,h4,_⟩
     ·dsimp only at q;omega
     ·dsimp only at h3 q;omega
    have ah:nd.kids.length=i:=by rw[List.getElem?_map,D]at s;injection s with s;dsimp only at s;rw[s];exact N
    have vl:vs.length<=1000000:=by have:=ZmD (vs.map (·.2));have:=G.out.2.2.2.2.1;rw[List.length_map]at *;omega
    have kb:(nd.kids.length+1)*8<=140737488355328:=by omega
    have HN:=zh ah;clear H hi hg S F I r hy hd J aa l E hT TB a4 s N ah vl nq D;go_upto_region 7 with(at_builtin;(refine ZaN _ rfl _ _ 35 rfl W.heap.size 3 iK (Yd Yf 0) 1 8 Tryz.underlying35 bd bq br bs rfl (by decide) (Yc KA kn kc) _ _ rfl V.out _ _ 1 1 [Yd Yf (a.length:Int)] rfl ay.out (ZqN _) (by have:=kb;unfold maxLen;dsimp only;omega) (by dsimp only;exact kb) B4.out.1.size ?_);intro vq w5 j b ad;have OS:=Za8 j;obtain⟨A5,n5,c5,rfl⟩:=OS;have X:=zh (L4.out.kid U.out.1 j b ad);have B5:=zh (B4.out.1.grown b B4.out.1.size (fun q hq=>(V.out.lt q hq).1));clear j b ad;have k1:=X.out.1;have k2:=X.out.2.1;dsimp only at k1)
    clear k0 k1 k2 kb ag;have N6:=zh X.out.2.2.1;have Q6:=zh (X.out.2.2.2);have B6:=zh (B5.out.setCell (p:=⟨g,f.length*5+3,Yb⟩) u.out.2.2.2.2.2.2.2.2 (Yc A5 n5 c5));clear X B5;generalize w5.setCell ⟨g,f.length*5+3,Yb⟩ (Yc A5 n5 c5)=w6 at *;have K6:=zh ((u.out.2.2.2.1.trans B4.out.2).trans Q6.out);have y6:w6.cell? ⟨w.heap.size,5,Yb⟩=Ya (Yc C vs.length e):=(K6.out.2 _ _ _ HT.out (by decide) (by decide)).blk.cell 5;obtain⟨g7,e7,hC,c0,c1,c2,c3,c4,bb⟩:=Zmn G.out.1 B6.out u.out.2.2.2.2.2.2.1;injection hC with hC1 _ hC2;subst hC1 hC2;have SY:=(G.out.2.1 y u.out.2.2.2.2.2.2.2.1).shape2;have ae:=u.out.2.2.2.2.2.1;have CT:=zh (G.out.2.2.1 y u.out.2.2.2.2.2.2.2.1 w6 _ _ B6.out N6.out (by rw[List.length_set];omega));have MP:=zh (ZpM (kv:=Yc A5 n5 c5) (n:=(a.length:Int)) U.out.1);clear y5 ae;obtain⟨⟨y1,y2,y3⟩,yt⟩:=y;dsimp only at c0 c1 c2 c3 c4 bb SY CT;obtain⟨yA,yn,yc,yB,ym,yd,yC,yq,ye,bi⟩:=SY;injection bi with q1 q2;injection q2 with q2 q3;subst q1 q2 q3;go_wp2_with (go_at_call 21;(refine CT.out.mono ?_);rintro e w7 ⟨v7,aj,rfl,Y,ac,Z,ab⟩;have P:=zh (zi Y (zi ac (zi Z ab)));clear Y ac Z ab);go_roundg (vs.length-(i+1))
    case measure=>have:=u.out.1;have:=u.out.2.1;omega
    case rel=>
     have K:aj.length=a.length+szT yt:=by have:=congrArg List.length P.out.2.1;rw[List.length_map,ZfM,MP.out,ZfF,List.length_map]at this;exact this
     refine⟨i+1,aj,by push_cast;rfl,u.out.1,rfl,P.out.1,?_,P.out.2.2.1,K6.out.trans P.out.2.2.2,?_,?_,?_⟩
     ·rw[u.out.2.2.1,P.out.2.1,MP.out]
     ·rw[K];have:=u.out.2.2.2.2.1;omega
     ·rw[K];have:=u.out.2.2.2.2.2.1;omega
     ·have hx:=U.out.1;have hm:(a.map (·.2))[f.length]? = Ya nd:=by rw[List.getElem?_map,hx];rfl
      rw[P.out.2.1,MP.out,Zjx _ _ _ (by rw[ZfF,List.length_map];exact u.out.2.2.2.2.1),ZqR hm];exact⟨_,rfl,by simp[HN.out]⟩
   ·obtain rfl:i=vs.length:=by omega
    rw[List.drop_of_length_le (by simp),Zdf]at S;have HQ:=zh (zi S (zi l (zi E F)));clear S l E F H hi hg s N r I hT TB;go_wp2_with fail;go_ret;exact⟨_,rfl,_,HQ.out.2.1,HQ.out.1.symm,HQ.out.2.2.1,HB.out.2.trans HQ.out.2.2.2⟩
end
section
open Go.RowKit
theorem Zjn:∀{l:List Nat} {i a:Nat},l[i]? = Ya a->a<=l.sum
 |x::r,0,a,h=>by
  obtain rfl:x=a:=by simpa using h
  rw[List.sum_cons];omega
 |x::r,i+1,a,h=>by
  have:=Zjn (l:=r) (by simpa using h);rw[List.sum_cons];omega
theorem ZmC:∀{l:List Nat} {i j a b:Nat},i<j->l[i]? = Ya a->l[j]? = Ya b->a+b<=l.sum
 |x::r,0,j+1,a,b,_,h,k=>by
  obtain rfl:x=a:=by simpa using h
  have:=Zjn (l:=r) (by simpa using k);rw[List.sum_cons];omega
 |x::r,i+1,j+1,a,b,hlt,h,k=>by
  have:=ZmC (l:=r) (i:=i) (j:=j) (by omega) (by simpa using h) (by simpa using k);rw[List.sum_cons];omega
theorem ZmB:∀{l:List Nat},0<l.sum->∃i a:Nat,l[i]? = Ya a/\0<a
 |[],h=>by simp at h
 |x::r,h=>by
  rw[List.sum_cons]at h;by_cases q:0<x
  ·exact⟨0,x,rfl,q⟩
  ·obtain⟨i,a,b,c⟩:=ZmB (l:=r) (by omega);exact⟨i+1,a,by simpa using b,c⟩
def Zfe (ns:List Nd) (k:Int):Nat:=(ns.map fun d=>d.kids.count k).sum
def ZeO (ns:List Nd):Prop:=0<ns.length/\∀(i:Nat) (d:Nd),ns[i]? = Ya d->Zfe ns i=(if i=0 then 0 else 1)/\∀k∈d.kids,(i:Int)<k/\k<(ns.length:Int)
theorem Zq2 {ns:List Nd} {k:Int} {i j:Nat} {d e:Nd} (a:i<j) (hd:ns[i]? = Ya d) (b:ns[j]? = Ya e):d.kids.count k+e.kids.count k<=Zfe ns k:=
 ZmC a (by rw[List.getElem?_map,hd];rfl) (by rw[List.getElem?_map,b];rfl)
theorem Zq1 {ns:List Nd} {k:Int} {i:Nat} {d:Nd} (hd:ns[i]? = Ya d):d.kids.count k<=Zfe ns k:=Zjn (i:=i) (by rw[List.getElem?_map,hd];rfl)
theorem Zq0 {ns:List Nd} {k:Int} (h:0<Zfe ns k):∃(i:Nat) (d:Nd),ns[i]? = Ya d/\k∈d.kids:=by
 obtain⟨i,a,b,c⟩:=ZmB h;rw[List.getElem?_map]at b;cases hd:ns[i]? with
 |none=>rw[hd]at b;simp at b
 |some d=>
  rw[hd]at b;obtain rfl:d.kids.count k=a:=by simpa using b
  exact⟨i,d,hd,List.count_pos_iff.mp c⟩
theorem ZkC (n a:Nat):∀(x:List Int) (p:List Int),p.length=n->x.Nodup->(∀k∈x,(a:Int)<k/\k<(n:Int)/\atI p k<0)->∃q,ZbO n a x p=Ya q
 |[],p,_,_,_=>⟨p,by rw[ZbO]⟩
 |k::r,p,hn,hd,h=>by
  obtain⟨l,o,s⟩:=h k List.mem_cons_self;obtain⟨m,rfl⟩:∃m:Nat,k=m:=⟨k.toNat,by omega⟩
  obtain⟨b,c⟩:=List.nodup_cons.mp hd;rw[ZbO,Yn (by omega),Int.toNat_natCast];refine ZkC n a r _ (by rw[List.length_set];exact hn) c (fun y d=>?_);obtain⟨g,i,j⟩:=h y (List.mem_cons_of_mem _ d);obtain⟨f,rfl⟩:∃f:Nat,y=f:=⟨y.toNat,by omega⟩
  exact⟨g,i,by rw[Ze2 _ (fun e=>b (by rw[e];exact d))];exact j⟩
theorem Zms {ns:List Nd} (h:ZeO ns):∀j,j<=ns.length->∃p,Zcd ns j=Ya p
 |0,_=>⟨_,rfl⟩
 |j+1,hj=>by
  obtain⟨p,l⟩:=Zms h j (by omega);have L:=ZgL ns j p (by omega) l;have hd:ns[j]? = Ya ns[j]:=Ym (by omega);obtain⟨c,r⟩:=h.2 j _ hd;rw[Zcd,l,Option.bind_some,Zcm hd]
  have n:¬(0<j/\atI p (j:Int)<0):=fun⟨a,b⟩=>by
   rw[Yn (by omega)]at c;obtain⟨i,d,f,hm⟩:=Zq0 (ns:=ns) (k:=(j:Int)) (by omega);have:=(h.2 i d f).2 _ hm;have:=((L.of i d (by omega) f).2 _ hm).2.2;omega
  rw[Yn n]
  have e:∀k∈ns[j].kids,Zfe ns k<=1:=fun k hk=>by
   obtain⟨a,b⟩:=r k hk;obtain⟨m,rfl⟩:∃m:Nat,k=m:=⟨k.toNat,by omega⟩
   obtain⟨c,_⟩:=h.2 m _ (Ym (by omega));rw[c];split<;>omega
  refine ZkC _ _ _ _ L.len (List.nodup_iff_count.mpr fun k=>?_) (fun k hk=>⟨(r k hk).1,(r k hk).2,?_⟩)
  ·by_cases hk:k∈ns[j].kids
   ·exact Nat.le_trans (Zq1 hd) (e k hk)
   ·rw[List.count_eq_zero_of_not_mem hk];omega
  ·refine Int.not_le.mp fun q=>?_;obtain⟨a,b⟩:=r k hk;obtain⟨m,rfl⟩:∃m:Nat,k=m:=⟨k.toNat,by omega⟩
   obtain⟨i,d,f,g,_,hm⟩:=L.at_ m q;have:=Zq2 (k:=(m:Int)) f g hd;have:=e _ hk;have:=List.count_pos_iff.mpr hm;have:=List.count_pos_iff.mpr hk;omega
theorem Zrl {ns:List Nd} (h:ZeO ns) (a:ns.length<=1500):∃p,ZbJ ns=Ya p:=by have:=h.1;unfold ZbJ;rw[Yn (by omega)];exact Zms h _ (Nat.le_refl _)
def Zjh (l:List Int):Int:=l.foldl max 0
theorem ZgC:∀(l:List Int) (a x:Int),x<=a->x<=l.foldl max a
 |[],a,x,h=>h
 |y::r,a,x,h=>ZgC r (max a y) x (by omega)
theorem Zjw:∀(l:List Int) (a x:Int),x∈l->x<=l.foldl max a
 |y::r,a,x,h=>by
  rcases List.mem_cons.mp h with rfl|h
  ·exact ZgC r _ _ (by omega)
  ·exact Zjw r _ _ h
theorem ZgD:∀(l:List Int) (a b:Int),a<=b->(∀x∈l,x<=b)->l.foldl max a<=b
 |[],a,b,h,_=>h
 |y::r,a,b,h,k=>ZgD r (max a y) b (by have:=k y List.mem_cons_self;omega) (fun x hx=>k x (List.mem_cons_of_mem _ hx))
def htF (ns:List Nd):Nat->Int->Int
 |0,_=>1
 |d+1,k=>Zjh ((Zf ns k).kids.map (htF ns d))+1
theorem Zja (ns:List Nd):∀d k,1<=htF ns d k
 |0,_=>Int.le_refl _
 |d+1,k=>by
  rw[htF];have:=ZgC ((Zf ns k).kids.map (htF ns d)) 0 0 (Int.le_refl _);unfold Zjh;omega
theorem Zrc {ns:List Nd} {i:Nat} {d:Nd} (hd:ns[i]? = Ya d) {k:Int} (hk:k∈d.kids) (f:Nat):htF ns f k+1<=htF ns (f+1) i:=by rw[htF,Zcm hd];have:=Zjw (d.kids.map (htF ns f)) 0 _ (List.mem_map.mpr ⟨k,hk,rfl⟩);unfold Zjh;omega
section
variable {ns:List Nd} {p:List Int}
theorem ZeX (p:List Int):∀(j:Nat) (k:Nat),k<j->(ZcG p j)[k]? = (ZcG p (k+1))[k]?
 |j+1,k,h=>by
  by_cases e:k=j
  ·subst e;rfl
  ·rw[ZcG,List.getElem?_append_left (by rw[ZbQ];omega)];exact ZeX p j k (by omega)
theorem Zq4 {k:Nat} (hk:k<p.length):atI (ZbR p) k=if 0<=atI p k then 1+atI (ZcG p k) (atI p k)else 1:=by rw[ZdD];unfold ZbR;rw[ZeX p _ k hk,ZcG,List.getElem?_append_right (by rw[ZbQ];omega),ZbQ,Nat.sub_self];rfl
theorem ZpU {j k:Nat} (a:j<=p.length) (hk:k<j):atI (ZcG p j) (k:Int)=atI (ZbR p) k:=by rw[ZdD,ZdD];unfold ZbR;rw[ZeX p _ k hk,ZeX p p.length k (by omega)]
theorem ZrR (L:Links ns ns.length p):∀(x:Nat),x<ns.length->1<=atI (ZbR p) x/\atI (ZbR p) x<=(x:Int)+1/\∃f:Nat,(f:Int)+atI (ZbR p) x=(ns.length:Int)+1/\atI (ZbR p) x+htF ns f x<=1+htF ns ns.length 0:=by
 intro x
 induction x using Nat.strongRecOn with
 |ind x c=>
  intro hx;rw[Zq4 (by rw[L.len];exact hx)];by_cases a:0<=atI p x
  ·rw[Yo a];obtain⟨i,d,b,hd,e,hm⟩:=L.at_ x a;have h:=ZiI L a;rw[e]at h⊢;obtain⟨j,a2,f,a3,a4⟩:=c i (by omega) b;rw[ZpU (by rw[L.len];omega) (by omega)];obtain⟨g,rfl⟩:∃g,f=g+1:=⟨f-1,by omega⟩
   have:=Zrc hd hm g;exact⟨by omega,by omega,g,by omega,by omega⟩
  ·rw[Yn a];have:x=0:=Classical.byContradiction fun q=>a (L.each x (by omega) hx);subst this;exact⟨Int.le_refl _,by omega,ns.length,by omega,Int.le_refl _⟩
theorem ZrS (L:Links ns ns.length p):ZfP (ZbR p)<=htF ns ns.length 0:=by
 have b:∀y∈ZbR p,y<=htF ns ns.length 0:=fun y d=>by
  obtain⟨k,hk⟩:=List.mem_iff_getElem?.mp d;have c:k<ns.length:=by have:=(List.getElem?_eq_some_iff.mp hk).1;unfold ZbR at this;rw[ZbQ,L.len]at this;exact this
  have e:atI (ZbR p) k=y:=Zb9 hk;obtain⟨_,_,f,_,h⟩:=ZrR L k c;have:=Zja ns f k;omega
 cases h:ZbR p with
 |nil=>exact Int.le_trans (by decide) (Zja ns ns.length 0)
 |cons a r=>
  rw[h]at b;exact ZgD r a _ (b a List.mem_cons_self) (fun x hx=>b x (List.mem_cons_of_mem _ hx))
end
theorem Zql {ns:List Nd} (h:ZeO ns) (c:ns.length<=1500) (b:Zp ns 0=0) (hd:htF ns ns.length 0<=24) (e:∀d∈ns,ZD ns d=true):ZcB ns=true:=by obtain⟨p,a⟩:=Zrl h c;unfold ZcB;rw[a];dsimp only;have:=ZrS (ZeI a);rw[b,decide_eq_true (by omega),List.all_eq_true.mpr e];rfl
end
section
open Go.RowKit
def ZcO:List Tr->Nat->List Int
 |[],_=>[]
 |t::r,b=>(b:Int)::ZcO r (b+szT t)
mutual
def ZdU:Tr->Nat->List Nd
 |.mk k ws us p ks,a=>⟨k,ws,us,ZcO ks (a+1),p⟩::Zef ks (a+1)
def Zef:List Tr->Nat->List Nd
 |[],_=>[]
 |t::r,b=>ZdU t b++Zef r (b+szT t)
end
mutual
theorem Zih:∀(t:Tr) (a:Nat),(ZdU t a).length=szT t
 |.mk k ws us p ks,a=>by rw[ZdU,Yk,ZjT,szT]
theorem ZjT:∀(ts:List Tr) (a:Nat),(Zef ts a).length=ZaD ts
 |[],a=>by rw[Zef,ZaD];rfl
 |t::r,a=>by rw[Zef,Yj,Zih,ZjT,ZaD]
end
theorem ZpN (a b:List Nd) (x:Nd) (n:Int):ZfE (a++x::b) a.length n=a++⟨x.kind,x.words,x.nums,x.kids++[n],x.pos⟩::b:=by
 have h:(a++x::b)[a.length]? = Ya x:=by simp
 unfold ZfE;rw[h];simp
mutual
theorem ZkE:∀(t:Tr) (a:List Nd),Zcz t a=a++ZdU t a.length
 |.mk k ws us p ks,a=>by
  have h:=Zjz ks a ⟨k,ws,us,[],p⟩ [];rw[Zcz,ZdU];rw[h];simp
theorem Zjz:∀(ts:List Tr) (a:List Nd) (x:Nd) (b:List Nd),Zdf ts a.length (a++x::b)=a++⟨x.kind,x.words,x.nums,x.kids++ZcO ts (a.length+1+b.length),x.pos⟩::b++Zef ts (a.length+1+b.length)
 |[],a,x,b=>by rw[Zdf,ZcO,Zef];simp
 |t::r,a,x,b=>by
  have e:(a++x::b).length=a.length+1+b.length:=by simp;omega
  rw[Zdf,ZpN,ZkE t,e];have c:(a++(⟨x.kind,x.words,x.nums,x.kids++[((a.length+1+b.length:Nat):Int)],x.pos⟩:Nd)::b).length=a.length+1+b.length:=by simp;omega
  rw[c,List.append_assoc,List.cons_append,Zjz r a _ (b++ZdU t (a.length+1+b.length))];have d:a.length+1+(b++ZdU t (a.length+1+b.length)).length=a.length+1+b.length+szT t:=by rw[Yj,Zih];omega
  rw[d,ZcO,Zef];simp
end
theorem Zri (t:Tr):Zcz t []=ZdU t 0:=by rw[ZkE];rfl
theorem ZrF (t:Tr):0<szT t:=by cases t;rw[szT];omega
end
def Zgc (us:List Int) (k:Nat):Int:=(us[k]?).getD 0
def whL:List Int->Int
 |[]=>-1
 |x::_=>x
def ZcJ (a:List Txt) (us:List Int) (w m:Nat):Bool:=decide (a.length=w)&&decide (us.length=m)
def Zcp:List Int->List (Int->Bool)->Bool
 |[],[]=>true
 |k::r,f::g=>f k&&Zcp r g
 |_,_=>false
def ZkU:List Int->Bool
 |[]=>true
 |[_]=>true
 |a::b::r=>decide (a<b)&&ZkU (b::r)
def Ziu (us:List Int):Bool:=decide (1<=Zgc us 1)&&decide (1<=Zgc us 2)
def Zgy (us a b:List Int):Bool:=decide (Zgc us 0<=4)&&((Zgc us 1==0&&Zgc us 2==0)||Ziu us)&&a.all (isB [6])&&ZkU b
def ZkN (us a b:List Int):Bool:=!(Zgc us 0==0)&&decide (Zgc us 0<=4)&&Ziu us&&(Zcp a [isB [7]]||Zcp a [isB [6],isB [7]]&&(b[0]?).getD (-1)==2)
def Zjf (c:Int) (a:List Txt) (us b d:List Int):Bool:=
 if c=0 then ZcJ a us 0 0&&b.all (isB [1,4])
 else if c=1 then ZcJ a us 1 0&&b.all (isB [2,3])
 else if c=2 then ZcJ a us 1 1&&decide (Zgc us 0<=1)&&Zcp b []
 else if c=3 then decide (4<=a.length)&&decide (a.length % 2=0)&&ZcJ a us a.length 0&&Zcp b []
 else if c=4 then ZcJ a us 1 0&&(b.take (b.length-1)).all (isB [5])&&Zcp (b.drop (b.length-1)) [isB [7]]
 else if c=5 then ZcJ a us 1 0&&Zcp b []||ZcJ a us 2 3&&Zgy us b d
 else if c=6 then decide (1<=a.length)&&ZcJ a us a.length 1&&decide (Zgc us 0<=2)&&Zcp b []
 else if c=7 then ZcJ a us 0 0&&b.all ZcE
 else if c=8\/c=9 then ZcJ a us 1 0&&Zcp b [ZF]
 else if c=10 then ZcJ a us 2 0&&Zcp b [isB [7],isB [7]]
 else if c=11 then ZcJ a us 2 0&&b.all (isB [12])
 else if c=12 then ZcJ a us 1 0&&Zcp b [isB [7]]
 else if c=13 then ZcJ a us 2 3&&ZkN us b d
 else if c=14 then(ZcJ a us 1 0||ZcJ a us 2 0)&&b.all Zdp
 else if c=15\/c=21 then ZcJ a us 1 0&&Zcp b []
 else if c=16 then ZcJ a us 0 0&&(Zcp b [ZF,isB [7]]||Zcp b [ZF,isB [7],isB [7]])
 else if c=17 then ZcJ a us 0 0&&Zcp b [ZF,isB [7]]
 else if c=18\/c=23 then ZcJ a us 0 0&&Zcp b [ZF]
 else if c=19 then ZcJ a us 0 0&&Zcp b []
 else if c=20 then ZcJ a us 0 1&&Zcp b []
 else if c=22 then ZcJ a us 0 1&&decide (Zgc us 0<=5)&&Zcp b [ZF,ZF]
 else false
theorem Zke (ns:List Nd) (a:List Int) (f:Int->Bool):Zam ns a f=(a.map (Zp ns)).all f:=by unfold Zam;rw[List.all_map];rfl
theorem Zgs (ns:List Nd):∀(b:List Int) (a:List (Int->Bool)),Zj ns b a=Zcp (b.map (Zp ns)) a
 |[],[]=>rfl
 |[],_::_=>rfl
 |_::_,[]=>rfl
 |k::r,f::g=>by rw[Zj,List.map_cons,Zcp,Zgs ns r g]
theorem ZjO (ns:List Nd):∀(c:List Int),ZaC ns c=ZkU (c.map (ZY ns))
 |[]=>rfl
 |[_]=>rfl
 |a::b::r=>by
  have:=ZjO ns (b::r);rw[ZaC,this];rfl
theorem Zqg (ns:List Nd) (n:Nd):ZeJ ns n=ZkN n.nums (n.kids.map (Zp ns)) (n.kids.map (ZY ns)):=by
 unfold ZeJ ZkN ZdJ Ziu;rw[Zgs,Zgs];cases n.kids with
 |nil=>rfl
 |cons a r=>rfl
theorem Zkn (ns:List Nd) (n:Nd):Zcn ns n=Zgy n.nums (n.kids.map (Zp ns)) (n.kids.map (ZY ns)):=by unfold Zcn Zgy ZdJ Ziu;rw[Zke,ZjO];rfl
theorem ZiF (ns:List Nd) (n:Nd):Zr ns n=Zjf n.kind n.words n.nums (n.kids.map (Zp ns)) (n.kids.map (ZY ns)):=by unfold Zr Zjf;simp only[Zke,Zgs,Zqg,Zkn,List.map_take,List.map_drop,List.length_map];rfl
def Tr.wh:Tr->Int
 |.mk _ _ us _ _=>whL us
theorem Zli (ns:List Nd) (k:Int):ZY ns k=whL (Zf ns k).nums:=by unfold ZY whL;cases (Zf ns k).nums<;>rfl
section
open Go.RowKit
def Zy (n:Nd) (a b:Int):Bool:=Zdz n.words&&decide (a<=(n.words.length:Int))&&decide ((n.words.length:Int)<=b)
def Zai (n:Nd):Bool:=decide (n.nums.length=0)
def ZcV (n:Nd):Bool:=decide (1<=num n 1)&&decide (num n 1<1000000000000000000)&&decide (1<=num n 2)&&decide (num n 2<1000000000000000000)
def kdR (ns:List Nd) (n:Nd) (i:Nat):Int:=Zp ns (atI n.kids i)
theorem Zc5 (w:Yh) (k:Int):Calls Tryz.prog 28 #[Yd Yf k] w fun e w'=>e=.returned (.bool (ZF k))/\w=w':=by
 unfold ZF;by_cases q:20<=k
 ·by_cases a:k<=23
  ·have Q:=zh (zi q a);go_enter Tryz.func28,Tryz.ntmps28;go_wp2_with fail;go_ret;exact⟨by first|rfl|(have:=Q.out;simp;omega)|(have:=Q.out;simp;intros;omega)|(have:=Q.out;simp_all),rfl⟩
  ·have b:23<k:=by omega
   have Q:=zh (zi q a);go_enter Tryz.func28,Tryz.ntmps28;go_wp2_with fail;go_ret;exact⟨by first|rfl|(have:=Q.out;simp;omega)|(have:=Q.out;simp;intros;omega)|(have:=Q.out;simp_all),rfl⟩
 ·have c:k<20:=by omega
  have Q:=zh q;go_enter Tryz.func28,Tryz.ntmps28;go_wp2_with fail;go_ret;exact⟨by first|rfl|(have:=Q.out;simp;omega)|(have:=Q.out;simp;intros;omega)|(have:=Q.out;simp_all),rfl⟩
theorem Zpn (w:Yh) (k:Int):Calls Tryz.prog 57 #[Yd Yf k] w fun e w'=>e=.returned (.bool (ZcE k))/\w=w':=by
 unfold ZcE;by_cases q:8<=k
 ·by_cases a:k<=19
  ·cases q3:(k==12)
   ·have b:(k != 12)=true:=by rw[bne,q3];rfl
    cases q4:(k==15)
    ·have c:(k != 15)=true:=by rw[bne,q4];rfl
     have Q:=zh (zi q a);go_enter Tryz.func57,Tryz.ntmps57;go_wp2_with fail;go_ret;exact⟨by first|rfl|(rw[decide_eq_true Q.out.1,decide_eq_true Q.out.2];rfl)|(have:=Q.out;simp;intros;omega)|(have:=Q.out;simp_all),rfl⟩
    ·have c:(k != 15)=false:=by rw[bne,q4];rfl
     have Q:=zh (zi q a);go_enter Tryz.func57,Tryz.ntmps57;go_wp2_with fail;go_ret;exact⟨by first|rfl|(rw[decide_eq_true Q.out.1,decide_eq_true Q.out.2];rfl)|(have:=Q.out;simp;intros;omega)|(have:=Q.out;simp_all),rfl⟩
   ·have b:(k != 12)=false:=by rw[bne,q3];rfl
    have Q:=zh (zi q a);go_enter Tryz.func57,Tryz.ntmps57;go_wp2_with fail;go_ret;exact⟨by first|rfl|(rw[decide_eq_true Q.out.1,decide_eq_true Q.out.2];rfl)|(have:=Q.out;simp;intros;omega)|(have:=Q.out;simp_all),rfl⟩
  ·have d:19<k:=by omega
   have Q:=zh (zi q a);go_enter Tryz.func57,Tryz.ntmps57;go_wp2_with fail;go_ret;exact⟨by first|rfl|(rw[decide_eq_true Q.out.1,decide_eq_false Q.out.2];rfl)|(have:=Q.out;simp;intros;omega)|(have:=Q.out;simp_all),rfl⟩
 ·have f:k<8:=by omega
  have Q:=zh q;go_enter Tryz.func57,Tryz.ntmps57;go_wp2_with fail;go_ret;exact⟨by first|rfl|(rw[decide_eq_false Q.out];rfl)|(have:=Q.out;simp;intros;omega)|(have:=Q.out;simp_all),rfl⟩
theorem ZkW (w:Yh) (v:Value) (ns:List Nd) (x:NdV×Nd) (i:Nat) (P:Zi w v ns) (h:ZS w x) (hk:Zaw x.2.kids ns.length) (m:i<x.2.kids.length) :
  Calls Tryz.prog 29 #[v,ndV x,Yd Yf i] w fun e w'=>e=.returned (Yd Yf (kdR ns x.2 i))/\Below w.heap.size w w':=by
 obtain⟨⟨F,J,s,_⟩,⟨G,K,t,_⟩,H,L,u,B,Q,r⟩:=h;obtain⟨A,c,R,rfl,M,N,k,l,O⟩:=P;obtain⟨⟨X,v2,v3⟩,C,E,a,j,D⟩:=x;dsimp only at s t u B r m hk;subst s t u;obtain⟨z,g⟩:∃z,j[i]? = Ya z:=⟨_,Ym m⟩
 have d:=hk z (List.mem_of_getElem? g);obtain⟨q,rfl⟩:∃q:Nat,z=q:=⟨z.toNat,by omega⟩
 have f:=below_alloc1 w (Yg #[Yd Yf C,Yc F E.length J,Yc G a.length K,Yc H j.length L,Yd Yf D] 37);obtain⟨y,p⟩:∃y,R[q]? = Ya y:=⟨_,Ym (by have:=congrArg List.length k;rw[List.length_map]at this;omega)⟩
 have hd:ns[q]? = Ya y.2:=by rw[<-k,List.getElem?_map,p];rfl
 obtain⟨n,o⟩:∃n,n=ns.length:=⟨_,rfl⟩
 rw[<-o]at l d;obtain⟨S,rfl,U,_⟩:=Zan l f p (by omega);obtain⟨T,rfl,V⟩:=ints_at r f g (by omega)
 have b:=zh (show y.2.kind=kdR ns ⟨C,E,a,j,D⟩ i from by
  unfold kdR;dsimp only
  rw[Zb9 g,Zdk hd])
 rw[<-b.out];have I:=zh f;unfold ndV;dsimp only;rw[<-o];have W:(i:Int)<(j.length:Int):=by omega
 have i2:(0:Int)<=(i:Int):=by omega
 have i3:(q:Int)<(n:Int):=by omega
 have i4:(0:Int)<=(q:Int):=by omega
 clear M N k l O B Q r p g hd d hk m o f b;go_enter Tryz.func29,Tryz.ntmps29;go_wp2_with fail;go_ret;exact⟨rfl,I.out⟩
theorem Zpj (w:Yh) (x:NdV×Nd) (h:ZS w x) :
  Calls Tryz.prog 27 #[ndV x] w fun e w'=>e=.returned (.bool (Zai x.2))/\Below w.heap.size w w':=by
 obtain⟨⟨g,k,c,_⟩,⟨i,l,d,_⟩,j,m,f,_⟩:=h;obtain⟨⟨s,v2,v3⟩,n,r,a,o,p⟩:=x;dsimp only at c d f;subst c d f;have b:=zh (below_alloc1 w (Yg #[Yd Yf n,.slice g r.length k,.slice i a.length l,.slice j o.length m,Yd Yf p] 37));unfold ndV Zai;dsimp only;by_cases q:a.length=0
 ·have t:((a.length:Int)==0)=true:=by rw[q];rfl
  have Q:=zh (decide_eq_true q);clear q;go_enter Tryz.func27,Tryz.ntmps27;go_wp2_with fail;go_ret;exact⟨by first|(rw[Q.out];rfl)|(have:=Q.out;simp_all),b.out⟩
 ·have t:((a.length:Int)==0)=false:=by simpa using fun e=>q (by simpa using e)
  have Q:=zh (decide_eq_false q);clear q;go_enter Tryz.func27,Tryz.ntmps27;go_wp2_with fail;go_ret;exact⟨by first|(rw[Q.out];rfl)|(have:=Q.out;simp_all),b.out⟩
theorem Zo4 (w:Yh) (x:NdV×Nd) (h:ZS w x) (E:x.2.nums.length=3) :
  Calls Tryz.prog 59 #[ndV x] w fun e w'=>e=.returned (.bool (ZcV x.2))/\Below w.heap.size w w':=by
 obtain⟨⟨A,c,v,_⟩,⟨G,K,z,C,D,j⟩,H,L,B,_⟩:=h;obtain⟨⟨Q,v2,v3⟩,q,u,g,r,s⟩:=x;dsimp only at v z B E C D j;subst v z B;obtain⟨o,a⟩:∃y,g[1]? = Ya y:=⟨_,Ym (by omega)⟩
 obtain⟨p,b⟩:∃y,g[2]? = Ya y:=⟨_,Ym (by omega)⟩
 unfold ZcV;rw[Zdi (n:=(⟨q,u,g,r,s⟩:Nd)) a,Zdi (n:=(⟨q,u,g,r,s⟩:Nd)) b];have l:=below_alloc1 w (Yg #[Yd Yf q,Yc A u.length c,Yc G g.length K,Yc H r.length L,Yd Yf s] 37);obtain⟨d,rfl,I⟩:=ints_at (k:=1) j l a (by omega);obtain⟨J,ea,a2⟩:=ints_at (k:=2) j l b (by omega);injection ea with ea;subst ea;rw[show d.add 1=⟨d.block,d.off+1,Yb⟩by unfold Addr.add;simp]at I;rw[show d.add 2=⟨d.block,d.off+2,Yb⟩by unfold Addr.add;simp]at a2;have f:=zh l;unfold ndV;dsimp only;rw[E]at *;clear C D j a b l;by_cases i:1<=o
 ·by_cases m:o<1000000000000000000
  ·by_cases t:1<=p
   ·by_cases F:p<1000000000000000000
    ·rw[decide_eq_true i,decide_eq_true m,decide_eq_true t,decide_eq_true F];go_enter Tryz.func59,Tryz.ntmps59;go_wp2_with fail;go_ret;exact⟨rfl,f.out⟩
    ·have P:1000000000000000000<=p:=by omega
     rw[decide_eq_true i,decide_eq_true m,decide_eq_true t,decide_eq_false F];go_enter Tryz.func59,Tryz.ntmps59;go_wp2_with fail;go_ret;exact⟨rfl,f.out⟩
   ·have O:p<1:=by omega
    rw[decide_eq_true i,decide_eq_true m,decide_eq_false t];go_enter Tryz.func59,Tryz.ntmps59;go_wp2_with fail;go_ret;exact⟨rfl,f.out⟩
  ·have N:1000000000000000000<=o:=by omega
   rw[decide_eq_true i,decide_eq_false m];go_enter Tryz.func59,Tryz.ntmps59;go_wp2_with fail;go_ret;exact⟨rfl,f.out⟩
 ·have M:o<1:=by omega
  rw[decide_eq_false i];go_enter Tryz.func59,Tryz.ntmps59;go_wp2_with fail;go_ret;exact⟨rfl,f.out⟩
end
section
open Go.RowKit
theorem ZnQ (w:Yh) (x:NdV×Nd) (a b:Int) (h:ZS w x) :
  Calls Tryz.prog 26 #[ndV x,Yd Yf a,Yd Yf b] w fun e w'=>e=.returned (.bool (Zy x.2 a b))/\Below w.heap.size w w':=by
 obtain⟨⟨u,C,F,W,X,G,N⟩,⟨v,D,U,_⟩,y,E,V,_⟩:=h;obtain⟨⟨v1,v2,v3⟩,H,l,f,I,K⟩:=x;dsimp only at F U V W G N;subst F U V;have m:=Blk.start w #[Yd Yf H,.slice u l.length C,.slice v f.length D,.slice y I.length E,Yd Yf K] 37;have j:=below_alloc1 w (Yg #[Yd Yf H,.slice u l.length C,.slice v f.length D,.slice y I.length E,Yd Yf K] 37);unfold ndV Zy;dsimp only;obtain⟨n,P⟩:∃n,n=l.length:=⟨_,rfl⟩
 have s:n<=9223372036854775807:=by unfold maxLen at X;omega
 rw[<-P]at G m j⊢;have A:=zh (zi P (zi s N));have H4:=zh G;have L:=zh (zi m j);clear P s W X G N m j;go_enter Tryz.func26,Tryz.ntmps26;go_wp2_with fail;generalize w.alloc (Yg #[Yd Yf H,.slice u n C,.slice v f.length D,.slice y I.length E,Yd Yf K] 37)=Z at *;go_loopg [7] n (fun g v7 wr=>∃k:Nat,v7=Yd Yf k/\k<=n/\g=n-k/\Zdz (l.take k)=true/\Blk wr w.heap.size #[Yd Yf H,.slice u n C,.slice v f.length D,.slice y I.length E,Yd Yf K]/\Below w.heap.size w wr)
 case atStart=>exact⟨0,rfl,Nat.zero_le _,rfl,rfl,L.out.1,L.out.2⟩
 case round=>
  clear L;obtain⟨k,rfl,hk,O,d,m,j⟩:=hrel;have M:=m.cell 1;simp only[List.getElem?_toArray,List.getElem?_cons_zero,List.getElem?_cons_succ]at M;by_cases p:k=n
  ·have e:l.take k=l:=by rw[p,A.out.1];exact List.take_length
   rw[e]at d;have c:=zh (zi d j);subst p;clear hk O d e m j;by_cases R:a<=(k:Int)
   ·by_cases Y:(k:Int)<=b
    ·have Q:=zh (zi (decide_eq_true R) (decide_eq_true Y));go_wp2_with fail;go_ret;exact⟨by first|(rw[c.out.1,Q.out.1,Q.out.2];rfl)|(rw[c.out.1,Q.out.2];rfl)|(rw[c.out.1,Q.out.1];rfl)|(rw[c.out.1];rfl),c.out.2⟩
    ·have ac:b<(k:Int):=by omega
     have Q:=zh (zi (decide_eq_true R) (decide_eq_false Y));go_wp2_with fail;go_ret;exact⟨by first|(rw[c.out.1,Q.out.1,Q.out.2];rfl)|(rw[c.out.1,Q.out.2];rfl)|(rw[c.out.1,Q.out.1];rfl)|(rw[c.out.1];rfl),c.out.2⟩
   ·have ab:(k:Int)<a:=by omega
    have Q:=zh (decide_eq_false R);go_wp2_with fail;go_ret;exact⟨by first|(rw[c.out.1,Q.out];rfl)|(rw[c.out.1];rfl),c.out.2⟩
  ·have r:k<n:=by omega
   obtain⟨x,hx⟩:∃x,l[k]? = Ya x:=⟨_,Ym (by have:=A.out.1;omega)⟩
   obtain⟨ad,rfl,d0⟩:=ZbH H4.out j hx (by omega);have t:Zdz (l.take (k+1))=ZQ x:=Zcr hx d;have q:ZQ x=false->Zdz l=false:=ZhB hx;have J:=ZjQ ⟨x.toArray⟩ wr (by show x.toArray.size<=maxLen;simpa using A.out.2.2 x (List.mem_of_getElem? hx));have J:Calls Tryz.prog 56 #[txt x] wr (fun e w'=>e=.returned (.bool (ZQ x))/\Below wr.heap.size wr w'):=by simpa using J
   have i1:(k:Int)<(n:Int):=by omega
   have i2:(0:Int)<=(k:Int):=by omega
   have wk:IntKind.i64.wrap ((k:Int)+1)=(k:Int)+1:=IntWalk.i64_in _ (by have:=A.out.2.1;omega);have o:=zh (zi r (zi O (zi m j)));have T:=zh (zi t q);have S:=zh J;clear t q hx p r hk O d J m j;generalize ZQ x=B at *;cases B
   ·have c:=zh (T.out.2 rfl);go_wp2_with (go_at_call 56;(with_reducible refine S.out.mono ?_);rintro F Z ⟨rfl,i⟩;have z:=zh (o.out.2.2.2.trans (i.mono o.out.2.2.2.size));clear i);go_ret;exact⟨by rw[c.out];rfl,z.out⟩
   ·go_wp2_with (go_at_call 56;(with_reducible refine S.out.mono ?_);rintro F Z ⟨rfl,i⟩;have z:=zh (zi (o.out.2.2.1.keep i) (o.out.2.2.2.trans (i.mono o.out.2.2.2.size)));clear i);go_roundg (n-(k+1))
    case measure=>have:=o.out;omega
    case rel=>exact⟨k+1,by push_cast;rfl,by have:=o.out;omega,rfl,T.out.1,z.out.1,z.out.2⟩
def Zbu (ns:List Nd) (n:Nd) (f:Nat) (a b:Int):Bool:=Zam ns (n.kids.drop f) (isB [7])&&decide (a<=(n.kids.length:Int)-f)&&decide ((n.kids.length:Int)-f<=b)
theorem Zok {l:List Int} {f i:Nat} {x:Int} {t:Int->Bool} (ns:List Nd) (a:f<=i) (hx:l[i]? = Ya x) (h:Zam ns ((l.take i).drop f) t=true):Zam ns ((l.take (i+1)).drop f) t=t (Zp ns x):=by have b:=(List.getElem?_eq_some_iff.mp hx).1;rw[List.take_add_one,hx,List.drop_append,show f-(List.take i l).length=0 by rw[List.length_take];omega];unfold Zam at h⊢;rw[List.all_append,h,Bool.true_and];simp
theorem ZpY {l:List Int} {f i:Nat} {x:Int} {t:Int->Bool} (ns:List Nd) (a:f<=i) (hx:l[i]? = Ya x) (h:t (Zp ns x)=false):Zam ns (l.drop f) t=false:=by unfold Zam;rw[List.all_eq_false];refine⟨x,List.mem_iff_getElem?.mpr ⟨i-f,?_⟩,by rw[h];decide⟩;rw[List.getElem?_drop,show f+(i-f)=i by omega];exact hx
theorem ZlH (w:Yh) (v:Value) (ns:List Nd) (x:NdV×Nd) (f:Nat) (a b:Int) (hN:Zi w v ns) (h:ZS w x) (hk:Zaw x.2.kids ns.length) (W:f<=x.2.kids.length) (A:f<=1) :
  Calls Tryz.prog 58 #[v,ndV x,Yd Yf f,Yd Yf a,Yd Yf b] w fun e w'=>e=.returned (.bool (Zbu ns x.2 f a b))/\Below w.heap.size w w':=by
 have K:=zh (fun(wr:Yh) (o:Below w.heap.size w wr) (i:Nat) (hi:i<x.2.kids.length)=>ZkW wr v ns x i (hN.below o) (h.below o) hk hi);obtain⟨⟨G,L,O,_⟩,⟨H,M,e2,_⟩,I,N,e3,P,R,S⟩:=h;obtain⟨⟨v1,v2,v3⟩,C,F,l,d,E⟩:=x;dsimp only at O e2 e3 P S W hk K;subst O e2 e3;have n:=Blk.start w #[Yd Yf C,Yc G F.length L,Yc H l.length M,Yc I d.length N,Yd Yf E] 37;have o:=below_alloc1 w (Yg #[Yd Yf C,Yc G F.length L,Yc H l.length M,Yc I d.length N,Yd Yf E] 37);unfold ndV at K⊢;unfold Zbu;dsimp only at K⊢;have B:d.length<=9223372036854775807:=by unfold maxLen at R;omega
 have HN:=zh (zi W (zi B A));have U:=zh (zi n o);have u0:IntKind.i64.wrap ((d.length:Int)-(f:Int))=(d.length:Int)-(f:Int):=IntWalk.i64_in _ (by omega);clear B P R S n o W A hk hN;go_enter Tryz.func58,Tryz.ntmps58;go_wp2_with fail;generalize w.alloc (Yg #[Yd Yf C,Yc G F.length L,Yc H l.length M,Yc I d.length N,Yd Yf E] 37)=w1 at *;go_loopg [12] (d.length-f) (fun g aa wr=>∃k:Nat,aa=Yd Yf k/\f<=k/\k<=d.length/\g=d.length-k/\Zam ns ((d.take k).drop f) (isB [7])=true/\Blk wr w.heap.size #[Yd Yf C,Yc G F.length L,Yc H l.length M,Yc I d.length N,Yd Yf E]/\Below w.heap.size w wr)
 case atStart=>exact⟨f,rfl,Nat.le_refl _,HN.out.1,rfl,by rw[List.drop_of_length_le (by rw[List.length_take];omega)];rfl,U.out.1,U.out.2⟩
 case round=>
  clear U;obtain⟨k,rfl,p,hk,X,j,n,o⟩:=hrel;have g0:=n.cell 0;have P:=n.cell 1;have R:=n.cell 2;have S:=n.cell 3;have g4:=n.cell 4;simp only[List.getElem?_toArray,List.getElem?_cons_zero,List.getElem?_cons_succ]at g0 P R S g4;by_cases u:k=d.length
  ·have e:d.take k=d:=by rw[u];exact List.take_length
   rw[e]at j;have c:=zh (zi j o);subst u;clear hk X j e n o p;by_cases Y:a<=(d.length:Int)-(f:Int)
   ·by_cases qb:(d.length:Int)-(f:Int)<=b
    ·have Q:=zh (zi (decide_eq_true Y) (decide_eq_true qb));go_wp2_with fail;go_ret;exact⟨by first|(rw[c.out.1,Q.out.1,Q.out.2];rfl)|(rw[c.out.1,Q.out.2];rfl)|(rw[c.out.1,Q.out.1];rfl)|(rw[c.out.1];rfl),c.out.2⟩
    ·have ap:b<(d.length:Int)-(f:Int):=by omega
     have Q:=zh (zi (decide_eq_true Y) (decide_eq_false qb));go_wp2_with fail;go_ret;exact⟨by first|(rw[c.out.1,Q.out.1,Q.out.2];rfl)|(rw[c.out.1,Q.out.2];rfl)|(rw[c.out.1,Q.out.1];rfl)|(rw[c.out.1];rfl),c.out.2⟩
   ·have ao:(d.length:Int)-(f:Int)<a:=by omega
    have Q:=zh (decide_eq_false Y);go_wp2_with fail;go_ret;exact⟨by first|(rw[c.out.1,Q.out];rfl)|(rw[c.out.1];rfl),c.out.2⟩
  ·have r:k<d.length:=by omega
   obtain⟨y,T⟩:∃y,d[k]? = Ya y:=⟨_,Ym r⟩
   have D:=Zok (t:=isB [7]) ns p T j;have z:=ZpY (t:=isB [7]) ns p T;have kk:kdR ns ⟨C,F,l,d,E⟩ k=Zp ns y:=by unfold kdR;dsimp only;rw[Zb9 T]
   have V:=zh (K.out wr o k r);rw[kk]at V;have i1:(k:Int)<(d.length:Int):=by omega
   have i2:(0:Int)<=(k:Int):=by omega
   have wk:IntKind.i64.wrap ((k:Int)+1)=(k:Int)+1:=IntWalk.i64_in _ (by have:=HN.out.2.1;omega);have s:=zh (zi r (zi X (zi n (zi o p))));have NX:=zh (zi D z);clear D z T u r hk X j n o p kk;generalize Zp ns y=Z at *;cases q:(Z==7)
   ·have q':(Z != 7)=true:=by rw[bne,q];rfl
    have c:=zh (NX.out.2 (by unfold isB;rw[List.contains_cons,q];rfl));go_wp2_with (go_at_call 29;(with_reducible refine V.out.mono ?_);rintro O w1 ⟨rfl,m⟩;have J:=zh (s.out.2.2.2.1.trans (m.mono s.out.2.2.2.1.size));clear m);go_ret;exact⟨by rw[c.out];rfl,J.out⟩
   ·have q':(Z != 7)=false:=by rw[bne,q];rfl
    have NY:=zh (NX.out.1.trans (by unfold isB;rw[List.contains_cons,q];rfl:_=true));go_wp2_with (go_at_call 29;(with_reducible refine V.out.mono ?_);rintro O w1 ⟨rfl,m⟩;have J:=zh (zi (s.out.2.2.1.keep m) (s.out.2.2.2.1.trans (m.mono s.out.2.2.2.1.size)));clear m);go_roundg (d.length-(k+1))
    case measure=>have:=s.out;omega
    case rel=>exact⟨k+1,by push_cast;rfl,by have:=s.out;omega,by have:=s.out;omega,rfl,NY.out,J.out.1,J.out.2⟩
end
end Go.Proofs.YtfbepcelkijgkaaGreatDoor
