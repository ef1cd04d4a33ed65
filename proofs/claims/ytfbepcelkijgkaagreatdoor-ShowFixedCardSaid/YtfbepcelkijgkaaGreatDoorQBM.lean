import Derived.Test.YtfbepcelkijgkaaGreatDoorQAN
import Derived.Test.YtfbepcelkijgkaaGreatDoorQBE
set_option maxRecDepth 100000
set_option maxHeartbeats 8000000
open Option renaming none → Yb
open Go.Value renaming slice → Yc, int → Yd
open Go.IntKind renaming i64 → Yf
namespace Go.Proofs.YtfbepcelkijgkaaGreatDoor
section
open Go.RowKit
theorem Zm8 {b:List Nd} {a j:Nat} {n:Int} (h:j≠a):(Zer b a n)[j]? = b[j]?:=by
 unfold Zer
 split
 ·rw[List.getElem?_set_ne (fun e=>h e.symm)]
 ·rfl
theorem Zmi {b:List Nd} {a:Nat} {n:Int} {x:Nd} (h:b[a]? = some x):(Zer b a n)[a]? = some ⟨x.kind,x.words,x.nums,x.kids++[n],x.pos⟩:=by
 unfold Zer;rw[h];exact List.getElem?_set_self (List.getElem?_eq_some_iff.1 h).1
mutual
theorem Zhy:∀(t:Tr) (a:List Nd) (j:Nat),j<a.length->(Zcf t a)[j]? = a[j]?
 |.mk k ws us p ks,a,j,hj=>by
  rw[Zcf,ZgZ ks a.length _ j (by rw[Yj];omega) (by omega),List.getElem?_append_left hj]
theorem ZgZ:∀(ts:List Tr) (a:Nat) (b:List Nd) (j:Nat),j<b.length->j≠a->(ZcC ts a b)[j]? = b[j]?
 |[],a,b,j,_,_=>by rw[ZcC]
 |t::r,a,b,j,hj,hne=>by
  rw[ZcC,ZgZ r a _ j (by rw[ZdZ,ZdD];omega) hne,Zhy t _ j (by rw[ZdD];exact hj),Zm8 hne]
end
theorem ZmU:∀ts:List Tr,ts.length<=Zaq ts
 |[]=>Nat.zero_le _
 |t::r=>by
  have:=ZmU r;have a:1<=szT t:=by cases t;rw[szT];omega
  rw[Zaq,Yk];omega
theorem Zqz {W:World} {Q:Nat->Prop} {x:NV} {t:Tr} (h:TrO W Q x t):∀(w:World) (v:Value) (f:List (NdV×Nd)),Below W.heap.size W w->LayS w W.heap.size v f->f.length+szT t<=1000000 ->
  Calls Tryz.prog 21 #[ZbN (x,t),v] w fun e w'=>∃(v':Value) (ai:List (NdV×Nd)),e=.returned v'/\LayS w' W.heap.size v' ai/\ai.map (·.2)=Zcf t (f.map (·.2))/\Below W.heap.size W w'/\ZcP w w':=by
 obtain⟨iA,hA,bn,bo,bp⟩:=info_parts Zr8;obtain⟨iK,bd,bq,br,bs⟩:=info_parts Zr9
 induction h with
 |@mk Q wv uv lv k p ws us vs hw hm hu hl hq he ih=>
  intro w v f hb hL r;have S1:=Zbc hw;have S2:=Zbc hu;have S3:=Zbw hl;have S4:=Zbw hL.own;obtain⟨A,n,c,rfl⟩:=S1;obtain⟨B,m,d,rfl⟩:=S2;obtain⟨C,e,rfl⟩:=S3;obtain⟨O,o,rfl⟩:=S4;have hM:Zcf (.mk k ws us p (vs.map (·.2))) (f.map (·.2))=ZcC (vs.map (·.2)) f.length (f.map (·.2)++[⟨k,ws,us,[],p⟩]):=by rw[Zcf,List.length_map]
  have hS:szT (.mk k ws us p (vs.map (·.2)))=Zaq (vs.map (·.2))+1:=by rw[szT]
  rw[hS]at r;rw[hM];dsimp only[ZbN,Tr.kd,Tr.ps];obtain⟨R,hR⟩:∃R,R=ZcC (vs.map (·.2)) f.length (f.map (·.2)++[⟨k,ws,us,[],p⟩]):=⟨_,rfl⟩
  rw[<-hR];have a1:=below_alloc1 w (.cells #[Yd Yf k,Yc A n c,Yc B m d,Yc Yb 0 0,Yd Yf p,Yc C vs.length e] 58);have T1:=Zh.start w #[Yd Yf k,Yc A n c,Yc B m d,Yc Yb 0 0,Yd Yf p,Yc C vs.length e] 58;have L1:=hL.below a1;have b1:=hb.trans (a1.mono hb.size);generalize da:w.alloc (.cells #[Yd Yf k,Yc A n c,Yc B m d,Yc Yb 0 0,Yd Yf p,Yc C vs.length e] 58)=w1 at *;have z:=fun i=>T1.blk.cell i;have z0:=z 0;have z1:=z 1;have z2:=z 2;have z3:=z 3;have z4:=z 4;simp only[List.getElem?_toArray,List.getElem?_cons_zero,List.getElem?_cons_succ]at z0 z1 z2 z3 z4;have a2:=below_alloc1 w1 (.cells #[Yd Yf k,Yc A n c,Yc B m d,Yc Yb 0 0,Yd Yf p] 37);have L2:=zh (L1.below a2);have RD:=zh (ZnR w1 (Yd Yf k) (Yc A n c) (Yc B m d) (Yc Yb 0 0) (Yd Yf p) 37);have b2:=b1.trans (a2.mono b1.size);generalize db:w1.alloc (.cells #[Yd Yf k,Yc A n c,Yc B m d,Yc Yb 0 0,Yd Yf p] 37)=w2 at *;have L:vs.length<=maxLen:=by
   rcases hl.2 with⟨_,q⟩|⟨_,bc,_,q,_,_,h3,h4,_⟩
   ·omega
   ·injection q with _ q2 q3;omega
  have G:=zh (zi hl (zi he (zi ih (zi L (zi r hm)))));have HO:=zh (zi hw hu);have HB:=zh (zi b2 ((ZcP.of_below a1).trans (ZcP.of_below a2)));have HT:=zh (T1.keep a2);have HR:=zh hR;have T:=zh (show Below W.heap.size W w2 from b2);clear z T1 a1 a2 L1 b1 b2 hw hm hu hl hq he ih hb hL r hM hS hR L;go_enter Tryz.func21,Tryz.ntmps21;go_upto_region 3 with(at_builtin;(refine ZaN _ rfl _ _ 22 rfl W.heap.size 37 iA (.agg #[Yd Yf 0,Yc Yb 0 0,Yc Yb 0 0,Yc Yb 0 0,Yd Yf 0]) 5 88 Tryz.underlying22 hA bn bo bp rfl (by decide) (Yc O f.length o) _ _ rfl L2.out.own _ _ 1 1 [Yd Yf k,Yc A n c,Yc B m d,Yc Yb 0 0,Yd Yf p] rfl RD.out (Zqo _ _ _ _ _ _ _ _ _ _ _) (by have:=G.out.2.2.2.2.1;unfold maxLen;omega) (by have:=G.out.2.2.2.2.1;omega) T.out.size ?_);intro v3 w3 j b _;have G3:=zh (zi j b);clear j b)
  have af:w2.ownsRow 0 9 1 (Yc A n c) ws.length (ws.map txt)/\w2.ownsRow 0 2 1 (Yc B m d) us.length (us.map (Value.int Yf))/\∀y∈ws,y.length<=maxLen:=
   ⟨ZcE HO.out.1 (T.out),ZcE HO.out.2 (T.out),G.out.2.2.2.2.2⟩
  have L3:=L2.out.push (x:=((Yc A n c,Yc B m d,Yc Yb 0 0),⟨k,ws,us,[],p⟩)) af ⟨rfl,rfl⟩ G3.out.1 G3.out.2;have F3:=Zit L3.own (by simp);obtain⟨g3,c3,c6,rfl,_,_⟩:=F3;have M:=zh (zi L3 (zi (T.out.grown G3.out.2 T.out.size (fun q hq=>(L2.out.own.lt q hq).1)) (ZcP.row L2.out.own (.inl rfl) G3.out.2)));clear af L3 z0 z1 z2 z3 z4;go_upto_region 4 with fail;go_loopg [1,6] vs.length (fun g v1 v6 wr=>∃(i:Nat) (a:List (NdV×Nd)),v6=Yd Yf i/\i<=vs.length/\g=vs.length-i/\LayS wr W.heap.size v1 a/\R=ZcC ((vs.map (·.2)).drop i) f.length (a.map (·.2))/\Below W.heap.size W wr/\ZcP w2 wr/\f.length<a.length/\a.length+Zaq ((vs.map (·.2)).drop i)<=1000000/\∃nq:Nd,(a.map (·.2))[f.length]? = some nq/\nq.kids.length=i)
  case atStart=>
   refine⟨0,f++[((Yc A n c,Yc B m d,Yc Yb 0 0),⟨k,ws,us,[],p⟩)],rfl,Nat.zero_le _,rfl,?_,?_,M.out.2.1,M.out.2.2,by simp,?_,⟨k,ws,us,[],p⟩,by simp,rfl⟩
   ·have q:=M.out.1;rw[Yj]at q;exact q
   ·rw[HR.out,List.map_append];rfl
   ·have:=G.out.2.2.2.2.1;rw[Yj];simp only[List.drop_zero,Yk,Yl];omega
  case round=>
   obtain⟨i,a,rfl,hi,hg,l,S,E,F,I,r,nq,s,N⟩:=hrel;have F4:=Zit l.own (by omega);obtain⟨g,c,cs,rfl,hT,aa⟩:=F4;have TB:=F.2 _ _ _ HT.out (by decide) (by decide);have y5:wr.cell? ⟨w.heap.size,5,Yb⟩=some (Yc C vs.length e):=TB.blk.cell 5;by_cases H:i<vs.length
   ·obtain⟨y,hy⟩:∃y,vs[i]? = some y:=⟨_,Ym H⟩
    have hd:(vs.map (·.2)).drop i=y.2::(vs.map (·.2)).drop (i+1):=List.drop_eq_getElem?_toList_append.trans (by rw[List.getElem?_map,hy];rfl);rw[hd,ZcC,List.length_map]at S;rw[hd,Zaq]at r;obtain⟨x2,D⟩:∃x2,a[f.length]? = some x2:=⟨_,Ym I⟩
    have k0:=l.own.cells (g:=g) rfl (f.length*5+3) x2.1.2.2 (ZeX a f.length x2 D).2.2.2.1;rw[Addr.add_lit,Nat.zero_add]at k0;have SK:=Zbc (l.each _ _ D).2.2.1;have U:=zh (zi D (l.each _ _ D).2.2.1);obtain⟨⟨xw,xu,xk⟩,nd⟩:=x2;dsimp only at k0 SK;obtain⟨KA,kn,kc,rfl⟩:=SK;have J:=List.mem_of_getElem? hy;have i0:(0:Int)<=(i:Int):=by omega
    have i1:(i:Int)<(vs.length:Int):=by omega
    have r0:(0:Int)<=(f.length:Int):=by omega
    have r1:(f.length:Int)<(a.length:Int):=by omega
    have wi:IntKind.i64.wrap ((i:Int)+1)=((i+1:Nat):Int):=by push_cast;exact IntWalk.i64_in _ (by have:=G.out.2.2.2.1;unfold maxLen at this;omega)
    have a4:=below_alloc1 wr (.cells #[Yd Yf (a.length:Int)] 3);have L4:=zh (l.below a4);have ay:=zh (Zdm wr (Yd Yf (a.length:Int)) 3);have V:=zh (ZcE U.out.2 a4);have B4:=zh (zi (E.trans (a4.mono E.size)) (ZcP.of_below a4));generalize dc:wr.alloc (.cells #[Yd Yf (a.length:Int)] 3)=w4 at *;have u:=zh (zi H (zi hg (zi S (zi F (zi I (zi r (zi hy (zi J aa))))))));have ag:nd.kids.length<=maxLen:=by
     rcases U.out.2.2 with⟨_,q⟩|⟨_,bc,_,q,_,_,h3,h4,_⟩
     ·dsimp only at q;omega
     ·dsimp only at h3 q;omega
    have ah:nd.kids.length=i:=by rw[List.getElem?_map,D]at s;injection s with s;dsimp only at s;rw[s];exact N
    have vl:vs.length<=1000000:=by have:=ZmU (vs.map (·.2));have:=G.out.2.2.2.2.1;rw[List.length_map]at *;omega
    have kb:(nd.kids.length+1)*8<=140737488355328:=by omega
    have HN:=zh ah;clear H hi hg S F I r hy hd J aa l E hT TB a4 s N ah vl nq D;go_upto_region 7 with(at_builtin;(refine ZaN _ rfl _ _ 35 rfl W.heap.size 3 iK (Yd Yf 0) 1 8 Tryz.underlying35 bd bq br bs rfl (by decide) (Yc KA kn kc) _ _ rfl V.out _ _ 1 1 [Yd Yf (a.length:Int)] rfl ay.out (ZqY _) (by have:=kb;unfold maxLen;dsimp only;omega) (by dsimp only;exact kb) B4.out.1.size ?_);intro vq w5 j b ad;have OS:=Zbc j;obtain⟨A5,n5,c5,rfl⟩:=OS;have X:=zh (L4.out.kid U.out.1 j b ad);have B5:=zh (B4.out.1.grown b B4.out.1.size (fun q hq=>(V.out.lt q hq).1));clear j b ad;have k1:=X.out.1;have k2:=X.out.2.1;dsimp only at k1)
    clear k0 k1 k2 kb ag;have N6:=zh X.out.2.2.1;have Q6:=zh (X.out.2.2.2);have B6:=zh (B5.out.setCell (p:=⟨g,f.length*5+3,Yb⟩) u.out.2.2.2.2.2.2.2.2 (Yc A5 n5 c5));clear X B5;generalize w5.setCell ⟨g,f.length*5+3,Yb⟩ (Yc A5 n5 c5)=w6 at *;have K6:=zh ((u.out.2.2.2.1.trans B4.out.2).trans Q6.out);have y6:w6.cell? ⟨w.heap.size,5,Yb⟩=some (Yc C vs.length e):=(K6.out.2 _ _ _ HT.out (by decide) (by decide)).blk.cell 5;obtain⟨g7,e7,hC,c0,c1,c2,c3,c4,bb⟩:=ZmC G.out.1 B6.out u.out.2.2.2.2.2.2.1;injection hC with hC1 _ hC2;subst hC1 hC2;have SY:=(G.out.2.1 y u.out.2.2.2.2.2.2.2.1).shape2;have ae:=u.out.2.2.2.2.2.1;have CT:=zh (G.out.2.2.1 y u.out.2.2.2.2.2.2.2.1 w6 _ _ B6.out N6.out (by rw[List.length_set];omega));have MP:=zh (ZpN (kv:=Yc A5 n5 c5) (n:=(a.length:Int)) U.out.1);clear y5 ae;obtain⟨⟨y1,y2,y3⟩,yt⟩:=y;dsimp only at c0 c1 c2 c3 c4 bb SY CT;obtain⟨yA,yn,yc,yB,ym,yd,yC,yq,ye,bi⟩:=SY;injection bi with q1 q2;injection q2 with q2 q3;subst q1 q2 q3;go_wp2_with (go_at_call 21;(refine CT.out.mono ?_);rintro e w7 ⟨v7,aj,rfl,Y,ac,Z,ab⟩;have P:=zh (zi Y (zi ac (zi Z ab)));clear Y ac Z ab);go_roundg (vs.length-(i+1))
    case measure=>have:=u.out.1;have:=u.out.2.1;omega
    case rel=>
     have K:aj.length=a.length+szT yt:=by have:=congrArg List.length P.out.2.1;rw[List.length_map,ZdZ,MP.out,ZdD,List.length_map]at this;exact this
     refine⟨i+1,aj,by push_cast;rfl,u.out.1,rfl,P.out.1,?_,P.out.2.2.1,K6.out.trans P.out.2.2.2,?_,?_,?_⟩
     ·rw[u.out.2.2.1,P.out.2.1,MP.out]
     ·rw[K];have:=u.out.2.2.2.2.1;omega
     ·rw[K];have:=u.out.2.2.2.2.2.1;omega
     ·have hx:=U.out.1;have hm:(a.map (·.2))[f.length]? = some nd:=by rw[List.getElem?_map,hx];rfl
      rw[P.out.2.1,MP.out,Zhy _ _ _ (by rw[ZdD,List.length_map];exact u.out.2.2.2.2.1),Zmi hm];exact⟨_,rfl,by simp[HN.out]⟩
   ·obtain rfl:i=vs.length:=by omega
    rw[List.drop_of_length_le (by simp),ZcC]at S;have HQ:=zh (zi S (zi l (zi E F)));clear S l E F H hi hg s N r I hT TB;go_wp2_with fail;go_ret;exact⟨_,rfl,_,HQ.out.2.1,HQ.out.1.symm,HQ.out.2.2.1,HB.out.2.trans HQ.out.2.2.2⟩
end
section
open Go.RowKit
def Zbf:List Tr->Nat->List Int
 |[],_=>[]
 |t::r,b=>(b:Int)::Zbf r (b+szT t)
mutual
def Zb7:Tr->Nat->List Nd
 |.mk k ws us p ks,a=>⟨k,ws,us,Zbf ks (a+1),p⟩::Zcd ks (a+1)
def Zcd:List Tr->Nat->List Nd
 |[],_=>[]
 |t::r,b=>Zb7 t b++Zcd r (b+szT t)
end
mutual
theorem Zdu:∀(t:Tr) (a:Nat),(Zb7 t a).length=szT t
 |.mk k ws us p ks,a=>by rw[Zb7,Yk,Zkf,szT]
theorem Zkf:∀(ts:List Tr) (a:Nat),(Zcd ts a).length=Zaq ts
 |[],a=>by rw[Zcd,Zaq];rfl
 |t::r,a=>by rw[Zcd,Yj,Zdu,Zkf,Zaq]
end
theorem ZpO (a b:List Nd) (x:Nd) (n:Int):Zer (a++x::b) a.length n=a++⟨x.kind,x.words,x.nums,x.kids++[n],x.pos⟩::b:=by
 have h:(a++x::b)[a.length]? = some x:=by simp
 unfold Zer;rw[h];simp
mutual
theorem Zk3:∀(t:Tr) (a:List Nd),Zcf t a=a++Zb7 t a.length
 |.mk k ws us p ks,a=>by
  have h:=ZjT ks a ⟨k,ws,us,[],p⟩ [];rw[Zcf,Zb7];rw[h];simp
theorem ZjT:∀(ts:List Tr) (a:List Nd) (x:Nd) (b:List Nd),ZcC ts a.length (a++x::b)=a++⟨x.kind,x.words,x.nums,x.kids++Zbf ts (a.length+1+b.length),x.pos⟩::b++Zcd ts (a.length+1+b.length)
 |[],a,x,b=>by rw[ZcC,Zbf,Zcd];simp
 |t::r,a,x,b=>by
  have e:(a++x::b).length=a.length+1+b.length:=by simp;omega
  rw[ZcC,ZpO,Zk3 t,e];have c:(a++(⟨x.kind,x.words,x.nums,x.kids++[((a.length+1+b.length:Nat):Int)],x.pos⟩:Nd)::b).length=a.length+1+b.length:=by simp;omega
  rw[c,List.append_assoc,List.cons_append,ZjT r a _ (b++Zb7 t (a.length+1+b.length))];have d:a.length+1+(b++Zb7 t (a.length+1+b.length)).length=a.length+1+b.length+szT t:=by rw[Yj,Zdu];omega
  rw[d,Zbf,Zcd];simp
end
theorem ZmD (t:Tr):Zcf t []=Zb7 t 0:=by rw[Zk3];rfl
theorem Zre (a b:List Nd) (k:Int):ZeR (a++b) k=ZeR a k+ZeR b k:=by unfold ZeR;rw[List.map_append,List.sum_append]
theorem ZpU (d:Nd) (b:List Nd) (k:Int):ZeR (d::b) k=d.kids.count k+ZeR b k:=by unfold ZeR;rw[List.map_cons,List.sum_cons]
theorem ZjK (t:Tr):0<szT t:=by cases t;rw[szT];omega
mutual
theorem Zlp:∀(t:Tr) (a k:Nat),ZeR (Zb7 t a) (k:Int)=if a<k/\k<a+szT t then 1 else 0
 |.mk kd ws us p ks,a,k=>by
  rw[Zb7,ZpU,Zke ks (a+1) k,szT];by_cases h:a+1<=k/\k<a+1+Zaq ks
  ·rw[Yo h,Yo (by omega)]
  ·rw[Yn h,Yn (by omega)]
theorem Zke:∀(ts:List Tr) (b k:Nat),(Zbf ts b).count (k:Int)+ZeR (Zcd ts b) (k:Int)=if b<=k/\k<b+Zaq ts then 1 else 0
 |[],b,k=>by rw[Zbf,Zcd,Zaq,Yn (by omega)];rfl
 |t::r,b,k=>by
  have a:=Zlp t b k;have i2:=Zke r (b+szT t) k;have c:=ZjK t;rw[Zbf,Zcd,Zre,List.count_cons,Zaq];have e:((b:Int)==(k:Int))=decide (b=k):=by
   by_cases h:b=k
   ·subst h;simp
   ·rw[decide_eq_false h];rw[beq_eq_false_iff_ne];omega
  rw[e];simp only[decide_eq_true_eq]
  split at a<;>split at i2<;>(repeat' split)<;>omega
end
theorem Zj4:∀(ts:List Tr) (b:Nat) (k:Int),k∈Zbf ts b->(b:Int)<=k/\k<((b+Zaq ts:Nat):Int)
 |[],b,k,h=>by rw[Zbf]at h;simp at h
 |t::r,b,k,h=>by
  have a:=ZjK t;rw[Zbf]at h;rw[Zaq];rcases List.mem_cons.1 h with rfl|h
  ·omega
  ·have:=Zj4 r _ k h;omega
mutual
theorem Zkd:∀(t:Tr) (a i:Nat) (d:Nd),(Zb7 t a)[i]? = some d->∀k∈d.kids,((a+i:Nat):Int)<k/\k<((a+szT t:Nat):Int)
 |.mk kd ws us p ks,a,i,d,h,k,hk=>by
  rw[Zb7]at h;rw[szT];cases i with
  |zero=>
   injection h with h;subst h;have:=Zj4 ks (a+1) k hk;omega
  |succ i=>
   have:=Zjh ks (a+1) i d h k hk;omega
theorem Zjh:∀(ts:List Tr) (b i:Nat) (d:Nd),(Zcd ts b)[i]? = some d->∀k∈d.kids,((b+i:Nat):Int)<k/\k<((b+Zaq ts:Nat):Int)
 |[],b,i,d,h,k,hk=>by rw[Zcd]at h;simp at h
 |t::r,b,i,d,h,k,hk=>by
  rw[Zcd]at h;rw[Zaq];rcases Nat.lt_or_ge i (Zb7 t b).length with q|q
  ·rw[List.getElem?_append_left q]at h;have:=Zkd t b i d h k hk;omega
  ·rw[List.getElem?_append_right q]at h;have:=Zjh r (b+szT t) _ d h k hk;rw[Zdu]at *;omega
end
theorem Zn1 (t:Tr):ZhV (Zb7 t 0):=by
 have b:=ZjK t;refine⟨by rw[Zdu];exact b,fun i d hd=>⟨?_,fun k hk=>?_⟩⟩
 ·have a:=(List.getElem?_eq_some_iff.1 hd).1;rw[Zdu]at a;rw[Zlp];by_cases h:i=0
  ·rw[Yn (by omega),Yo h]
  ·rw[Yo (by omega),Yn h]
 ·have:=Zkd t 0 i d hd k hk;rw[Zdu];omega
def Zev (us:List Int) (k:Nat):Int:=(us[k]?).getD 0
def whL:List Int->Int
 |[]=>-1
 |x::_=>x
def Zbr (a:List Txt) (us:List Int) (w m:Nat):Bool:=decide (a.length=w)&&decide (us.length=m)
def Zbq:List Int->List (Int->Bool)->Bool
 |[],[]=>true
 |k::r,f::g=>f k&&Zbq r g
 |_,_=>false
def ZhI:List Int->Bool
 |[]=>true
 |[_]=>true
 |a::b::r=>decide (a<b)&&ZhI (b::r)
def Zf2 (us:List Int):Bool:=decide (1<=Zev us 1)&&decide (1<=Zev us 2)
def ZeS (us a b:List Int):Bool:=decide (Zev us 0<=4)&&((Zev us 1==0&&Zev us 2==0)||Zf2 us)&&a.all (isB [6])&&ZhI b
def ZhE (us a b:List Int):Bool:=!(Zev us 0==0)&&decide (Zev us 0<=4)&&Zf2 us&&(Zbq a [isB [7]]||Zbq a [isB [6],isB [7]]&&(b[0]?).getD (-1)==2)
def Zbe (c:Int) (a:List Txt) (us b d:List Int):Bool:=
 if c=0 then Zbr a us 0 0&&b.all (isB [1,4])
 else if c=1 then Zbr a us 1 0&&b.all (isB [2,3])
 else if c=2 then Zbr a us 1 1&&decide (Zev us 0<=1)&&Zbq b []
 else if c=3 then decide (4<=a.length)&&decide (a.length % 2=0)&&Zbr a us a.length 0&&Zbq b []
 else if c=4 then Zbr a us 1 0&&(b.take (b.length-1)).all (isB [5])&&Zbq (b.drop (b.length-1)) [isB [7]]
 else if c=5 then Zbr a us 1 0&&Zbq b []||Zbr a us 2 3&&ZeS us b d
 else if c=6 then decide (1<=a.length)&&Zbr a us a.length 1&&decide (Zev us 0<=2)&&Zbq b []
 else if c=7 then Zbr a us 0 0&&b.all ZcJ
 else if c=8\/c=9 then Zbr a us 1 0&&Zbq b [Zat]
 else if c=10 then Zbr a us 2 0&&Zbq b [isB [7],isB [7]]
 else if c=11 then Zbr a us 2 0&&b.all (isB [12])
 else if c=12 then Zbr a us 1 0&&Zbq b [isB [7]]
 else if c=13 then Zbr a us 2 3&&ZhE us b d
 else if c=14 then(Zbr a us 1 0||Zbr a us 2 0)&&b.all Zed
 else if c=15\/c=21 then Zbr a us 1 0&&Zbq b []
 else if c=16 then Zbr a us 0 0&&(Zbq b [Zat,isB [7]]||Zbq b [Zat,isB [7],isB [7]])
 else if c=17 then Zbr a us 0 0&&Zbq b [Zat,isB [7]]
 else if c=18\/c=23 then Zbr a us 0 0&&Zbq b [Zat]
 else if c=19 then Zbr a us 0 0&&Zbq b []
 else if c=20 then Zbr a us 0 1&&Zbq b []
 else if c=22 then Zbr a us 0 1&&decide (Zev us 0<=5)&&Zbq b [Zat,Zat]
 else false
theorem Zkz (ns:List Nd) (a:List Int) (f:Int->Bool):ZbJ ns a f=(a.map (ZJ ns)).all f:=by unfold ZbJ;rw[List.all_map];rfl
theorem ZgL (ns:List Nd):∀(b:List Int) (a:List (Int->Bool)),Zp ns b a=Zbq (b.map (ZJ ns)) a
 |[],[]=>rfl
 |[],_::_=>rfl
 |_::_,[]=>rfl
 |k::r,f::g=>by rw[Zp,List.map_cons,Zbq,ZgL ns r g]
theorem Zka (ns:List Nd):∀(c:List Int),Zbl ns c=ZhI (c.map (ZaC ns))
 |[]=>rfl
 |[_]=>rfl
 |a::b::r=>by
  have:=Zka ns (b::r);rw[Zbl,this];rfl
theorem Zqs (ns:List Nd) (n:Nd):Zep ns n=ZhE n.nums (n.kids.map (ZJ ns)) (n.kids.map (ZaC ns)):=by
 unfold Zep ZhE ZdW Zf2;rw[ZgL,ZgL];cases n.kids with
 |nil=>rfl
 |cons a r=>rfl
theorem ZkH (ns:List Nd) (n:Nd):ZcI ns n=ZeS n.nums (n.kids.map (ZJ ns)) (n.kids.map (ZaC ns)):=by unfold ZcI ZeS ZdW Zf2;rw[Zkz,Zka];rfl
theorem Znv (ns:List Nd) (n:Nd):Zm ns n=Zbe n.kind n.words n.nums (n.kids.map (ZJ ns)) (n.kids.map (ZaC ns)):=by unfold Zm Zbe;simp only[Zkz,ZgL,Zqs,ZkH,List.map_take,List.map_drop,List.length_map];rfl
def Tr.wh:Tr->Int
 |.mk _ _ us _ _=>whL us
mutual
def VT:Tr->Prop
 |.mk k b us p a=>0<=p/\(ZcD b=true/\b.length<=20000)/\ZbR us=true/\Zbe k b us (a.map Tr.kd) (a.map Tr.wh)=true/\VTs a
def VTs:List Tr->Prop
 |[]=>True
 |t::r=>VT t/\VTs r
end
theorem Zm4:∀{ts:List Tr},VTs ts->∀t∈ts,VT t
 |[],_,t,h=>by simp at h
 |u::r,hv,t,h=>by
  rw[VTs]at hv;rcases List.mem_cons.1 h with rfl|h
  ·exact hv.1
  ·exact Zm4 hv.2 t h
theorem Ze2:∀{ts:List Tr},(∀t∈ts,VT t)->VTs ts
 |[],_=>by rw[VTs];trivial
 |u::r,h=>by
  rw[VTs];exact⟨h u List.mem_cons_self,Ze2 fun t a=>h t (List.mem_cons_of_mem _ a)⟩
theorem Zlq (t:Tr) (a:Nat):∃(d:Nd) (r:List Nd),Zb7 t a=d::r/\d.kind=t.kd/\whL d.nums=t.wh:=by
 cases t with
 |mk k e c p b=>exact⟨_,_,Zb7.eq_1 _ _ _ _ _ _,rfl,rfl⟩
theorem ZqS (ns:List Nd) (k:Int):ZaC ns k=whL (Za ns k).nums:=by unfold ZaC whL;cases (Za ns k).nums<;>rfl
theorem Zi3 {ms:List Nd}:∀(ts:List Tr) (a b:List Nd),ms=a++(Zcd ts a.length++b)->(Zbf ts a.length).map (ZJ ms)=ts.map Tr.kd/\(Zbf ts a.length).map (ZaC ms)=ts.map Tr.wh
 |[],a,b,_=>⟨rfl,rfl⟩
 |t::r,a,b,h=>by
  rw[Zcd,List.append_assoc]at h;obtain⟨d,q,e,e1,i⟩:=Zlq t a.length;have c:Za ms (a.length:Int)=d:=by rw[h,e];unfold Za;simp
  have g:(a++Zb7 t a.length).length=a.length+szT t:=by rw[Yj,Zdu]
  have f:=Zi3 (ms:=ms) r (a++Zb7 t a.length) b (by rw[g,List.append_assoc];exact h);rw[g]at f;rw[Zbf,List.map_cons,List.map_cons,List.map_cons,List.map_cons,f.1,f.2,ZqS];unfold ZJ;rw[c,e1,i];exact⟨rfl,rfl⟩
mutual
theorem Zjf {ms:List Nd}:∀(t:Tr) (a b:List Nd),ms=a++(Zb7 t a.length++b)->VT t->∀d∈Zb7 t a.length,Zc3 ms d=true
 |.mk k ws us p ks,a,b,h,hv,d,hd=>by
  rw[VT]at hv;rw[Zb7]at hd h;have c:(a++[(⟨k,ws,us,Zbf ks (a.length+1),p⟩:Nd)]).length=a.length+1:=by simp
  have e:ms=(a++[(⟨k,ws,us,Zbf ks (a.length+1),p⟩:Nd)])++(Zcd ks (a.length+1)++b):=by rw[h];simp
  rcases List.mem_cons.1 hd with rfl|hd
  ·have:=Zi3 (ms:=ms) ks (a++[⟨k,ws,us,Zbf ks (a.length+1),p⟩]) b (by rw[c];exact e);rw[c]at this;unfold Zc3;rw[Znv];dsimp only;rw[this.1,this.2,hv.2.1.1,hv.2.2.1,hv.2.2.2.1];rfl
  ·have:=Zh6 (ms:=ms) ks (a++[⟨k,ws,us,Zbf ks (a.length+1),p⟩]) b (by rw[c];exact e) hv.2.2.2.2 d;rw[c]at this;exact this hd
theorem Zh6 {ms:List Nd}:∀(ts:List Tr) (a b:List Nd),ms=a++(Zcd ts a.length++b)->VTs ts->∀d∈Zcd ts a.length,Zc3 ms d=true
 |[],a,b,h,hv,d,hd=>by rw[Zcd]at hd;simp at hd
 |t::r,a,b,h,hv,d,hd=>by
  rw[VTs]at hv;rw[Zcd]at hd h;rw[List.append_assoc]at h;rcases List.mem_append.1 hd with hd|hd
  ·exact Zjf t a _ h hv.1 d hd
  ·have c:(a++Zb7 t a.length).length=a.length+szT t:=by rw[Yj,Zdu]
   have:=Zh6 (ms:=ms) r (a++Zb7 t a.length) b (by rw[c,List.append_assoc];exact h) hv.2 d;rw[c]at this;exact this hd
end
mutual
theorem Zjg:∀(t:Tr) (a:Nat),VT t->∀d∈Zb7 t a,d.words.length<=20000
 |.mk k ws us p ks,a,hv,d,hd=>by
  rw[VT]at hv;rw[Zb7]at hd;rcases List.mem_cons.1 hd with rfl|hd
  ·exact hv.2.1.2
  ·exact Zh7 ks _ hv.2.2.2.2 d hd
theorem Zh7:∀(ts:List Tr) (a:Nat),VTs ts->∀d∈Zcd ts a,d.words.length<=20000
 |[],a,_,d,hd=>by rw[Zcd]at hd;simp at hd
 |t::r,a,hv,d,hd=>by
  rw[VTs]at hv;rw[Zcd]at hd;rcases List.mem_append.1 hd with hd|hd
  ·exact Zjg t _ hv.1 d hd
  ·exact Zh7 r _ hv.2 d hd
end
theorem ZiI:∀(ts:List Tr) (a:Int),¬0<=ZdO ts a->∀t∈ts,¬0<=ZbG t a
 |[],_,_,t,h=>by simp at h
 |u::r,a,hd,t,h=>by
  rw[ZdO]at hd;by_cases q:0<=ZbG u a
  ·rw[Yo q]at hd;exact absurd q hd
  ·rw[Yn q]at hd;rcases List.mem_cons.1 h with rfl|h
   ·exact q
   ·exact ZiI r a hd t h
theorem Zj3 {ms:List Nd}:∀(ts:List Tr) (a b:List Nd) (k:Int),ms=a++(Zcd ts a.length++b)->k∈Zbf ts a.length->∃(t:Tr) (c d:List Nd),t∈ts/\k=(c.length:Int)/\ms=c++(Zb7 t c.length++d)
 |[],a,b,k,h,hk=>by rw[Zbf]at hk;simp at hk
 |t::r,a,b,k,h,hk=>by
  rw[Zcd,List.append_assoc]at h;rw[Zbf]at hk;rcases List.mem_cons.1 hk with rfl|hk
  ·exact⟨t,a,_,List.mem_cons_self,rfl,h⟩
  ·have e:(a++Zb7 t a.length).length=a.length+szT t:=by rw[Yj,Zdu]
   obtain⟨u,j,l,f,g,i⟩:=Zj3 (ms:=ms) r (a++Zb7 t a.length) b k (by rw[e,List.append_assoc];exact h) (by rw[e];exact hk);exact⟨u,j,l,List.mem_cons_of_mem _ f,g,i⟩
theorem Zpo {ms:List Nd}:∀(f:Nat) (t:Tr) (e:Int) (a b:List Nd),ms=a++(Zb7 t a.length++b)->VT t->¬0<=ZbG t e->e+htF ms f (a.length:Int)<=25
 |0,.mk k ws us p ks,e,a,b,h,hv,hd=>by
  rw[VT]at hv;rw[ZbG]at hd;rw[htF]
  split at hd<;>omega
 |f+1,.mk k ws us p ks,e,a,b,h,hv,hd=>by
  rw[VT]at hv;rw[ZbG]at hd;have n:¬24<e:=fun q=>by rw[Yo q]at hd;omega
  rw[Yn n]at hd;rw[Zb7]at h;have i:(a++[(⟨k,ws,us,Zbf ks (a.length+1),p⟩:Nd)]).length=a.length+1:=by simp
  have j:ms=(a++[(⟨k,ws,us,Zbf ks (a.length+1),p⟩:Nd)])++(Zcd ks (a.length+1)++b):=by rw[h];simp
  have d:Za ms (a.length:Int)=⟨k,ws,us,Zbf ks (a.length+1),p⟩:=by rw[h];unfold Za;simp
  rw[htF,d]
  have:=Zil ((Zbf ks (a.length+1)).map (htF ms f)) 0 (24-e) (by omega) fun x hx=>by
   obtain⟨c,hc,rfl⟩:=List.mem_map.1 hx;obtain⟨u,o,r,g,l,m⟩:=Zj3 (ms:=ms) ks (a++[⟨k,ws,us,Zbf ks (a.length+1),p⟩]) b c (by rw[i];exact j) (by rw[i];exact hc);have:=Zpo f u (e+1) o r m (Zm4 hv.2.2.2.2 u g) (ZiI ks _ hd u g);rw[l];omega
  show e+(Zk9 ((Zbf ks (a.length+1)).map (htF ms f))+1)<=25;unfold Zk9;omega
theorem Zks {t:Tr} (hv:VT t) (b:t.kd=0) (hs:szT t<=1500) (hd:¬0<=ZbG t 1):Zcu (Zcf t [])=true:=by
 rw[ZmD];have e:Zb7 t 0=([]:List Nd)++(Zb7 t ([]:List Nd).length++[]):=by simp
 refine Zqy (Zn1 t) (by rw[Zdu];exact hs) ?_ ?_ ?_
 ·obtain⟨d,r,e1,a,_⟩:=Zlq t 0;unfold ZJ;rw[e1];show d.kind=0;rw[a,b]
 ·have:=Zpo (ms:=Zb7 t 0) (Zb7 t 0).length t 1 [] [] e hv hd;have q:(([]:List Nd).length:Int)=0:=rfl;rw[q]at this;omega
 ·exact Zjf (ms:=Zb7 t 0) t [] [] e hv
end
end Go.Proofs.YtfbepcelkijgkaaGreatDoor
