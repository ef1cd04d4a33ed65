import Derived.Test.YtdkegpkfjgloeaaGreatDoorQBI
set_option maxRecDepth 100000
set_option maxHeartbeats 8000000
open Option renaming none → Yb
open Go.Value renaming slice → Yc, int → Yd
open Go.IntKind renaming i64 → Yf
open Go.Obj renaming cells → Yg
open Go.RowKit
namespace Go.Proofs.YtdkegpkfjgloeaaGreatDoor
theorem Zgy {X:World} {b:Nat} {ty:TypeId} {a0 a1:Value} (h:Zk X b ty #[a0,a1]) (a c:Value):(X.setCell ⟨b,0,Yb⟩ a).cell? ⟨b,0,Yb⟩=some a/\((X.setCell ⟨b,0,Yb⟩ a).setCell ⟨b,1,Yb⟩ c).cell? ⟨b,1,Yb⟩=some c:=
 ⟨by rw[(h.set 0 a).blk.cell 0];rfl,by rw[((h.set 0 a).set 1 c).blk.cell 1];rfl⟩
theorem Zfh {w X:World} (h:Below w.heap.size w X) (a b:Value):Below w.heap.size w ((X.setCell ⟨w.heap.size,0,Yb⟩ a).setCell ⟨w.heap.size,1,Yb⟩ b):=
 (h.setCell (p:=⟨w.heap.size,0,Yb⟩) (Nat.le_refl _) _).setCell (p:=⟨w.heap.size,1,Yb⟩) (Nat.le_refl _) _
theorem LayS.past {w:World} {B b j:Nat} {v u:Value} {c:List (NdV×Nd)} {a0 a1:Value} (h:LayS w B v c) (a:Zk w b 28 #[a0,a1]):LayS (w.setCell ⟨b,j,Yb⟩ u) B v c:=
 ⟨ZbW h.own a (by decide),fun i x hx=>⟨ZbW (h.each i x hx).1 a (by decide),ZbW (h.each i x hx).2.1 a (by decide),ZbW (h.each i x hx).2.2.1 a (by decide),(h.each i x hx).2.2.2⟩,h.apart⟩
theorem ZnS (s:ByteArray) (w:World):Calls Tryz.prog 8 #[.string s] w (Zp0 w (Zf5 s.data.toList)):=by
 obtain⟨R,T⟩:∃R,R=Zf5 s.data.toList:=⟨_,rfl⟩
 rw[<-T];obtain⟨L,m,K,d⟩:∃L m K,Zep s.data.toList=(L,m,K):=⟨_,_,_,rfl⟩
 unfold Zf5 at T;rw[d]at T;dsimp only at T;have a0:=below_alloc1 w (Yg #[Yd Yf 0,Yd Yf 0] 28);have T0:=Zk.start w #[Yd Yf 0,Yd Yf 0] 28;generalize cq:w.alloc (Yg #[Yd Yf 0,Yd Yf 0] 28)=wa at *;have RT:=zh (Zl7 s wa);rw[d]at RT;have H:=zh (zi a0 T0);have HR:=zh (zi T d);clear a0 T0 T d;go_enter Tryz.func8,Tryz.ntmps8;go_upto_region 2 with(go_at_call 16;(refine RT.out.mono ?_);rintro e w1 ⟨A,c,rfl,hT,hb⟩;have Q1:=zh (zi hT hb);clear hT hb)
 have a2:=below_alloc1 w1 (Yg #[Yd Yf m,Yd Yf (K:Int)] 28);have T2:=Zk.start w1 #[Yd Yf m,Yd Yf (K:Int)] 28;have D2:=H.out.1.trans ((Q1.out.2.trans (a2.mono Q1.out.2.size)).mono H.out.1.size);have Y:=(H.out.2.keep Q1.out.2).keep a2;have K2:=Q1.out.1.below a2;generalize cp:w1.alloc (Yg #[Yd Yf m,Yd Yf (K:Int)] 28)=h at *;have f0:=T2.blk.cell 0;have f1:=T2.blk.cell 1;have z0:=Y.blk.cell 0;have G:=Y.blk.cell 1;have zf:=Y.blk.free;simp only[List.getElem?_toArray,List.getElem?_cons_zero,List.getElem?_cons_succ]at f0 f1 z0 G;have so:=Zt;have I:=zh (zi D2 (zi Y K2));clear a2 T2 D2 Y K2;by_cases U:m≠0
 ·have e1:(m != 0)=true:=by simp[U]
  have o:R=([],m,(K:Int)):=by rw[HR.out.1,Yo U]
  clear U;subst o;go_upto_region 3 with fail;refine wp_region_still_tail 2 (by kernel_rfl) (by kernel_rfl) ?_;simp only[List.take_succ_cons,List.take_zero,List.drop_succ_cons,List.drop_zero]
  iterate 2 still_step
  refine wpStill_nil ?_;change wpList _ _ _ _ _ h.drew;go_wp2_with fail;obtain⟨E,F⟩:=Zgy I.out.2.1 (Yd Yf m) (Yd Yf (K:Int));exact bodyPost_ret (v:=.tuple #[Yc Yb 0 0,.agg #[(Yd Yf m),(Yd Yf (K:Int))]]) (by simp[results,Tryz.results8,go_sem,so,E,F]) rfl ⟨_,rfl,Zi.nil _,(Zfh I.out.1 _ _).drew⟩
 ·have e0:m=0:=Classical.not_not.1 U;have e1:(m != 0)=false:=by simp[e0]
  have f:ZaJ L/\L.length<=6001/\∀t∈L,t.2.1.length<=6000:=by
   have d:=HR.out.2;unfold Zep at d;by_cases h6:6000<s.data.toList.length
   ·rw[Yo h6]at d;injection d with _ d;injection d with d _;exfalso;omega
   ·rw[Yn h6]at d;cases hx:ZbK s.data.toList 0 with
    |bad a=>
     rw[hx]at d;injection d with _ d;injection d with d _;exfalso;omega
    |ok ts=>
     rw[hx]at d;injection d with d _;subst d;obtain⟨q1,n,q3⟩:=Zso _ _ _ _ (Nat.le_refl _) hx;exact⟨q1,by omega,fun t P=>by have:=q3 t P;omega⟩
  have o:R=if(Zdj L).2.err≠0 then([],(Zdj L).2.err,(Zdj L).2.fat)else if 1500<(ZcV (ZdW L) []).length then([],13,0)else if 0<=Zci (ZdW L) 1 then([],12,Zci (ZdW L) 1)else(ZcV (ZdW L) [],0,0):=by rw[HR.out.1,Yn U]
  have a3:=below_alloc1 h (Yg #[Yc A L.length c,Yd Yf 0,Yd Yf 0,Yd Yf 0,Yd Yf 0] 52);have P3:ParS h (h.alloc (Yg #[Yc A L.length c,Yd Yf 0,Yd Yf 0,Yd Yf 0,Yd Yf 0] 52)) h.heap.size (Yc A L.length c) L s07:=
   ⟨Zk.start h _ _,I.out.2.2,a3,Nat.le_refl _,f.1.1,⟨by omega,f.1,fun t P=>by have:=f.2.2 t P;omega⟩⟩
  have R3:=I.out.2.1.keep a3;generalize a8:h.alloc (Yg #[Yc A L.length c,Yd Yf 0,Yd Yf 0,Yd Yf 0,Yd Yf 0] 52)=w3 at *;have z:=ZhS f.1 (fun g=>Zix f.1 (g+1)) 200;have hd:Dp L 201 s07:=⟨f.1.1,fun _=>⟨by decide,by decide⟩,by decide,by decide⟩
  have CP:=zh (Zlc h w3 h.heap.size (Yc A L.length c) L s07 200 (ex7 L) (st7 L) (Zkl z (ZjU h h.heap.size (Yc A L.length c) L f.1 200)) z P3 hd (by decide));have SZ:=zh (fun(e:(Zdj L).2.err=0)=>ZfH (ex:=ex7 L) f.1 z (ZmI f.1 (fun g=>Zix f.1 (g+1)) (fun g s hs e=>Zmp f.1 (ZaA 201) (ZcD f.1 201) (Zil f.1 201) s (Zks hs) e) 200) (L.length+1) [] s07 ⟨hd,by decide⟩ e);have SR:szT (ZdW L)=ZaQ (Zdj L).1+1:=ZbL _ _ _ _ _;have ax:=zh SR;have aq:=zh f.2.1;have M3:=zh (zi (I.out.1.trans (a3.mono I.out.1.size)) (zi R3 a3));obtain⟨b,y⟩:∃b,b=ZdW L:=⟨_,rfl⟩
  obtain⟨n,B⟩:∃q,q=(Zdj L).2:=⟨_,rfl⟩
  have V:Calls Tryz.prog 17 #[.pointer (some ⟨h.heap.size,0,Yb⟩)] w3 (Zcw h h.heap.size (Yc A L.length c) L w3 b n):=by rw[y,B];exact CP.out
  have W:=zh V;rw[<-y,<-B]at o;have H2:=zh o;have M:=zh (zi y B);clear CP V SR U e0 f P3 R3 z hd a3 o y B;go_upto_region 4 with fail;clear f0 f1 z0 G zf;go_upto_region 6 with(go_at_call 17;refine W.out.mono ?_;rintro e w4 ⟨xq,rfl,hp,P,hf⟩;have TS:=P.shape2;obtain⟨X1,x1,y1,Y1,i1,j1,Z1,k1,l1,rfl⟩:=TS;have Q4:=zh (zi hp (zi P hf));clear hp P hf;dsimp only[ZbQ])
  clear W;have a5:=below_alloc1 w4 (Yg #[Yd Yf (Tr.kd b),Yc X1 x1 y1,Yc Y1 i1 j1,Yc Yb 0 0,Yd Yf (Tr.ps b),Yc Z1 k1 l1] 55);have T5:=Zk.start w4 #[Yd Yf (Tr.kd b),Yc X1 x1 y1,Yc Y1 i1 j1,Yc Yb 0 0,Yd Yf (Tr.ps b),Yc Z1 k1 l1] 55;have ab:w.heap.size≠h.heap.size:=fun e=>by have:=I.out.2.1.lt;omega
  have R5:=(Q4.out.2.2.tblk M3.out.2.1 ab).keep a5;have P5:=Q4.out.1.keep a5;have D5:Below w.heap.size w w4:=M3.out.1.grown Q4.out.2.2 M3.out.1.size (fun q hq=>by injection hq with hq;have:=I.out.2.1.lt;omega);have X:=D5.trans (a5.mono D5.size);have O5:=Q4.out.2.1.keep a5;generalize ba:w4.alloc (Yg #[Yd Yf (Tr.kd b),Yc X1 x1 y1,Yc Y1 i1 j1,Yc Yb 0 0,Yd Yf (Tr.ps b),Yc Z1 k1 l1] 55)=w5 at *;obtain⟨c0,c1,c2,c3,c4⟩:=P5.cells;have l:=zh (zi X (zi R5 (zi P5 (zi O5 T5))));clear a5 T5 R5 P5 D5 X O5 ab ba a8;by_cases hq:n.err≠0
  ·have e2:(n.err != 0)=true:=by simp[hq]
   have C:R=([],n.err,n.fat):=by rw[H2.out,Yo hq]
   clear hq;subst C;have z0:=l.out.2.1.blk.cell 0;have G:=l.out.2.1.blk.cell 1;have zf:=l.out.2.1.blk.free;simp only[List.getElem?_toArray,List.getElem?_cons_zero,List.getElem?_cons_succ]at z0 G;go_upto_region 7 with fail;refine wp_region_still_tail 5 (by kernel_rfl) (by kernel_rfl) ?_;simp only[List.take_succ_cons,List.take_zero,List.drop_succ_cons,List.drop_zero]
   iterate 5 still_step
   refine wpStill_nil ?_;change wpList _ _ _ _ _ w5.drew;go_wp2_with fail;obtain⟨E,F⟩:=Zgy l.out.2.1 (Yd Yf n.err) (Yd Yf n.fat);exact bodyPost_ret (v:=.tuple #[Yc Yb 0 0,.agg #[(Yd Yf n.err),(Yd Yf n.fat)]]) (by simp[results,Tryz.results8,go_sem,so,E,F]) rfl ⟨_,rfl,Zi.nil _,(Zfh l.out.1 _ _).drew⟩
  ·have N:n.err=0:=Classical.not_not.1 hq;have e2:(n.err != 0)=false:=by simp[N]
   have C:R=if 1500<(ZcV b []).length then([],13,0)else if 0<=Zci b 1 then([],12,Zci b 1)else(ZcV b [],0,0):=by rw[H2.out,Yn hq]
   have a7:szT b<=10000:=by
    have s1:=SZ.out (by rw[<-M.out.2];exact N);have s2:=ax.out;have s3:=l.out.2.2.1.lt;have s4:=aq.out;rw[<-M.out.1]at s2;have s5:(Zdj L).2.at_<L.length:=by rw[<-M.out.2];exact s3
    rw[ZaQ]at s1;change ZaQ (Zdj L).1+s07.at_<=(Zdj L).2.at_+0 at s1;omega
   have CL:=zh (ZqL l.out.2.2.2.1 w5 (Yc Yb 0 0) [] (Below.refl _ _) (LayS.nil _ _) (by simp only[Yl];omega));have t5:=fun i=>l.out.2.2.2.2.blk.cell i;have t0:=t5 0;have t1:=t5 1;have t2:=t5 2;have t3:=t5 3;have t4:=t5 4;have t6:=t5 5;simp only[List.getElem?_toArray,List.getElem?_cons_zero,List.getElem?_cons_succ]at t0 t1 t2 t3 t4 t6;have H3:=zh C;clear t5 hq N C a7;go_upto_region 9 with(go_at_call 18;(refine CL.out.mono ?_);rintro e w6 ⟨v6,p,rfl,ac,ag,ad,af⟩;have J:=zh (zi ac (zi ag (zi ad af)));clear ac ag ad af)
   have SV:=ZbB J.out.1.own;obtain⟨A6,c6,rfl⟩:=SV;have k:p.length=(ZcV b []).length:=by have:=congrArg List.length J.out.2.1;rw[List.length_map]at this;exact this
   have Z:=J.out.2.2.2.2 _ _ _ l.out.2.1 (by decide) (by decide);have T6:=J.out.2.2.2.2 _ _ _ l.out.2.2.2.2 (by decide) (by decide);have D6:=l.out.1.trans (J.out.2.2.1.mono l.out.1.size);have z0:=Z.blk.cell 0;have G:=Z.blk.cell 1;have zf:=Z.blk.free;simp only[List.getElem?_toArray,List.getElem?_cons_zero,List.getElem?_cons_succ]at z0 G;have Q:=zh (zi D6 (zi Z T6));clear D6 Z T6 CL t0 t1 t2 t3 t4 t6 c0 c1 c2 c3 c4;by_cases r:1500<p.length
   ·have j1:(1500:Int)<(p.length:Int):=by omega
    have D:R=([],13,0):=by rw[H3.out,Yo (by rw[<-k];exact r)]
    clear r k;subst D;go_wp2_with fail;obtain⟨E,F⟩:=Zgy Q.out.2.1 (Yd Yf 13) (Yd Yf 0);exact bodyPost_ret (v:=.tuple #[Yc Yb 0 0,.agg #[(Yd Yf 13),(Yd Yf 0)]]) (by simp[results,Tryz.results8,go_sem,so,E,F]) rfl ⟨_,rfl,Zi.nil _,Zfh Q.out.1 _ _⟩
   ·have j1:¬((1500:Int)<(p.length:Int)):=by omega
    have D:R=if 0<=Zci b 1 then([],12,Zci b 1)else(ZcV b [],0,0):=by rw[H3.out,Yn (by rw[<-k];exact r)]
    have H4:=zh D;have CD:=zh (Zpd l.out.2.2.2.1 w6 1 J.out.2.2.1 (by decide) (by decide));have t5:=fun i=>Q.out.2.2.blk.cell i;have t0:=t5 0;have t1:=t5 1;have t2:=t5 2;have t3:=t5 3;have t4:=t5 4;have t6:=t5 5;simp only[List.getElem?_toArray,List.getElem?_cons_zero,List.getElem?_cons_succ]at t0 t1 t2 t3 t4 t6;clear t5 r k D z0 G zf;go_upto_region 12 with(go_at_call 19;(refine CD.out.mono ?_);rintro e w7 ⟨rfl,ae⟩;have Q7:=zh ae;clear ae)
    clear t0 t1 t2 t3 t4 t6 CD;have R7:=Q.out.2.1.keep Q7.out;have D7:=Q.out.1.trans (Q7.out.mono Q.out.1.size);have z0:=R7.blk.cell 0;have G:=R7.blk.cell 1;have zf:=R7.blk.free;simp only[List.getElem?_toArray,List.getElem?_cons_zero,List.getElem?_cons_succ]at z0 G;have S:=zh (zi D7 R7);clear D7 R7;by_cases hk:0<=Zci b 1
    ·have O:R=([],12,Zci b 1):=by rw[H4.out,Yo hk]
     subst O;go_wp2_with fail;obtain⟨E,F⟩:=Zgy S.out.2 (Yd Yf 12) (Yd Yf (Zci b 1));exact bodyPost_ret (v:=.tuple #[Yc Yb 0 0,.agg #[(Yd Yf 12),(Yd Yf (Zci b 1))]]) (by simp[results,Tryz.results8,go_sem,so,E,F]) rfl ⟨_,rfl,Zi.nil _,Zfh S.out.1 _ _⟩
    ·have O:R=(ZcV b [],0,0):=by rw[H4.out,Yn hk]
     subst O;have L7:=zh ((((J.out.1.below Q7.out).past (j:=0) (u:=Yd Yf 0) S.out.2).past (j:=1) (u:=Yd Yf 0) (by simpa using S.out.2.set 0 (Yd Yf 0))).nodes);rw[J.out.2.1]at L7;go_wp2_with fail;obtain⟨E,F⟩:=Zgy S.out.2 (Yd Yf 0) (Yd Yf 0);exact bodyPost_ret (v:=.tuple #[Yc A6 p.length c6,.agg #[(Yd Yf 0),(Yd Yf 0)]]) (by simp[results,Tryz.results8,go_sem,so,E,F]) rfl ⟨_,rfl,L7.out,Zfh S.out.1 _ _⟩
end Go.Proofs.YtdkegpkfjgloeaaGreatDoor
