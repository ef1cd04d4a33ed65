import Derived.Deep.DeepFit
import Derived.StillTailTactics
import Derived.Test.YtdkegpkfjgloeaaGreatDoorQAA
import Derived.Test.YtdkegpkfjgloeaaGreatDoorQAC
import Derived.Test.YtdkegpkfjgloeaaGreatDoorQAQ
set_option maxRecDepth 100000
set_option maxHeartbeats 8000000
open Option renaming some → Ya, none → Yb
open Go.Value renaming int → Yd, pointer → Ye
open Go.IntKind renaming i64 → Yf
open Go renaming World → Yh, Value → Yi
open Go.RowKit
namespace Go.Proofs.YtdkegpkfjgloeaaGreatDoor
abbrev ZqY (t:Tok):Yi:=.agg #[Yd Yf t.1,txt t.2.1,Yd Yf t.2.2]
theorem ParS.tok' {j w:Yh} {d:Nat} {b:Yi} {L:List Tok} {s:PS} (h:ParS j w d b L s) {k:Nat} (hk:k<L.length) :
  ∃a c,b=.slice (Ya a) L.length c/\w.cell? (a.add (k*3))=Ya (Yd Yf (Zl L k).1)/\w.cell? ⟨(a.add (k*3)).block,(a.add (k*3)).off+1,Yb⟩=Ya (txt (Zl L k).2.1)/\w.cell? ⟨(a.add (k*3)).block,(a.add (k*3)).off+2,Yb⟩=Ya (Yd Yf (Zl L k).2.2):=by
 obtain⟨a,c,e,f,g,i⟩:=h.tok hk;exact⟨a,c,e,f,by rw[<-Zkf a (k*3) 0];exact g,by rw[<-Zkf a (k*3) 1];exact i⟩
theorem ParS.cells {d w:Yh} {a:Nat} {b:Yi} {L:List Tok} {s:PS} (h:ParS d w a b L s) :
  w.cell? ⟨a,0,Yb⟩=Ya b/\w.cell? ⟨a,1,Yb⟩=Ya (Yd Yf (s.at_:Int))/\w.cell? ⟨a,2,Yb⟩=Ya (Yd Yf s.deep)/\w.cell? ⟨a,3,Yb⟩=Ya (Yd Yf s.err)/\w.cell? ⟨a,4,Yb⟩=Ya (Yd Yf s.fat):=by
 have c:=fun i=>h.box.blk.cell i;exact⟨c 0,c 1,c 2,c 3,c 4⟩
theorem ParS.frees {c w:Yh} {a:Nat} {b:Yi} {L:List Tok} {s:PS} (h:ParS c w a b L s) (i:Nat):w.frozen? ⟨a,i,Yb⟩=false:=h.box.blk.free i
theorem Zt (X:Yh) (b i j:Nat) (v:Yi) (h:i≠j):(X.setCell ⟨b,i,Yb⟩ v).cell? ⟨b,j,Yb⟩=X.cell? ⟨b,j,Yb⟩:=World.cell?_setCell_other _ _ _ _ (fun e=>h (by injection e with _ e))
theorem ZpM {c w:Yh} {a:Nat} {b:Yi} {L:List Tok} {s:PS} (h:ParS c w a b L s):IntKind.i64.wrap ((L.length:Int)-1)=((L.length-1:Nat):Int):=by have:=h.few.1;have:=h.lt;rw[show((L.length-1:Nat):Int)=(L.length:Int)-1 by omega];exact IntWalk.i64_in _ (by omega)
theorem ZmN {X:Yh} {b:Nat} {ty:TypeId} {a0 a1 a2:Yi} (h:Zk X b ty #[a0,a1,a2]) (a c d:Yi):(X.setCell ⟨b,0,Yb⟩ a).cell? ⟨b,0,Yb⟩=Ya a/\((X.setCell ⟨b,0,Yb⟩ a).setCell ⟨b,1,Yb⟩ c).cell? ⟨b,1,Yb⟩=Ya c/\(((X.setCell ⟨b,0,Yb⟩ a).setCell ⟨b,1,Yb⟩ c).setCell ⟨b,2,Yb⟩ d).cell? ⟨b,2,Yb⟩=Ya d:=
 ⟨by rw[(h.set 0 a).blk.cell 0];rfl,by rw[((h.set 0 a).set 1 c).blk.cell 1];rfl,by rw[(((h.set 0 a).set 1 c).set 2 d).blk.cell 2];rfl⟩
theorem Zjt {w X:Yh} (h:Below w.heap.size w X) {b:Nat} (a:w.heap.size<=b) (c d e:Yi):Below w.heap.size w (((X.setCell ⟨b,0,Yb⟩ c).setCell ⟨b,1,Yb⟩ d).setCell ⟨b,2,Yb⟩ e):=
 ((h.setCell (p:=⟨b,0,Yb⟩) a _).setCell (p:=⟨b,1,Yb⟩) a _).setCell (p:=⟨b,2,Yb⟩) a _
theorem ZdJ (N w:Yh) (r:Nat) (M:Yi) (L:List Tok) (s:PS) (h:ParS N w r M L s) :
  Calls Tryz.prog 43 #[Ye (Ya ⟨r,0,Yb⟩)] w fun e w'=>e=.returned (ZqY (Za0 L s))/\Below w.heap.size w w':=by
 have k:=below_alloc1 w (.cells #[Yd Yf 0,.string ⟨#[]⟩,Yd Yf 0] 72);have a:=Zk.start w #[Yd Yf 0,.string ⟨#[]⟩,Yd Yf 0] 72;have b:=h.keep k;have A:=ZpM h;have f:=h.lt;generalize J:w.alloc (.cells #[Yd Yf 0,.string ⟨#[]⟩,Yd Yf 0] 72)=y at *;have Z:=zh (zi k a);by_cases d:s.err=0
 ·have hn:Za0 L s=Zl L s.at_:=by unfold Za0;rw[Yn (by simp[d])]
  obtain⟨B,c,rfl,t0,p,t2⟩:=b.tok' b.lt;obtain⟨C,D,E,u,F⟩:=b.cells;rw[d]at u;rw[hn];have i0:(0:Int)<=(s.at_:Int):=by omega
  have K:(s.at_:Int)<(L.length:Int):=by omega
  generalize Zl L s.at_=t at *;obtain⟨tk,j,g⟩:=t;dsimp only at t0 p t2⊢;have z:=fun i=>a.blk.cell i;have z0:=z 0;have q:=z 1;have z2:=z 2;simp only[List.getElem?_toArray,List.getElem?_cons_zero,List.getElem?_cons_succ]at z0 q z2;have G:=a.blk.free 0;have H:=a.blk.free 1;have I:=a.blk.free 2;have o:=Zt;clear z h d hn b f k a A;go_enter Tryz.func43,Tryz.ntmps43;go_upto_region 3 with fail;refine wp_region_still_tail 10 (by kernel_rfl) (by kernel_rfl) ?_;simp only[List.take_succ_cons,List.take_zero,List.drop_succ_cons,List.drop_zero]
  iterate 10 still_step
  refine wpStill_nil ?_;change wpList _ _ _ _ _ y.drew;go_wp2_with fail;obtain⟨l,m,n⟩:=ZmN Z.out.2 (Yd Yf tk) (txt j) (Yd Yf g);exact bodyPost_ret (v:=.agg #[Yd Yf tk,txt j,Yd Yf g]) (by simp[results,Tryz.results43,go_sem,o,l,m,n]) rfl ⟨rfl,(Zjt Z.out.1 (Nat.le_refl _) _ _ _).drew⟩
 ·have hn:Za0 L s=Zl L (L.length-1):=by unfold Za0;rw[Yo d]
  obtain⟨B,c,rfl,t0,p,t2⟩:=b.tok' (show L.length-1<L.length by omega);obtain⟨C,D,E,u,F⟩:=b.cells;rw[hn];have e1:(s.err != 0)=true:=by simp[d]
  have i0:(0:Int)<=((L.length-1:Nat):Int):=by omega
  have K:((L.length-1:Nat):Int)<(L.length:Int):=by omega
  generalize Zl L (L.length-1)=t at *;generalize L.length-1=O at *;obtain⟨tk,j,g⟩:=t;dsimp only at t0 p t2⊢;have z:=fun i=>a.blk.cell i;have z0:=z 0;have q:=z 1;have z2:=z 2;simp only[List.getElem?_toArray,List.getElem?_cons_zero,List.getElem?_cons_succ]at z0 q z2;have G:=a.blk.free 0;have H:=a.blk.free 1;have I:=a.blk.free 2;have o:=Zt;clear z h d hn b f k a;go_enter Tryz.func43,Tryz.ntmps43;go_upto_region 2 with fail;refine wp_region_still_tail 12 (by kernel_rfl) (by kernel_rfl) ?_;simp only[List.take_succ_cons,List.take_zero,List.drop_succ_cons,List.drop_zero]
  iterate 12 still_step
  refine wpStill_nil ?_;change wpList _ _ _ _ _ y.drew;go_wp2_with fail;obtain⟨l,m,n⟩:=ZmN Z.out.2 (Yd Yf tk) (txt j) (Yd Yf g);exact bodyPost_ret (v:=.agg #[Yd Yf tk,txt j,Yd Yf g]) (by simp[results,Tryz.results43,go_sem,o,l,m,n]) rfl ⟨rfl,(Zjt Z.out.1 (Nat.le_refl _) _ _ _).drew⟩
theorem ParS.fault {d w:Yh} {b:Nat} {c:Yi} {L:List Tok} {s:PS} (h:ParS d w b c L s) (e a:Int) :
  ParS d ((w.setCell ⟨b,3,Yb⟩ (Yd Yf e)).setCell ⟨b,4,Yb⟩ (Yd Yf a)) b c L { s with err:=e,fat:=a }/\Fp w ((w.setCell ⟨b,3,Yb⟩ (Yd Yf e)).setCell ⟨b,4,Yb⟩ (Yd Yf a)) b:=by
 refine⟨⟨?_,h.toks,(h.below.setCell h.ge _).setCell h.ge _,h.ge,h.lt,h.few⟩,Fp.trans Zaw Zaw⟩;have k:=(h.box.set 3 (Yd Yf e)).set 4 (Yd Yf a);simpa using k
theorem ParS.moved {c w:Yh} {a:Nat} {b:Yi} {L:List Tok} {s:PS} (h:ParS c w a b L s) (n:Nat) (hn:n<L.length) :
  ParS c (w.setCell ⟨a,1,Yb⟩ (Yd Yf (n:Int))) a b L { s with at_:=n }/\Fp w (w.setCell ⟨a,1,Yb⟩ (Yd Yf (n:Int))) a:=by
 refine⟨⟨?_,h.toks,h.below.setCell h.ge _,h.ge,hn,h.few⟩,Zaw⟩;have k:=h.box.set 1 (Yd Yf (n:Int));simpa using k
theorem ParS.deeper {c w:Yh} {a:Nat} {b:Yi} {L:List Tok} {s:PS} (h:ParS c w a b L s) (d:Int) :
  ParS c (w.setCell ⟨a,2,Yb⟩ (Yd Yf d)) a b L { s with deep:=d }/\Fp w (w.setCell ⟨a,2,Yb⟩ (Yd Yf d)) a:=by
 refine⟨⟨?_,h.toks,h.below.setCell h.ge _,h.ge,h.lt,h.few⟩,Zaw⟩;have k:=h.box.set 2 (Yd Yf d);simpa using k
theorem Fp.drew {w w':Yh} {a:Nat} (h:Fp w w' a):Fp w w'.drew a:=⟨h.os,h.tape,h.output,h.size,h.block⟩
theorem Fp.from_drew {w w':Yh} {a:Nat} (h:Fp w.drew w' a):Fp w w' a:=⟨h.os,h.tape,h.output,h.size,h.block⟩
theorem ParS.drew {c w:Yh} {a:Nat} {b:Yi} {L:List Tok} {s:PS} (h:ParS c w a b L s):ParS c w.drew a b L s:=h.keep (Za9 w)
abbrev Did (d:Yh) (a:Nat) (c:Yi) (L:List Tok) (w:Yh) (b:PS) (e:Ending) (w':Yh):Prop:=e=.returned (.tuple #[])/\ParS d w' a c L b/\Fp w w' a
theorem ZdA (g w:Yh) (e:Nat) (f:Yi) (L:List Tok) (s:PS) (b:Int) (h:ParS g w e f L s) :
  Calls Tryz.prog 47 #[Ye (Ya ⟨e,0,Yb⟩),Yd Yf b] w (Did g e f L w (Zcb L b s)):=by
 have H:=zh h;by_cases a:s.err=0
 ·have d:Zcb L b s={ s with err:=b,fat:=(Zl L s.at_).2.2 }:=by unfold Zcb;rw[Yo a]
  rw[d];obtain⟨r,c,rfl,t0,p,t2⟩:=h.tok' h.lt;obtain⟨i,j,k,l,m⟩:=h.cells;have u:=h.frees 3;have v:=h.frees 4;have e1:(s.err==0)=true:=by simp[a]
  have i0:(0:Int)<=(s.at_:Int):=by omega
  have y:(s.at_:Int)<(L.length:Int):=by have:=h.lt;omega
  generalize Zl L s.at_=t at *;have z:=Zt;have q:=zh (zi a d);clear h d a t0 p;go_enter Tryz.func47,Tryz.ntmps47;go_upto_region 1 with fail;refine wp_region_still_tail 16 (by kernel_rfl) (by kernel_rfl) ?_;simp only[List.take_succ_cons,List.take_zero,List.drop_succ_cons,List.drop_zero]
  iterate 16 still_step
  refine wpStill_nil ?_;change wpList _ _ _ _ _ w.drew;go_wp2_with fail;go_end0;obtain⟨n,o⟩:=H.out.drew.fault b (t.2.2:Int);exact⟨rfl,n,o.from_drew⟩
 ·have d:Zcb L b s=s:=by unfold Zcb;rw[Yn a]
  rw[d];obtain⟨i,j,k,l,m⟩:=h.cells;have e1:(s.err==0)=false:=by simp[a]
  clear h d a;go_enter Tryz.func47,Tryz.ntmps47;go_wp2_with fail;go_end0;exact⟨rfl,H.out,Fp.refl _ _⟩
theorem ZdS (v w:Yh) (g:Nat) (u:Yi) (L:List Tok) (s:PS) (x:Txt) (h:ParS v w g u L s) :
  Calls Tryz.prog 44 #[Ye (Ya ⟨g,0,Yb⟩),txt x] w fun e w'=>e=.returned (.bool (isM L x s))/\Below w.heap.size w w':=by
 obtain⟨z,b⟩:∃z,z=isM L x s:=⟨_,rfl⟩
 rw[<-b];have n:=zh (ZdJ v w g u L s h);have H:=zh h;unfold isM at b;obtain⟨t,q⟩:∃t,t=Za0 L s:=⟨_,rfl⟩
 rw[<-q]at b n;obtain⟨tk,k,j⟩:=t;have r:(tk=2)↔((tk:Int)=2):=by omega
 simp only[r]at b;have m:=zh b;clear b q h r;go_enter Tryz.func44,Tryz.ntmps44;go_upto_region 2 with(go_at_call 43;go_fit n.out;rintro e l ⟨rfl,a⟩;have d:=zh a;clear a)
 have p:=H.out.keep d.out;have a2:=below_alloc1 l (.cells #[Yd Yf (tk:Int),txt k,Yd Yf (j:Int)] 72);have o:=Zk.start l #[Yd Yf (tk:Int),txt k,Yd Yf (j:Int)] 72;have f:=p.keep a2;generalize F:l.alloc (.cells #[Yd Yf (tk:Int),txt k,Yd Yf (j:Int)] 72)=G at *;have z:=fun i=>o.blk.cell i;have z0:=z 0;have I:=z 1;simp only[List.getElem?_toArray,List.getElem?_cons_zero,List.getElem?_cons_succ]at z0 I;obtain⟨B,C,D,J,E⟩:=f.cells;have A:=zh (ZkY ⟨x.toArray⟩ G);have c:=zh (zi (d.out.trans (a2.mono d.out.size)) f);clear z o a2 p f B C D E;go_wp2_with (go_at_call 63;go_fit A.out;rintro e M ⟨rfl,a⟩;have K:=(c.out.2.keep a).cells.2.2.2.1;have y:=zh (c.out.1.trans (a.mono c.out.1.size));clear a)
 all_goals go_ret
 all_goals refine⟨?_,?_⟩
 all_goals first|exact c.out.1|exact y.out|(rw[m.out];simp[*];done)|(rw[m.out];simp[*];rfl)
theorem ZcQ (y w:Yh) (j:Nat) (v:Yi) (L:List Tok) (s:PS) (h:ParS y w j v L s) :
  Calls Tryz.prog 90 #[Ye (Ya ⟨j,0,Yb⟩)] w fun e w'=>e=.returned (.bool (Zbk L s))/\Below w.heap.size w w':=by
 obtain⟨z,b⟩:∃z,z=Zbk L s:=⟨_,rfl⟩
 rw[<-b];have p:=zh (ZdJ y w j v L s h);have H:=zh h;unfold Zbk at b;have hm:(Za0 L s).2.1.length<=maxLen:=by
  have l:∀k,(Zl L k).2.1.length<=maxLen:=fun k=>by
   unfold Zl;cases e:L[k]? with
   |none=>exact Nat.zero_le _
   |some t=>have:=h.few.2.2 t (List.mem_of_getElem? e);show t.2.1.length<=maxLen;unfold maxLen;omega
  unfold Za0
  split<;>exact l _
 obtain⟨t,u⟩:∃t,t=Za0 L s:=⟨_,rfl⟩
 rw[<-u]at b p hm;obtain⟨tk,c,m⟩:=t;have o:=zh b;have B:=zh hm;clear b u h hm;go_enter Tryz.func90,Tryz.ntmps90;go_upto_region 2 with(go_at_call 43;go_fit p.out;rintro e n ⟨rfl,a⟩;have f:=zh a;clear a)
 have r:=H.out.keep f.out;have a2:=below_alloc1 n (.cells #[Yd Yf (tk:Int),txt c,Yd Yf (m:Int)] 72);have q:=Zk.start n #[Yd Yf (tk:Int),txt c,Yd Yf (m:Int)] 72;have g:=r.keep a2;generalize I:n.alloc (.cells #[Yd Yf (tk:Int),txt c,Yd Yf (m:Int)] 72)=J at *;have z:=fun i=>q.blk.cell i;have z0:=z 0;have K:=z 1;simp only[List.getElem?_toArray,List.getElem?_cons_zero,List.getElem?_cons_succ]at z0 K;obtain⟨D,E,F,M,G⟩:=g.cells;have C:=zh (ZjS ⟨c.toArray⟩ J (by show c.toArray.size<=_;rw[List.size_toArray];exact B.out));have d:=zh (zi (f.out.trans (a2.mono f.out.size)) g);clear z q a2 r g D E F G;go_wp2_with (go_at_call 49;go_fit C.out;rintro e O ⟨rfl,a⟩;have N:=(d.out.2.keep a).cells.2.2.2.1;have A:=zh (d.out.1.trans (a.mono d.out.1.size));clear a)
 all_goals go_ret
 all_goals refine⟨?_,?_⟩
 all_goals first|exact d.out.1|exact A.out|(rw[o.out];simp[*];done)|(rw[o.out];simp[*];rfl)
abbrev Got (d:Yh) (a:Nat) (c:Yi) (L:List Tok) (w:Yh) (v:Yi) (b:PS) (e:Ending) (w':Yh):Prop:=e=.returned v/\ParS d w' a c L b/\Fp w w' a
theorem ZhI {c w:Yh} {a:Nat} {b:Yi} {L:List Tok} {s:PS} (h:ParS c w a b L s):IntKind.i64.wrap ((s.at_:Int)+1)=((s.at_+1:Nat):Int):=by
 have:=h.few.1;have:=h.lt
 push_cast
 exact IntWalk.i64_in _ (by omega)
theorem Zq8 {c w:Yh} {a:Nat} {b:Yi} {L:List Tok} {s:PS} {x:Txt} (h:ParS c w a b L s) (hx:isM L x s=true):s.at_+1<L.length:=(ZT h.few.2.1 h.lt hx).lt h.lt
theorem Zgi (j w:Yh) (a:Nat) (i:Yi) (L:List Tok) (s:PS) (x:Txt) (h:ParS j w a i L s) :
  Calls Tryz.prog 66 #[Ye (Ya ⟨a,0,Yb⟩),txt x] w (Got j a i L w (.bool (isM L x s)) (Zdo L x s).2):=by
 have f:=zh (ZdS j w a i L s x h);have H:=zh h;by_cases hx:isM L x s=true
 ·have hm:(Zdo L x s).2={ s with at_:=s.at_+1 }:=by unfold Zdo;rw[Yo hx];rfl
  have v:=ZhI h;have k:=zh (Zq8 h hx);rw[hm];rw[hx]at f⊢;clear h hm hx;go_enter Tryz.func66,Tryz.ntmps66;go_wp2_with (go_at_call 44;go_fit f.out;rintro e n ⟨rfl,b⟩;have g:=zh (H.out.keep b);obtain⟨o,p,q,r,t⟩:=g.out.cells;have u:=g.out.frees 1;have d:=zh b;clear b);go_ret;obtain⟨l,m⟩:=g.out.moved (s.at_+1) k.out;exact⟨rfl,l,(Fp.of_below a d.out).trans m⟩
 ·have c:isM L x s=false:=by simpa using hx
  have hm:(Zdo L x s).2=s:=by unfold Zdo;rw[Yn hx]
  rw[hm];rw[c]at f⊢;clear h hm hx c;go_enter Tryz.func66,Tryz.ntmps66;go_wp2_with (go_at_call 44;go_fit f.out;rintro e n ⟨rfl,b⟩;have d:=zh b;clear b);go_ret;exact⟨rfl,H.out.keep d.out,Fp.of_below a d.out⟩
theorem Zah (j w:Yh) (a:Nat) (i:Yi) (L:List Tok) (s:PS) (x:Txt) (h:ParS j w a i L s) :
  Calls Tryz.prog 64 #[Ye (Ya ⟨a,0,Yb⟩),txt x] w (Did j a i L w (Zg L x s)):=by
 have g:=zh (Zgi j w a i L s x h);by_cases hx:isM L x s=true
 ·have hm:(Zdo L x s).2=Zg L x s:=by unfold Zdo Zg;rw[Yo hx,Yo hx]
  rw[hm,hx]at g;clear h hm hx;go_enter Tryz.func64,Tryz.ntmps64;go_wp2_with (go_at_call 66;go_fit g.out;rintro e n ⟨rfl,k⟩;have f:=zh k;clear k);go_end0;exact⟨rfl,f.out⟩
 ·have d:isM L x s=false:=by simpa using hx
  have hm:(Zdo L x s).2=s:=by unfold Zdo;rw[Yn hx]
  have l:Zg L x s=Zcb L 11 s:=by unfold Zg;rw[Yn hx]
  rw[hm,d]at g;rw[l];clear h hm hx d l;go_enter Tryz.func64,Tryz.ntmps64
  go_wp2_with (first
   |(go_at_call 66;go_fit g.out;rintro e n ⟨rfl,c,b⟩;have f:=zh (zi c b);clear c b)
   |(go_at_call 47;go_fit (ZdA j _ a i L s 11 f.out.1);rintro e o ⟨rfl,c,b⟩;have m:=zh (zi c (f.out.2.trans b));clear c b))
  go_end0;exact⟨rfl,m.out⟩
theorem Zdn (l w:Yh) (a:Nat) (k:Yi) (L:List Tok) (s:PS) (h:ParS l w a k L s) :
  Calls Tryz.prog 65 #[Ye (Ya ⟨a,0,Yb⟩)] w (Got l a k L w (txt (Zc L s).1) (Zc L s).2):=by
 have i:=zh (ZcQ l w a k L s h);have H:=zh h;by_cases hx:Zbk L s=true
 ·have hm:Zc L s=((Zl L s.at_).2.1,{ s with at_:=s.at_+1 }):=by unfold Zc;rw[Yo hx];unfold Za0;rw[Yn (by simp[(ZeM hx).1])];rfl
  have J:=ZhI h;have B:=zh (ZkO h.few.2.1 h.lt (ZeM hx).1 (ZeM hx).2);rw[hm];rw[hx]at i;have M:IntKind.i64.wrap (((s.at_+1:Nat):Int)-1)=(s.at_:Int):=by
   have:=h.few.1;have:=h.lt
   push_cast
   rw[show((s.at_:Int)+1-1)=s.at_ by omega];exact IntWalk.i64_in _ (by omega)
  have i0:(0:Int)<=(s.at_:Int):=by omega
  have G:(s.at_:Int)<(L.length:Int):=by have:=h.lt;omega
  generalize f:s.at_+1=y at *;have C:=zh f;clear h hm hx f;go_enter Tryz.func65,Tryz.ntmps65;go_upto_region 5 with(go_at_call 90;go_fit i.out;rintro e z ⟨rfl,b⟩;have d:=zh (H.out.keep b);obtain⟨o,n,p,q,r⟩:=d.out.cells;have F:=d.out.frees 1;have m:=zh b;clear b)
  obtain⟨j,v⟩:=d.out.moved y B.out;have K:=zh (zi j ((Fp.of_below a m.out).trans v));clear o n p q r;generalize z.setCell ⟨a,1,Yb⟩ (Yd Yf (y:Int))=D at *;obtain⟨E,c,rfl,t0,I,t2⟩:=j.tok' (show s.at_<L.length by omega);obtain⟨o,n,p,q,r⟩:=j.cells;dsimp only at n;clear j v;go_quiet (fail);go_wp2_with fail;go_ret;exact⟨rfl,K.out.1.keep (below_drewN (Below.refl _ _) _),K.out.2.trans (Fp.of_below a (below_drewN (Below.refl _ _) _))⟩
 ·have g:Zbk L s=false:=by simpa using hx
  have hm:Zc L s=([],Zcb L 11 s):=by unfold Zc;rw[Yn hx]
  rw[hm];rw[g]at i;clear h hm hx g;go_enter Tryz.func65,Tryz.ntmps65
  go_wp2_with (first
   |(go_at_call 90;go_fit i.out;rintro e z ⟨rfl,b⟩;have d:=zh (H.out.keep b);have m:=zh b;clear b)
   |(go_at_call 47;go_fit (ZdA l _ a k L s 11 d.out);rintro e D ⟨rfl,u,t⟩;have A:=zh (zi u ((Fp.of_below a m.out).trans t));clear u t))
  go_ret;exact⟨rfl,A.out⟩
theorem Zin (i w:Yh) (b:Nat) (g:Yi) (L:List Tok) (s:PS) (h:ParS i w b g L s) (hd:0<=s.deep) (a:s.deep<=100000) :
  Calls Tryz.prog 94 #[Ye (Ya ⟨b,0,Yb⟩)] w (Did i b g L w (inM L s)):=by
 have u:IntKind.i64.wrap (s.deep+1)=s.deep+1:=IntWalk.i64_in _ (by omega);obtain⟨c,f⟩:=h.deeper (s.deep+1);obtain⟨m,n,o,p,q⟩:=h.cells;have r:=h.frees 2;have K:=zh (zi c f);have d:=c.cells.2.2.1;dsimp only at d;by_cases hx:200<s.deep+1
 ·have hm:inM L s=Zcb L 12 { s with deep:=s.deep+1 }:=by unfold inM;rw[Yo hx]
  rw[hm];clear h hm c f hd a;go_enter Tryz.func94,Tryz.ntmps94;go_wp2_with (go_at_call 47;go_fit (ZdA i _ b g L _ 12 K.out.1);rintro e t ⟨rfl,k,j⟩;have l:=zh (zi k (K.out.2.trans j));clear k j);go_end0;exact⟨rfl,l.out⟩
 ·have hm:inM L s={ s with deep:=s.deep+1 }:=by unfold inM;rw[Yn hx]
  rw[hm];clear h hm c f hd a;go_enter Tryz.func94,Tryz.ntmps94;go_wp2_with fail;go_end0;exact⟨rfl,K.out⟩
end Go.Proofs.YtdkegpkfjgloeaaGreatDoor
