import Derived.Deep.DeepFit
import Derived.Test.YtdkegpkfjgloeaaGreatDoorQAW
set_option maxRecDepth 100000
set_option maxHeartbeats 8000000
open Option renaming some → Ya, none → Yb
open Go.Value renaming slice → Yc, int → Yd
open Go.IntKind renaming i64 → Yf
open Go.Obj renaming cells → Yg
open Go renaming World → Yh, Value → Yi
namespace Go.Proofs.YtdkegpkfjgloeaaGreatDoor
section
open Go.RowKit
abbrev Zfu (X:Yh) (b:Nat) (a c d e f g:Yi):Yh:=((((((X.setCell ⟨b,0,Yb⟩ a).setCell ⟨b,1,Yb⟩ c).setCell ⟨b,2,Yb⟩ d).setCell ⟨b,3,Yb⟩ e).setCell ⟨b,4,Yb⟩ f).setCell ⟨b,5,Yb⟩ g)
theorem ZrT {X:Yh} {b:Nat} {ty:TypeId} {a0 a1 a2 a3 a4 a5:Yi} (h:Zk X b ty #[a0,a1,a2,a3,a4,a5]) (a c d e f g:Yi):Zk (Zfu X b a c d e f g) b ty #[a,c,d,e,f,g]:=by
 have k:=((((((h.set 0 a).set 1 c).set 2 d).set 3 e).set 4 f).set 5 g)
 simp only[List.setIfInBounds_toArray,List.set_cons_zero,List.set_cons_succ]at k;exact k
theorem ZaO {X:Yh} {b:Nat} {ty:TypeId} {a0 a1 a2 a3 a4 a5:Yi} (h:Zk X b ty #[a0,a1,a2,a3,a4,a5]) (a c d e f g:Yi) :
  (X.setCell ⟨b,0,Yb⟩ a).cell? ⟨b,0,Yb⟩=Ya a/\((X.setCell ⟨b,0,Yb⟩ a).setCell ⟨b,1,Yb⟩ c).cell? ⟨b,1,Yb⟩=Ya c/\(((X.setCell ⟨b,0,Yb⟩ a).setCell ⟨b,1,Yb⟩ c).setCell ⟨b,2,Yb⟩ d).cell? ⟨b,2,Yb⟩=Ya d/\((((X.setCell ⟨b,0,Yb⟩ a).setCell ⟨b,1,Yb⟩ c).setCell ⟨b,2,Yb⟩ d).setCell ⟨b,3,Yb⟩ e).cell? ⟨b,3,Yb⟩=Ya e/\(((((X.setCell ⟨b,0,Yb⟩ a).setCell ⟨b,1,Yb⟩ c).setCell ⟨b,2,Yb⟩ d).setCell ⟨b,3,Yb⟩ e).setCell ⟨b,4,Yb⟩ f).cell? ⟨b,4,Yb⟩=Ya f/\(Zfu X b a c d e f g).cell? ⟨b,5,Yb⟩=Ya g:=
 ⟨by rw[(h.set 0 a).blk.cell 0];rfl,by rw[((h.set 0 a).set 1 c).blk.cell 1];rfl,by rw[(((h.set 0 a).set 1 c).set 2 d).blk.cell 2];rfl,by rw[((((h.set 0 a).set 1 c).set 2 d).set 3 e).blk.cell 3];rfl,by rw[(((((h.set 0 a).set 1 c).set 2 d).set 3 e).set 4 f).blk.cell 4];rfl,by rw[((((((h.set 0 a).set 1 c).set 2 d).set 3 e).set 4 f).set 5 g).blk.cell 5];rfl⟩
theorem Zom {B:Nat} {w X:Yh} (h:Below B w X) {b:Nat} (a:B<=b) (c d e f g i:Yi):Below B w (Zfu X b c d e f g i):=
 (((((h.setCell (p:=⟨b,0,Yb⟩) a _).setCell (p:=⟨b,1,Yb⟩) a _).setCell (p:=⟨b,2,Yb⟩) a _).setCell (p:=⟨b,3,Yb⟩) a _).setCell (p:=⟨b,4,Yb⟩) a _).setCell (p:=⟨b,5,Yb⟩) a _
theorem Zm9 (tk:Nat) (b:Txt) (a:Nat) (w:Yh):Sem.run Tryz.prog (Instr.field 72 (ZqY (tk,b,a)) 2) w=.ok (Yd Yf (a:Int)) w:=by kernel_rfl
theorem ZeK (tk:Nat) (b:Txt) (a:Nat) (w:Yh):Sem.run Tryz.prog (Instr.field 72 (ZqY (tk,b,a)) 0) w=.ok (Yd Yf (tk:Int)) w:=by kernel_rfl
theorem ZpY (x:Int):RowKit.wrap64 x=IntKind.i64.wrap x:=(IntWalk.i64_left x).symm
theorem Zk.off_ne {f w:Yh} {a b:Nat} {d:Yi} {L:List Tok} {s:PS} {cs:Array Yi} (h:Zk w b 9 cs) (c:ParS f w a d L s):b≠a:=fun e=>by
 subst e;have q:=c.box;unfold Zk at h q;rw[h]at q;injection q with q;injection q with _ q;exact absurd q (by decide)
theorem ZnD (l:Txt) (c:UInt8):ZdU (l++[c])=IntKind.i64.wrap (IntKind.i64.wrap (10*ZdU l)+((c.toNat:Int)-48) % 256):=by unfold ZdU;rw[List.foldl_append];rfl
theorem Zau (n w:Yh) (c:Nat) (m:Yi) (L:List Tok) (s:PS) (k:Int) (h:ParS n w c m L s) :
  Calls Tryz.prog 42 #[.pointer (Ya ⟨c,0,Yb⟩),Yd Yf k] w fun e w'=>e=.returned (.agg #[Yd Yf k,Yc Yb 0 0,Yc Yb 0 0,Yc Yb 0 0,Yd Yf (Zf L s),Yc Yb 0 0])/\Below w.heap.size w w':=by
 have b:=below_alloc1 w (Yg #[Yd Yf 0,Yc Yb 0 0,Yc Yb 0 0,Yc Yb 0 0,Yd Yf 0,Yc Yb 0 0] 55);have g:=Zk.start w #[Yd Yf 0,Yc Yb 0 0,Yc Yb 0 0,Yc Yb 0 0,Yd Yf 0,Yc Yb 0 0] 55;have j:=h.keep b;generalize q:w.alloc (Yg #[Yd Yf 0,Yc Yb 0 0,Yc Yb 0 0,Yc Yb 0 0,Yd Yf 0,Yc Yb 0 0] 55)=F at *;have o:=zh (ZdJ n F c m L s j);have l:Zf L s=(Za0 L s).2.2:=rfl;rw[l];generalize Za0 L s=t at *;obtain⟨tk,E,f⟩:=t;have H:=zh (zi b g);have p:=fun w=>Zm9 tk E f w;clear b g j h l;go_enter Tryz.func42,Tryz.ntmps42;go_wp2_with (go_at_call 43;go_fit o.out;rintro e P ⟨rfl,d⟩;have a:=zh (zi (H.out.1.trans (d.mono H.out.1.size)) (H.out.2.keep d));clear d;have z:=fun i=>a.out.2.blk.cell i;have z0:=z 0;have G:=z 1;have z2:=z 2;have z3:=z 3;have z4:=z 4;have z5:=z 5;simp only[List.getElem?_toArray,List.getElem?_cons_zero,List.getElem?_cons_succ]at z0 G z2 z3 z4 z5;have I:=a.out.2.blk.free 0;have J:=a.out.2.blk.free 1;have K:=a.out.2.blk.free 2;have M:=a.out.2.blk.free 3;have N:=a.out.2.blk.free 4;have O:=a.out.2.blk.free 5;clear z;have D:=Zt);obtain⟨r,u,y,A,B,C⟩:=ZaO a.out.2 (Yd Yf k) (Yc Yb 0 0) (Yc Yb 0 0) (Yc Yb 0 0) (Yd Yf (f:Int)) (Yc Yb 0 0);exact bodyPost_ret (v:=.agg #[Yd Yf k,Yc Yb 0 0,Yc Yb 0 0,Yc Yb 0 0,Yd Yf (f:Int),Yc Yb 0 0]) (by simp[results,Tryz.results42,go_sem,D,r,u,y,A,B,C]) rfl ⟨rfl,Zom a.out.1 (Nat.le_refl _) _ _ _ _ _ _⟩
theorem Zfj (y w:Yh) (d:Nat) (v:Yi) (L:List Tok) (s:PS) (a:Int) (h:ParS y w d v L s) :
  Calls Tryz.prog 92 #[.pointer (Ya ⟨d,0,Yb⟩),Yd Yf a] w (Got y d v L w (Yd Yf (ZaF L a s).1) (ZaF L a s).2):=by
 have N:=zh (ZdJ y w d v L s h);have H:=zh h;have hm:(Za0 L s).2.1.length<=100000:=by
  have K:∀k,(Zl L k).2.1.length<=100000:=fun k=>by
   unfold Zl;cases e:L[k]? with
   |none=>exact Nat.zero_le _
   |some t=>exact h.few.2.2 t (List.mem_of_getElem? e)
  unfold Za0
  split<;>exact K _
 obtain⟨R,o⟩:∃R,R=ZaF L a s:=⟨_,rfl⟩
 rw[<-o];unfold ZaF at o;have c:(Za0 L s).1=1->s.err=0->s.at_+1<L.length:=fun h1 X=>ZkO h.few.2.1 h.lt X (by omega);have wk:=ZhI h;generalize Za0 L s=t at *;obtain⟨tk,b,u⟩:=t;dsimp only at o hm c;by_cases J:tk=1
 ·subst J;have C:=zh (zi o (zi hm c));clear o h hm c;go_enter Tryz.func92,Tryz.ntmps92;go_upto_region 2 with(go_at_call 43;go_fit N.out;rintro e p ⟨rfl,E⟩;have A:=zh E;clear E)
  have a2:=below_alloc1 p (Yg #[Yd Yf ((1:Nat):Int),txt b,Yd Yf (u:Int)] 72);have D:=Zk.start p #[Yd Yf ((1:Nat):Int),txt b,Yd Yf (u:Int)] 72;have n:=(H.out.keep A.out).keep a2;generalize I:p.alloc (Yg #[Yd Yf ((1:Nat):Int),txt b,Yd Yf (u:Int)] 72)=S at *;have z:=fun i=>D.blk.cell i;have z0:=z 0;have M:=z 1;simp only[List.getElem?_toArray,List.getElem?_cons_zero,List.getElem?_cons_succ]at z0 M;obtain⟨U,c1,V,c3,W⟩:=n.cells;have f1:=n.frees 1;have j:=zh (zi ((Fp.of_below d A.out).trans (Fp.of_below d a2)) n);clear z D a2 n U V W;have j0:(((1:Nat):Int)==1)=true:=rfl;go_wp2_with fail;go_loopg [6,7] b.length (fun g Z v7 wr=>∃i:Nat,v7=Yd Yf i/\Z=Yd Yf (ZdU (b.take i))/\i<=b.length/\g=b.length-i/\wr=S)
  case atStart=>exact⟨0,rfl,rfl,Nat.zero_le _,rfl,rfl⟩
  case round=>
   obtain⟨i,rfl,rfl,O,G,rfl⟩:=hrel;by_cases c:i<b.length
   ·have i1:(i:Int)<(b.length:Int):=by omega
    have i2:(0:Int)<=(i:Int):=by omega
    have wi:IntKind.i64.wrap ((i:Int)+1)=((i+1:Nat):Int):=by push_cast;exact IntWalk.i64_in _ (by have:=C.out.2.1;omega)
    have Q:b.take (i+1)=b.take i++[b[i]]:=by rw[List.take_add_one,Ym c];rfl
    have F:=zh (zi c (zi G Q));clear O G Q;go_wp2_with fail;go_roundg (b.length-(i+1))
    case measure=>have:=F.out.1;have:=F.out.2.1;omega
    case rel=>exact⟨i+1,by push_cast;rfl,by rw[F.out.2.2,ZnD,<-ZpY,<-ZpY];rfl,F.out.1,rfl,rfl⟩
   ·obtain rfl:i=b.length:=by omega
    rw[List.take_length];clear O G c;by_cases q1:ZdU b<a
    ·have f:R=(0,Zcb L 11 s):=by rw[C.out.1,Yn (by omega)]
     have q:=zh f;clear f;go_wp2_with (go_at_call 47;go_fit (ZdA y _ d v L s 11 j.out.2);rintro e T ⟨rfl,m,l⟩;have B:=zh (zi m (j.out.1.trans l));clear m l);go_ret;rw[q.out];exact⟨rfl,B.out⟩
    ·by_cases r:s.err=0
     ·have f:R=(ZdU b,Ze s):=by rw[C.out.1,Yo ⟨trivial,by omega,r⟩]
      have q:=zh (zi f (C.out.2.2 trivial r));have Y:(s.err != 0)=false:=by simp[r]
      clear f r;go_wp2_with fail;go_ret;rw[q.out.1];obtain⟨J,P⟩:=j.out.2.moved (s.at_+1) q.out.2;exact⟨rfl,J,j.out.1.trans P⟩
     ·have f:R=(0,Zcb L 11 s):=by rw[C.out.1,Yn (by omega)]
      have q:=zh f;have Y:(s.err != 0)=true:=by simp[r]
      clear f r;go_wp2_with (go_at_call 47;go_fit (ZdA y _ d v L s 11 j.out.2);rintro e T ⟨rfl,m,l⟩;have B:=zh (zi m (j.out.1.trans l));clear m l);go_ret;rw[q.out];exact⟨rfl,B.out⟩
 ·have f:R=(0,Zcb L 11 s):=by rw[o,Yn (by omega)]
  rw[f];have P:((tk:Int)==1)=false:=by simp;omega
  have k3:((tk:Int) != 1)=true:=by simp;omega
  clear o h hm c f;go_enter Tryz.func92,Tryz.ntmps92;go_upto_region 2 with(go_at_call 43;go_fit N.out;rintro e p ⟨rfl,E⟩;have A:=zh E;clear E)
  have a2:=below_alloc1 p (Yg #[Yd Yf (tk:Int),txt b,Yd Yf (u:Int)] 72);have D:=Zk.start p #[Yd Yf (tk:Int),txt b,Yd Yf (u:Int)] 72;have n:=(H.out.keep A.out).keep a2;generalize I:p.alloc (Yg #[Yd Yf (tk:Int),txt b,Yd Yf (u:Int)] 72)=S at *;have z:=fun i=>D.blk.cell i;have z0:=z 0;have M:=z 1;simp only[List.getElem?_toArray,List.getElem?_cons_zero,List.getElem?_cons_succ]at z0 M;have j:=zh (zi ((Fp.of_below d A.out).trans (Fp.of_below d a2)) n);clear z D a2 n;go_wp2_with (go_at_call 47;go_fit (ZdA y _ d v L s 11 j.out.2);rintro e T ⟨rfl,m,l⟩;have B:=zh (zi m (j.out.1.trans l));clear m l);go_ret;exact⟨rfl,B.out⟩
end
section
open Go.RowKit
abbrev Zgs:List Txt:=[[117,110,105,113,117,101],[102,117,108,108],[115,104,97,114,101],[105,109,109],[112,117,114,101]]
theorem Zni (k:Nat) (hk:k<5):∃x,Zgs[k]? = Ya x/\Zz k=((k:Int),x)::Zz (k+1):=by
 rcases(by omega:k=0\/k=1\/k=2\/k=3\/k=4)with rfl|rfl|rfl|rfl|rfl<;>exact⟨_,rfl,rfl⟩
theorem ZgY (p w:Yh) (i:Nat) (o:Yi) (L:List Tok) (s:PS) (a:Nat) (D:a<=5) (h:ParS p w i o L s) :
  Calls Tryz.prog 91 #[.pointer (Ya ⟨i,0,Yb⟩),Yd Yf (a:Int)] w (Got p i o L w (Yd Yf (ZP L (Zz a) s).1) (ZP L (Zz a) s).2):=by
 obtain⟨R,v⟩:∃R,R=ZP L (Zz a) s:=⟨_,rfl⟩
 rw[<-v];have u:=below_alloc1 w (.cells (Zgs.map txt).toArray 9);have B:=Zk.start w (Zgs.map txt).toArray 9;have C:=h.keep u;have A:=zh (zi v D);clear v D h;generalize z:w.alloc (.cells (Zgs.map txt).toArray 9)=M at *;have r:=zh (zi u (zi B C));clear u B C;simp only[List.map_cons,List.map_nil]at z;go_enter Tryz.func91,Tryz.ntmps91;go_wp2_with fail;go_loopg [6] (5-a) (fun g H wr=>∃k:Nat,H=Yd Yf k/\k<=5/\g=5-k/\R=ZP L (Zz k) s/\Fp w wr i/\ParS p wr i o L s/\Zk wr w.heap.size 9 (Zgs.map txt).toArray)
 case atStart=>exact⟨a,rfl,A.out.2,rfl,A.out.1,Fp.of_below i r.out.1,r.out.2.2,r.out.2.1⟩
 case round=>
  obtain⟨k,rfl,hk,y,l,c,b,m⟩:=hrel;by_cases f:k<5
  ·obtain⟨x,hx,hd⟩:=Zni k f;have J:=(m.blk.cell k).trans (show(Zgs.map txt).toArray[k]? = Ya (txt x)by rw[List.getElem?_toArray,List.getElem?_map,hx];rfl);have K:(k:Int)<5:=by omega
   have i2:(0:Int)<=(k:Int):=by omega
   have O:IntKind.i64.wrap ((k:Int)+1)=((k+1:Nat):Int):=by push_cast;exact IntWalk.i64_in _ (by omega)
   have q:=zh (Zgi p wr i o L s x b);rw[hd]at l;unfold ZP at l;have d:=zh (zi f (zi y (zi l (zi c (zi b (m.off_ne b))))));have G:=zh m;clear f hk y l c b m hx hd;by_cases hm:isM L x s=true
   ·have hq:R=((k:Int),(Zdo L x s).2):=by rw[d.out.2.2.1,Yo hm];unfold Zdo;rw[Yo hm]
    rw[hm]at q;have t:=zh hq;clear hq hm;go_wp2_with (go_at_call 66;go_fit q.out;rintro e I ⟨rfl,b,c⟩;have j:=zh (zi b c);clear b c);go_ret;rw[t.out];exact⟨rfl,j.out.1,d.out.2.2.2.1.trans j.out.2⟩
   ·have n:isM L x s=false:=by simpa using hm
    have hq:R=ZP L (Zz (k+1)) s:=by rw[d.out.2.2.1,Yn hm]
    have E:(Zdo L x s).2=s:=by unfold Zdo;rw[Yn hm]
    rw[n,E]at q;have t:=zh hq;clear hq hm n E;go_wp2_with (go_at_call 66;go_fit q.out;rintro e I ⟨rfl,b,c⟩;have j:=zh (zi b c);clear b c);go_roundg (5-(k+1))
    case measure=>have:=d.out.1;have:=d.out.2.1;omega
    case rel=>exact⟨k+1,by push_cast;rfl,d.out.1,rfl,t.out,d.out.2.2.2.1.trans j.out.2,j.out.1,j.out.2.tblk G.out d.out.2.2.2.2.2⟩
  ·obtain rfl:k=5:=by omega
   have hq:R=(0,Zcb L 11 s):=l;have d:=zh (zi c (zi b hq));clear c b hq m l hk f y;go_wp2_with (go_at_call 47;go_fit (ZdA p _ i o L s 11 d.out.2.1);rintro e N ⟨rfl,b,c⟩;have F:=zh (zi b (d.out.1.trans c));clear b c);go_ret;rw[d.out.2.2];exact⟨rfl,F.out⟩
end
section
open Go.RowKit
abbrev Zbo:Array Yi:=#[Yd Yf 0,Yc Yb 0 0,Yc Yb 0 0,Yc Yb 0 0,Yd Yf 0,Yc Yb 0 0]
theorem Zba:(Tryz.prog.info? 55).map (fun i=>(i.zero,i.size,i.bytes))=Ya (Ya (.agg Zbo),6,112):=by kernel_rfl
theorem Zbj:(Tryz.prog.info? 9).map (fun i=>(i.zero,i.size,i.bytes))=Ya (Ya (.string ⟨#[]⟩),1,16):=by kernel_rfl
theorem Zbr:(Tryz.prog.info? 2).map (fun i=>(i.zero,i.size,i.bytes))=Ya (Ya (Yd Yf 0),1,8):=by kernel_rfl
theorem Zeb {w:Yh} {b d:Nat} {g t2:TypeId} {h i:Array Yi} (f:Zk w b g h) (a:Zk w d t2 i) (c:g≠t2):b≠d:=fun e=>by
 subst e;unfold Zk at f a;rw[f]at a;injection a with a;injection a with _ a;exact c a
structure Gn (w0 w wi:Yh) (bp b r:Nat) (vL:Yi) (L:List Tok) (s:PS) (x:NV) (k p:Int) (ws:List Txt) (us:List Int) (vs:List (NV×Tr)):Prop where
 P:ParS w0 wi bp vL L s
 F:Fp w wi bp
 K:Zk wi b 55 #[Yd Yf k,x.1,x.2.1,Yc Yb 0 0,Yd Yf p,x.2.2]
 W:wi.ownsRow w.heap.size 9 1 x.1 ws.length (ws.map txt)
 M:∀y∈ws,y.length<=maxLen
 U:wi.ownsRow w.heap.size 2 1 x.2.1 us.length (us.map (Value.int Yf))
 V:wi.ownsRow w.heap.size 55 6 x.2.2 vs.length (ZaZ vs)
 N:x.2.2.ownBlock≠Ya b/\x.2.2.ownBlock≠Ya r
 E:∀v∈vs,TrO wi (fun c=>w.heap.size<=c/\c≠b/\c≠r/\x.2.2.ownBlock≠Ya c) v.1 v.2
 R:r≠0->Zk wi r 55 Zbo
 B:w.heap.size<=b/\(r≠0->w.heap.size<=r)/\b≠r/\w0.heap.size<=w.heap.size
theorem Zii {w:Yh} {B d n a:Nat} {e:TypeId} {v:Yi} {f:List Yi} (h:w.ownsRow B e a v n f) (l:d<=B):w.ownsRow d e a v n f:=
 ⟨h.1,h.2.imp id fun⟨g,b,c,i,j,k⟩=>⟨g,b,c,i,Nat.le_trans l j,k⟩⟩
theorem ZcI {w w3:Yh} {B j n m a b:Nat} {e g:TypeId} {v v2:Yi} {i f:List Yi} (h:w.ownsRow B e a v n i) (k:w.ownsRow j g b v2 m f) (d:e≠g) (l:w.grownBy w3 v2.ownBlock):w3.ownsRow B e a v n i:=
 h.kept l (by
  cases q:v2.ownBlock with
  |none=>cases q2:v.ownBlock with
   |none=>exact .inl rfl
   |some c=>exact .inr (by simp)
  |some c=>exact .inr fun e=>Zo6 h k d c e q)
theorem ZbW {w:Yh} {B n a b j:Nat} {e t:TypeId} {v u:Yi} {cs:Array Yi} {d:List Yi} (h:w.ownsRow B e a v n d) (f:Zk w b t cs) (c:t≠e):(w.setCell ⟨b,j,Yb⟩ u).ownsRow B e a v n d:=ZdH h (f.off h c)
section
variable {w0 w wi w1 w3:Yh} {bp b r:Nat} {vL:Yi} {L:List Tok} {s s2:PS} {x:NV} {k p:Int} {ws:List Txt} {us:List Int} {vs:List (NV×Tr)}
theorem Gn.bne (h:Gn w0 w wi bp b r vL L s x k p ws us vs):b≠bp/\(r≠0->r≠bp):=⟨Zeb h.K h.P.box (by decide),fun a=>Zeb (h.R a) h.P.box (by decide)⟩
theorem Gn.call (h:Gn w0 w wi bp b r vL L s x k p ws us vs) (d:ParS w0 w1 bp vL L s2) (a:Fp wi w1 bp):Gn w0 w w1 bp b r vL L s2 x k p ws us vs:=
 ⟨d,h.F.trans a,a.tblk h.K h.bne.1,h.P.own h.W a (by decide),h.M,h.P.own h.U a (by decide),h.P.own h.V a (by decide),h.N,fun v hv=>h.P.tree (h.E v hv) a,fun c=>a.tblk (h.R c) (h.bne.2 c),h.B⟩
theorem Gn.below (h:Gn w0 w wi bp b r vL L s x k p ws us vs) (a:Below wi.heap.size wi w1):Gn w0 w w1 bp b r vL L s x k p ws us vs:=h.call (h.P.keep a) (Fp.of_below bp a)
theorem Gn.drew (h:Gn w0 w wi bp b r vL L s x k p ws us vs):Gn w0 w wi.drew bp b r vL L s x k p ws us vs:=h.below (Za9 wi)
theorem Gn.grow {row:Option Nat} (h:Gn w0 w wi bp b r vL L s x k p ws us vs) (a:wi.grownBy w3 row) (f:row≠Ya bp) (d:∀q,row=Ya q->w.heap.size<=q):ParS w0 w3 bp vL L s/\Fp w w3 bp:=
 ⟨⟨h.P.box.grown a f,h.P.toks,h.P.below.grown a h.P.below.size (fun q hq=>Nat.le_trans h.B.2.2.2 (d q hq)),h.P.ge,h.P.lt,h.P.few⟩,
   ⟨a.os.trans h.F.os,a.tape.trans h.F.tape,a.output.trans h.F.output,Nat.le_trans h.F.size a.size,fun c hc hn=>(a.block c (Nat.lt_of_lt_of_le hc h.F.size) (fun e=>by have:=d c e.symm;omega)).trans (h.F.block c hc hn)⟩⟩
theorem Gn.put (h:Gn w0 w wi bp b r vL L s x k p ws us vs) (i:Nat) (u:Yi):ParS w0 (wi.setCell ⟨b,i,Yb⟩ u) bp vL L s/\Fp w (wi.setCell ⟨b,i,Yb⟩ u) bp/\(r≠0->Zk (wi.setCell ⟨b,i,Yb⟩ u) r 55 Zbo):=by obtain⟨a,c⟩:=h.grow (w3:=wi.setCell ⟨b,i,Yb⟩ u) (row:=Ya b) Zaw (fun e=>h.bne.1 (by injection e)) (fun q hq=>by injection hq with hq;subst hq;exact h.B.1);exact⟨a,c,fun d=>(h.R d).other (p:=⟨b,i,Yb⟩) h.B.2.2.1 u⟩
theorem Gn.setk (h:Gn w0 w wi bp b r vL L s x k p ws us vs) (a:Int):Gn w0 w (wi.setCell ⟨b,0,Yb⟩ (Yd Yf a)) bp b r vL L s x a p ws us vs:=by
 obtain⟨f,i,j⟩:=h.put 0 (Yd Yf a);have d:=h.K.set 0 (Yd Yf a);simp only[List.setIfInBounds_toArray,List.set_cons_zero]at d
 exact⟨f,i,d,ZbW h.W h.K (by decide),h.M,ZbW h.U h.K (by decide),ZdH h.V h.N.1,h.N,fun v hv=>(h.E v hv).kept Zaw (fun g e=>by
  injection e with e;subst e
  exact⟨_,_,h.K,by decide,by decide,.inr fun c hc=>hc.2.1⟩),j,h.B⟩
theorem Gn.word {v:Yi} {y:Txt} (h:Gn w0 w wi bp b r vL L s x k p ws us []) (t:y.length<=maxLen) (j:w3.ownsRow w.heap.size 9 1 v (ws.length+1) (ws.map txt++[txt y])) (i:wi.grownBy w3 x.1.ownBlock) :
  w3.cell? ⟨b,1,Yb⟩=Ya x.1/\w3.frozen? ⟨b,1,Yb⟩=false/\Gn w0 w (w3.setCell ⟨b,1,Yb⟩ v) bp b r vL L s (v,x.2.1,x.2.2) k p (ws++[y]) us []:=by
 have l:=h.K.grown i (h.K.off h.W (by decide));have A:=fun m=>(h.R m).grown i ((h.R m).off h.W (by decide));obtain⟨f,d⟩:=h.grow i (h.P.box.off h.W (by decide)) (fun q hq=>(h.W.lt q hq).1);have o:=ZcI h.U h.W (by decide) i;have hv:=ZcI h.V h.W (by decide) i;have n:=l.set 1 v;simp only[List.setIfInBounds_toArray,List.set_cons_zero,List.set_cons_succ]at n;have u:Ya b≠Ya bp:=fun e=>h.bne.1 (by injection e);have a:w3.grownBy (w3.setCell ⟨b,1,Yb⟩ v) (Ya b):=Zaw;refine⟨l.blk.cell 1,l.blk.free 1,⟨⟨f.box.grown a u,f.toks,f.below.setCell (p:=⟨b,1,Yb⟩) (Nat.le_trans h.B.2.2.2 h.B.1) v,f.ge,f.lt,f.few⟩,?_,n,?_,?_,ZbW o l (by decide),ZdH hv h.N.1,h.N,fun _ hq=>(nomatch hq),fun m=>(A m).other (p:=⟨b,1,Yb⟩) h.B.2.2.1 v,h.B⟩⟩
 ·exact⟨a.os.trans d.os,a.tape.trans d.tape,a.output.trans d.output,Nat.le_trans d.size a.size,fun c hc hn=>(a.block c (Nat.lt_of_lt_of_le hc d.size) (fun e=>by injection e with e;have:=h.B.1;omega)).trans (d.block c hc hn)⟩
 ·rw[Yj,List.map_append];exact ZbW j l (by decide)
 ·intro z g;rcases List.mem_append.1 g with g|g
  ·exact h.M z g
  ·rw[List.mem_singleton]at g;subst g;exact t
theorem Gn.nums {v:Yi} {ys:List Int} (h:Gn w0 w wi bp b r vL L s x k p ws us []) (i:w3.ownsRow w.heap.size 2 1 v (us.length+ys.length) (us.map (Value.int Yf)++ys.map (Value.int Yf))) (g:wi.grownBy w3 x.2.1.ownBlock) :
  w3.cell? ⟨b,2,Yb⟩=Ya x.2.1/\w3.frozen? ⟨b,2,Yb⟩=false/\Gn w0 w (w3.setCell ⟨b,2,Yb⟩ v) bp b r vL L s (x.1,v,x.2.2) k p ws (us++ys) []:=by
 have j:=h.K.grown g (h.K.off h.U (by decide));have t:=fun l=>(h.R l).grown g ((h.R l).off h.U (by decide));obtain⟨f,d⟩:=h.grow g (h.P.box.off h.U (by decide)) (fun q hq=>(h.U.lt q hq).1);have n:=ZcI h.W h.U (by decide) g;have hv:=ZcI h.V h.U (by decide) g;have m:=j.set 2 v;simp only[List.setIfInBounds_toArray,List.set_cons_zero,List.set_cons_succ]at m;have o:Ya b≠Ya bp:=fun e=>h.bne.1 (by injection e);have a:w3.grownBy (w3.setCell ⟨b,2,Yb⟩ v) (Ya b):=Zaw;refine⟨j.blk.cell 2,j.blk.free 2,⟨⟨f.box.grown a o,f.toks,f.below.setCell (p:=⟨b,2,Yb⟩) (Nat.le_trans h.B.2.2.2 h.B.1) v,f.ge,f.lt,f.few⟩,?_,m,ZbW n j (by decide),h.M,?_,ZdH hv h.N.1,h.N,fun _ hq=>(nomatch hq),fun l=>(t l).other (p:=⟨b,2,Yb⟩) h.B.2.2.1 v,h.B⟩⟩
 ·exact⟨a.os.trans d.os,a.tape.trans d.tape,a.output.trans d.output,Nat.le_trans d.size a.size,fun c hc hn=>(a.block c (Nat.lt_of_lt_of_le hc d.size) (fun e=>by injection e with e;have:=h.B.1;omega)).trans (d.block c hc hn)⟩
 ·rw[Yj,List.map_append];exact ZbW i j (by decide)
theorem Gn.kid {v:Yi} {y:NV×Tr} {Q:Nat->Prop} (h:Gn w0 w wi bp b r vL L s x k p ws us vs) (T:TrO wi Q y.1 y.2) (I:∀c,Q c->w.heap.size<=c/\c≠b/\c≠r/\x.2.2.ownBlock≠Ya c)
  (n:w3.ownsRow w.heap.size 55 6 v (vs.length+1) (ZaZ vs++ZaZ [y])) (i:wi.grownBy w3 x.2.2.ownBlock) (m:v.ownBlock=x.2.2.ownBlock\/v.ownBlock=Ya wi.heap.size) :
  w3.cell? ⟨b,5,Yb⟩=Ya x.2.2/\w3.frozen? ⟨b,5,Yb⟩=false/\Gn w0 w (w3.setCell ⟨b,5,Yb⟩ v) bp b r vL L s (x.1,x.2.1,v) k p ws us (vs++[y]):=by
 have l:=h.K.grown i h.N.1;have Y:=fun u=>(h.R u).grown i h.N.2;obtain⟨j,f⟩:=h.grow i (h.P.box.off h.V (by decide)) (fun q hq=>(h.V.lt q hq).1);have S:=ZcI h.W h.V (by decide) i;have O:=ZcI h.U h.V (by decide) i;have D:=l.set 5 v;simp only[List.setIfInBounds_toArray,List.set_cons_zero,List.set_cons_succ]at D;have X:Ya b≠Ya bp:=fun e=>h.bne.1 (by injection e);have d:w3.grownBy (w3.setCell ⟨b,5,Yb⟩ v) (Ya b):=Zaw;have hb:=h.K.lt;have J:r=0\/r<wi.heap.size:=by
  by_cases q:r=0
  ·exact .inl q
  ·exact .inr (h.R q).lt
 have C:v.ownBlock≠Ya b/\v.ownBlock≠Ya r:=by
  rcases m with e|e
  ·rw[e];exact h.N
  ·rw[e];exact⟨fun q=>by injection q with q;omega,fun q=>by injection q with q;omega⟩
 have o:∀z:NV×Tr,TrO wi (fun c=>w.heap.size<=c/\c≠b/\c≠r/\x.2.2.ownBlock≠Ya c) z.1 z.2->TrO (w3.setCell ⟨b,5,Yb⟩ v) (fun c=>w.heap.size<=c/\c≠b/\c≠r/\v.ownBlock≠Ya c) z.1 z.2:=fun z a=>by
  have H:=a.lt.kept i (fun g e=>by
   obtain⟨A,c,hv⟩:=ZbB h.V;rcases h.V.2 with⟨q,_⟩|⟨Z,F,G,q,_,t,_⟩
   ·rw[q]at e;cases e
   ·rw[q]at e;injection e with e;dsimp only at e;subst e
    exact⟨_,_,t,by decide,by decide,.inr fun c hc=>fun e=>hc.1.2.2.2 (by rw[q,e];rfl)⟩)
  refine(H.kept Zaw (fun g e=>by
   injection e with e;subst e
   exact⟨_,_,l,by decide,by decide,.inr fun c hc=>hc.1.2.1⟩)).mono fun c hc=>⟨hc.1.1,hc.1.2.1,hc.1.2.2.1,?_⟩
  rcases m with e|e
  ·rw[e];exact hc.1.2.2.2
  ·rw[e];exact fun q=>by injection q with q;have:=hc.2;omega
 refine⟨l.blk.cell 5,l.blk.free 5,⟨⟨j.box.grown d X,j.toks,j.below.setCell (p:=⟨b,5,Yb⟩) (Nat.le_trans h.B.2.2.2 h.B.1) v,j.ge,j.lt,j.few⟩,?_,D,ZbW S l (by decide),h.M,ZbW O l (by decide),?_,C,?_,fun u=>(Y u).other (p:=⟨b,5,Yb⟩) h.B.2.2.1 v,h.B⟩⟩
 ·exact⟨d.os.trans f.os,d.tape.trans f.tape,d.output.trans f.output,Nat.le_trans f.size d.size,fun c hc hn=>(d.block c (Nat.lt_of_lt_of_le hc f.size) (fun e=>by injection e with e;have:=h.B.1;omega)).trans (f.block c hc hn)⟩
 ·rw[Yj,Zg4];exact ZdH n C.1
 ·intro z a;rcases List.mem_append.1 a with a|a
  ·exact o z (h.E z a)
  ·rw[List.mem_singleton]at a;subst a;exact o _ (T.mono I)
theorem ZmH:∀(l:List Yi) (a0 a1 a2 a3 a4 a5 a b c d e f:Yi) (n:Nat),l.length=n->((((((l++[a0,a1,a2,a3,a4,a5]).set n a).set (n+1) b).set (n+2) c).set (n+3) d).set (n+4) e).set (n+5) f=l++[a,b,c,d,e,f]
 |[],a0,a1,a2,a3,a4,a5,a,b,c,d,e,f,n,h=>by subst h;rfl
 |z::l,a0,a1,a2,a3,a4,a5,a,b,c,d,e,f,n,h=>by
  subst h;have q:=ZmH l a0 a1 a2 a3 a4 a5 a b c d e f l.length rfl;rw[Yk,show l.length+1+1=(l.length+1)+1 by omega,show l.length+1+2=(l.length+2)+1 by omega,show l.length+1+3=(l.length+3)+1 by omega,show l.length+1+4=(l.length+4)+1 by omega,show l.length+1+5=(l.length+5)+1 by omega];simp only[List.cons_append,List.set_cons_succ];rw[q]
theorem Zq7 {B g c:Nat} {vs:List (NV×Tr)} (a:w3.ownsRow B 55 6 (Yc (Ya ⟨g,0,Yb⟩) (vs.length+1) c) (vs.length+1) (ZaZ vs++Zbo.toList)) (y:NV×Tr) :
  (w3.setCell ⟨g,vs.length*6,Yb⟩ (Yd Yf y.2.kd)|>.setCell ⟨g,vs.length*6+1,Yb⟩ y.1.1|>.setCell ⟨g,vs.length*6+2,Yb⟩ y.1.2.1|>.setCell ⟨g,vs.length*6+3,Yb⟩ (Yc Yb 0 0)|>.setCell ⟨g,vs.length*6+4,Yb⟩ (Yd Yf y.2.ps)|>.setCell ⟨g,vs.length*6+5,Yb⟩ y.1.2.2).ownsRow B 55 6 (Yc (Ya ⟨g,0,Yb⟩) (vs.length+1) c) (vs.length+1) (ZaZ vs++ZaZ [y]) ∧
  w3.grownBy (w3.setCell ⟨g,vs.length*6,Yb⟩ (Yd Yf y.2.kd)|>.setCell ⟨g,vs.length*6+1,Yb⟩ y.1.1|>.setCell ⟨g,vs.length*6+2,Yb⟩ y.1.2.1|>.setCell ⟨g,vs.length*6+3,Yb⟩ (Yc Yb 0 0)|>.setCell ⟨g,vs.length*6+4,Yb⟩ (Yd Yf y.2.ps)|>.setCell ⟨g,vs.length*6+5,Yb⟩ y.1.2.2) (Ya g) ∧
  ∀j,w3.cell? ⟨g,vs.length*6+j,Yb⟩=if j<6 then Zbo[j]? else w3.cell? ⟨g,vs.length*6+j,Yb⟩:=by
 have d:=World.ownsRow.stored a (vs.length*6) (Yd Yf y.2.kd);have f:=World.ownsRow.stored d.1 (vs.length*6+1) y.1.1;have h:=World.ownsRow.stored f.1 (vs.length*6+2) y.1.2.1;have i:=World.ownsRow.stored h.1 (vs.length*6+3) (Yc Yb 0 0);have k:=World.ownsRow.stored i.1 (vs.length*6+4) (Yd Yf y.2.ps);have l:=World.ownsRow.stored k.1 (vs.length*6+5) y.1.2.2;have e:=ZmH (ZaZ vs) (Yd Yf 0) (Yc Yb 0 0) (Yc Yb 0 0) (Yc Yb 0 0) (Yd Yf 0) (Yc Yb 0 0) (Yd Yf y.2.kd) y.1.1 y.1.2.1 (Yc Yb 0 0) (Yd Yf y.2.ps) y.1.2.2 _ (Zeo vs);refine⟨?_,(((((d.2.trans f.2).trans h.2).trans i.2).trans k.2).trans l.2),fun j=>?_⟩
 ·have:=l.1;rw[show Zbo.toList=[Yd Yf 0,Yc Yb 0 0,Yc Yb 0 0,Yc Yb 0 0,Yd Yf 0,Yc Yb 0 0]from rfl,e]at this;exact this
 ·by_cases b:j<6
  ·rw[Yo b];have hc:=a.cells (g:=g) rfl (vs.length*6+j);have:(ZaZ vs++Zbo.toList)[vs.length*6+j]? = Zbo[j]?:=by rw[List.getElem?_append_right (by rw[Zeo];omega),Zeo,show vs.length*6+j-vs.length*6=j by omega];simp
   obtain⟨u,m⟩:∃u,Zbo[j]? = Ya u:=⟨_,Array.getElem?_eq_getElem (by exact b)⟩
   rw[m]at this⊢;have:=hc u this;rw[show(⟨g,0,Yb⟩:Addr).add (vs.length*6+j)=⟨g,vs.length*6+j,Yb⟩by unfold Addr.add;by_cases e:vs.length*6+j=0<;>simp only[e,if_true,if_false,Nat.zero_add]]at this;exact this
  ·rw[Yn b]
theorem Gn.tree (h:Gn w0 w wi bp b r vL L s x k p ws us vs):TrO wi (fun c=>w.heap.size<=c/\c≠b/\c≠r) x (.mk k ws us p (vs.map (·.2))):=
 .mk vs (Zii h.W (Nat.zero_le _)) h.M (Zii h.U (Nat.zero_le _)) (Zii h.V (Nat.zero_le _)) (fun c hc=>⟨(h.V.lt c hc).1,fun e=>h.N.1 (e▸hc),fun e=>h.N.2 (e▸hc)⟩) fun v hv=>(h.E v hv).mono fun _ hc=>⟨⟨hc.1,hc.2.1,hc.2.2.1⟩,hc.2.2.2⟩
end
end
end Go.Proofs.YtdkegpkfjgloeaaGreatDoor
