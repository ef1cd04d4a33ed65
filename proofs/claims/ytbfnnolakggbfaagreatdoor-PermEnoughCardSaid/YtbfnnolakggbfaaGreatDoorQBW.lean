import Derived.Deep.DeepFit
import Derived.Test.YtbfnnolakggbfaaGreatDoorQBA
import Derived.Test.YtbfnnolakggbfaaGreatDoorQBC
import Derived.Test.YtbfnnolakggbfaaGreatDoorQBV
set_option maxRecDepth 100000
set_option maxHeartbeats 8000000
open Option renaming some → Ya, none → Yb
open Go.Value renaming slice → Yc, int → Yd, pointer → Ye
open Go.IntKind renaming i64 → Yf
open Go.Obj renaming cells → Yg
open Go renaming World → Yh, Value → Yi
open Go.RowKit
namespace Go.Proofs.YtbfnnolakggbfaaGreatDoor
def RwS (w:Yh) (base:Nat) (v:Yi) (ts:List Rw):Prop:=Zal w base v ts (fun b=>v.ownBlock=Ya b)
theorem RwS.nil (w:Yh) (base:Nat):RwS w base (Yc Yb 0 0) []:=Zal.nil _ _ _
theorem RwS.below {w w':Yh} {base:Nat} {v:Yi} {ts:List Rw} (h:RwS w base v ts) (a:Below w.heap.size w w'):RwS w' base v ts:=Zal.below h a
theorem RwS.push {w w':Yh} {base g:Nat} {v i:Yi} {ts:List Rw} {rs:List (Yi×Rw)} {op c d n e:Int} (l:rs.map (·.2)=ts) (m:∀x∈rs,Za w x.1 x.2.2.1/\Off (fun b=>v.ownBlock=Ya b) x.1 x.2.2.1)
  (o:Blk w g #[Yd Yf c,Yd Yf d]) (p:∀b,v.ownBlock=Ya b->b<g) (f:w'.ownsRow base 39 4 i (ts.length+1) (Zr rs++[Yd Yf op,Yc (Ya ⟨g,0,Yb⟩) 1 1,Yd Yf n,Yd Yf e])) (k:w.grownBy w' v.ownBlock) (j:i.ownBlock=v.ownBlock\/i.ownBlock=Ya w.heap.size) :
  RwS w' base i (ts++[ZK op c d n e]):=
 Zal.appended (t:=ZK op c d n e) l m f k (fun _ a=>a) (ZcE o) (fun _ b a q=>by have:=p b q;have a:Ya g=Ya b:=a;injection a with a;omega) (fun b a=>by
  rcases j with h|h
  ·exact .inl (h▸a)
  ·rw[h]at a;injection a with a
   exact .inr (by omega))
theorem Zfk {w:Yh} {g n size:Nat} {us:List Yi} (a:Blk w g us.toArray) (h:us.length=n*size):Zw w w.heap.size size (Ya ⟨g,0,Yb⟩) n us:=
 ⟨h,fun _=>⟨_,rfl,a.lt,fun j u hu=>by rw[Addr.add_lit,Nat.zero_add,a.cell j];simpa using hu⟩⟩
def Zm0 (E:List Rw->Rw->Int):Prop:=∀(w:Yh) (v a:Yi) (l:List Rw) (r:Rw),ZA w v l->(∀r∈l,Zac r)->l.length<=1000->Za w a r.2.1->Zac r->Calls Tryz.prog 16 #[v,.agg #[Yd Yf r.1,a,Yd Yf r.2.2.1,Yd Yf r.2.2.2]] w fun e b=>e=.returned (Yd Yf (E l r))/\Below w.heap.size w b
theorem Zbu {B g:Nat} {a:Array Yi} {w w':Yh} (h:B<=g/\Blk w g a) (b:Below w.heap.size w w'):B<=g/\Blk w' g a:=⟨h.1,h.2.keep b⟩
def Zg6 (a:Nat):Nat->Yi->Yh->Prop
 |0,v,_=>v=Yc Yb 0 0
 |1,v,_=>v=Zb 1 1
 |2,v,w=>∃g,v=Yc (Ya ⟨g,0,Yb⟩) 1 1/\(a<=g/\Blk w g #[Yd Yf 1,Yd Yf 1])
 |3,v,_=>v=Zb 0 1
 |4,v,w=>∃g,v=.agg #[Yc (Ya ⟨g,0,Yb⟩) 1 1,Yd Yf 0,Yd Yf 1]/\(a<=g/\Blk w g #[Yd Yf 1,Yd Yf 1])
 |5,v,w=>∃g,v=.agg #[Yd Yf 2,Yc (Ya ⟨g,0,Yb⟩) 1 1,Yd Yf 0,Yd Yf 1]/\(a<=g/\Blk w g #[Yd Yf 1,Yd Yf 1])
 |6,v,w=>∃g h,v=Yc (Ya ⟨h,0,Yb⟩) 1 1/\(a<=g/\Blk w g #[Yd Yf 1,Yd Yf 1])/\Blk w h #[Yd Yf 2,Yc (Ya ⟨g,0,Yb⟩) 1 1,Yd Yf 0,Yd Yf 1]
 |_,_,_=>True
theorem ZoS (b:Nat):∀j v a c,Below a.heap.size a c->Zg6 b j v a->Zg6 b j v c
 |0,_,_,_,_,h=>h
 |1,_,_,_,_,h=>h
 |2,_,_,_,hb,h=>by obtain⟨g,e,B⟩:=h;exact⟨g,e,Zbu B hb⟩
 |3,_,_,_,_,h=>h
 |4,_,_,_,hb,h=>by obtain⟨g,e,B⟩:=h;exact⟨g,e,Zbu B hb⟩
 |5,_,_,_,hb,h=>by obtain⟨g,e,B⟩:=h;exact⟨g,e,Zbu B hb⟩
 |6,_,_,_,hb,h=>by obtain⟨g,h,e,B,C⟩:=h;exact⟨g,h,e,Zbu B hb,C.keep hb⟩
 |_+7,_,_,_,_,_=>trivial
def Zeq (b c:Nat) (V:Yi) (a rd:Int):Nat->Yi->Yh->Prop
 |0,v,_=>v=V
 |1,v,_=>v=Zb 1 1
 |2,v,w=>∃g,v=Yc (Ya ⟨g,0,Yb⟩) 1 1/\(b<=g/\Blk w g #[Yd Yf 1,Yd Yf 1])
 |3,v,_=>v=Ye (Ya ⟨c,0,Yb⟩)
 |4,v,_=>v=Yd Yf a
 |5,v,_=>v=Yd Yf (-a)
 |6,v,_=>v=Ye (Ya ⟨c,1,Yb⟩)
 |7,v,_=>v=Yd Yf rd
 |8,v,_=>v=Zb (-a) rd
 |9,v,w=>∃g,v=.agg #[Yc (Ya ⟨g,0,Yb⟩) 1 1,Yd Yf (-a),Yd Yf rd]/\(b<=g/\Blk w g #[Yd Yf 1,Yd Yf 1])
 |10,v,w=>∃g,v=.agg #[Yd Yf 1,Yc (Ya ⟨g,0,Yb⟩) 1 1,Yd Yf (-a),Yd Yf rd]/\(b<=g/\Blk w g #[Yd Yf 1,Yd Yf 1])
 |11,v,w=>∃g h,v=Yc (Ya ⟨h,0,Yb⟩) 1 1/\(b<=g/\Blk w g #[Yd Yf 1,Yd Yf 1])/\Blk w h #[Yd Yf 1,Yc (Ya ⟨g,0,Yb⟩) 1 1,Yd Yf (-a),Yd Yf rd]
 |_,_,_=>True
theorem ZoT (b c:Nat) (V:Yi) (d rd:Int):∀j v a f,Below a.heap.size a f->Zeq b c V d rd j v a->Zeq b c V d rd j v f
 |0,_,_,_,_,h=>h
 |1,_,_,_,_,h=>h
 |2,_,_,_,hb,h=>by obtain⟨g,e,B⟩:=h;exact⟨g,e,Zbu B hb⟩
 |3,_,_,_,_,h=>h
 |4,_,_,_,_,h=>h
 |5,_,_,_,_,h=>h
 |6,_,_,_,_,h=>h
 |7,_,_,_,_,h=>h
 |8,_,_,_,_,h=>h
 |9,_,_,_,hb,h=>by obtain⟨g,e,B⟩:=h;exact⟨g,e,Zbu B hb⟩
 |10,_,_,_,hb,h=>by obtain⟨g,e,B⟩:=h;exact⟨g,e,Zbu B hb⟩
 |11,_,_,_,hb,h=>by obtain⟨g,h,e,B,C⟩:=h;exact⟨g,h,e,Zbu B hb,C.keep hb⟩
 |_+12,_,_,_,_,_=>trivial
def ZbR (c f e:Nat) (V:Yi) (n d a b Z:Int):Nat->Yi->Yh->Prop
 |0,v,_=>v=V
 |1,v,_=>v=Ye (Ya ⟨f,1,Yb⟩)
 |2,v,_=>v=Zb n d
 |3,v,w=>∃g,v=Yc (Ya ⟨g,0,Yb⟩) 1 1/\(c<=g/\Blk w g #[Yd Yf n,Yd Yf d])
 |4,v,_=>v=Ye (Ya ⟨e,0,Yb⟩)
 |5,v,_=>v=Yd Yf a
 |6,v,_=>v=Yd Yf (-a)
 |7,v,_=>v=Ye (Ya ⟨e,1,Yb⟩)
 |8,v,_=>v=Yd Yf b
 |9,v,_=>v=Zb (-a) b
 |10,v,w=>∃g,v=.agg #[Yc (Ya ⟨g,0,Yb⟩) 1 1,Yd Yf (-a),Yd Yf b]/\(c<=g/\Blk w g #[Yd Yf n,Yd Yf d])
 |11,v,w=>∃g,v=.agg #[Yd Yf 1,Yc (Ya ⟨g,0,Yb⟩) 1 1,Yd Yf (-a),Yd Yf b]/\(c<=g/\Blk w g #[Yd Yf n,Yd Yf d])
 |12,v,_=>v=Yd Yf Z
 |13,v,_=>v=Yd Yf Z
 |_,_,_=>True
theorem ZjT (b f c:Nat) (V:Yi) (n d k i Z:Int):∀j v a l,Below a.heap.size a l->ZbR b f c V n d k i Z j v a->ZbR b f c V n d k i Z j v l
 |0,_,_,_,_,h=>h
 |1,_,_,_,_,h=>h
 |2,_,_,_,_,h=>h
 |3,_,_,_,hb,h=>by obtain⟨g,e,B⟩:=h;exact⟨g,e,Zbu B hb⟩
 |4,_,_,_,_,h=>h
 |5,_,_,_,_,h=>h
 |6,_,_,_,_,h=>h
 |7,_,_,_,_,h=>h
 |8,_,_,_,_,h=>h
 |9,_,_,_,_,h=>h
 |10,_,_,_,hb,h=>by obtain⟨g,e,B⟩:=h;exact⟨g,e,Zbu B hb⟩
 |11,_,_,_,hb,h=>by obtain⟨g,e,B⟩:=h;exact⟨g,e,Zbu B hb⟩
 |12,_,_,_,_,h=>h
 |13,_,_,_,_,h=>h
 |_+14,_,_,_,_,_=>trivial
theorem ZmG (E:List Rw->Rw->Int) (O:Zm0 E) (w:Yh) (k n d r s t C u rd:Int) (h1:-9223372036854775807<=t) (h2:t<=9223372036854775807) (h3:-9223372036854775807<=u) (h4:u<=9223372036854775807) (hn:Bd (n,d)) (hl:-9223372036854775808<=C/\C<=9223372036854775807) (hr:-9223372036854775808<=rd/\rd<=9223372036854775807) :
  Calls Tryz.prog 6 #[.agg #[Yd Yf k,Yd Yf n,Yd Yf d,Yd Yf r,.int .u32 s],Zb t C,Zb u rd] w fun e w'=>e=.returned (Yd Yf (E (ZdP r u rd) (ZK 1 n d (-t) C)))/\Below w.heap.size w w':=by
 have U:=zh (zi h1 (zi h2 (zi h3 (zi h4 (zi hn (zi hl hr))))));obtain⟨iR,an,ar,au,av⟩:=info_parts ZcP;have BR:=zh (show Blk (((w.alloc (Yg #[Yd Yf k,Yd Yf n,Yd Yf d,Yd Yf r,.int .u32 s] 26)).alloc (Yg #[Yd Yf t,Yd Yf C] 23)).alloc (Yg #[Yd Yf u,Yd Yf rd] 23)) (w.heap.size+1+1) #[Yd Yf u,Yd Yf rd]by have:=Blk.start ((w.alloc (Yg #[Yd Yf k,Yd Yf n,Yd Yf d,Yd Yf r,.int .u32 s] 26)).alloc (Yg #[Yd Yf t,Yd Yf C] 23)) #[Yd Yf u,Yd Yf rd] 23;rw[World.size_alloc,World.size_alloc]at this;exact this);have R:=zh (show Blk (((w.alloc (Yg #[Yd Yf k,Yd Yf n,Yd Yf d,Yd Yf r,.int .u32 s] 26)).alloc (Yg #[Yd Yf t,Yd Yf C] 23)).alloc (Yg #[Yd Yf u,Yd Yf rd] 23)) w.heap.size #[Yd Yf k,Yd Yf n,Yd Yf d,Yd Yf r,.int .u32 s]from((Blk.start w _ _).keep (below_alloc1 _ _)).keep (below_alloc1 _ _));have BL:=zh (show Blk (((w.alloc (Yg #[Yd Yf k,Yd Yf n,Yd Yf d,Yd Yf r,.int .u32 s] 26)).alloc (Yg #[Yd Yf t,Yd Yf C] 23)).alloc (Yg #[Yd Yf u,Yd Yf rd] 23)) (w.heap.size+1) #[Yd Yf t,Yd Yf C]by have:=(Blk.start (w.alloc (Yg #[Yd Yf k,Yd Yf n,Yd Yf d,Yd Yf r,.int .u32 s] 26)) #[Yd Yf t,Yd Yf C] 23).keep (below_alloc1 _ (Yg #[Yd Yf u,Yd Yf rd] 23));rw[World.size_alloc]at this;exact this);have H0:=zh (show Below w.heap.size w (((w.alloc (Yg #[Yd Yf k,Yd Yf n,Yd Yf d,Yd Yf r,.int .u32 s] 26)).alloc (Yg #[Yd Yf t,Yd Yf C] 23)).alloc (Yg #[Yd Yf u,Yd Yf rd] 23))from((Below.refl _ _).alloc (Nat.le_refl _) _|>.alloc (by simp) _).alloc (by simp;omega) _);clear h1 h2 h3 h4 hn hl hr;go_enter Tryz.func6,Tryz.ntmps6
 go_upto_region 3 with(first
  |(go_at_call 15;go_fit (Zdr 1 1 _);rintro e wa ⟨rfl,bg⟩)
  |(go_at_call 15;go_fit (Zdr (-1) 1 _);rintro e wb ⟨rfl,bu⟩))
 have bb:=bg.trans (bu.mono bg.size);have bs:=bb.trans ((below_alloc2 wb (Yg #[Yd Yf 1,Yd Yf 1] 23) (Yg #[Yd Yf (-1),Yd Yf 1] 23)).mono bb.size);have Q:=zh (show Blk ((wb.alloc (Yg #[Yd Yf 1,Yd Yf 1] 23)).alloc (Yg #[Yd Yf (-1),Yd Yf 1] 23)) wb.heap.size #[Yd Yf 1,Yd Yf 1]from(Blk.start wb _ _).keep (below_alloc1 _ _));have BB:=zh (show Blk ((wb.alloc (Yg #[Yd Yf 1,Yd Yf 1] 23)).alloc (Yg #[Yd Yf (-1),Yd Yf 1] 23)) (wb.heap.size+1) #[Yd Yf (-1),Yd Yf 1]by have:=Blk.start (wb.alloc (Yg #[Yd Yf 1,Yd Yf 1] 23)) #[Yd Yf (-1),Yd Yf 1] 23;rw[World.size_alloc]at this;exact this);replace R:=zh (R.out.keep bs);replace BL:=zh (BL.out.keep bs);replace BR:=zh (BR.out.keep bs);have H1:=zh (H0.out.trans (bs.mono H0.out.size));clear bg bu bb bs H0;generalize((wb.alloc (Yg #[Yd Yf 1,Yd Yf 1] 23)).alloc (Yg #[Yd Yf (-1),Yd Yf 1] 23))=l at *;generalize wb.heap.size+1=gb at *;generalize wb.heap.size=T at *;generalize w.heap.size+1+1=bR at *;generalize w.heap.size+1=S at *;obtain⟨J,bt⟩:∃J,w.heap.size=J:=⟨_,rfl⟩
 rw[bt]at R⊢;clear bt;have r3:l.cell? ⟨J,3,Yb⟩=Ya (Yd Yf r):=R.out.cell 3;cases hrr:(r==-1)
 ·have bd:=zh (show ZdP r u rd=[ZK 2 1 1 0 1,ZK 1 (-1) 1 1 1,ZK 1 1 1 (-u) rd]by unfold ZdP;rw[hrr];rfl);go_upto_region 5 with fail;clear r3;refine Zf4 7 (fun x=>{ tmps:=List.toArray (.agg #[Yd Yf k,Yd Yf n,Yd Yf d,Yd Yf r,.int .u32 s]::Zb t C::Zb u rd::Ye (Ya ⟨J,0,Yb⟩)::Ye (Ya ⟨S,0,Yb⟩)::Ye (Ya ⟨bR,0,Yb⟩)::Yd Yf 0::x 8::Ye (Ya ⟨T,0,Yb⟩)::Ye (Ya ⟨gb,0,Yb⟩)::Zb 1 1::Zb (-1) 1::Ye (Ya ⟨J,3,Yb⟩)::Yd Yf r::.bool false::undef::undef::undef::undef::undef::undef::undef::undef::x 0::x 1::x 2::x 3::x 4::x 5::x 6::x 7::undef::undef::undef::undef::undef::undef::undef::undef::undef::undef::undef::undef::undef::undef::undef::undef::undef::undef::undef::undef::undef::undef::undef::undef::undef::undef::undef::undef::undef::undef::undef::undef::undef::undef::[]),defers:=[] }) (fun j=>if j=8 then Yc Yb 0 0 else undef) (Zg6 l.heap.size) (fun x w=>RwS w l.heap.size (x 7) [ZK 2 1 1 0 1]/\Below l.heap.size l w) (fun x w=>RwS w l.heap.size (x 8) [ZK 2 1 1 0 1]/\Below l.heap.size l w) rfl (by kernel_rfl) (by kernel_rfl) (by kernel_rfl) (by kernel_rfl) (by rfl) ?_ (ZoS l.heap.size) ?_ ?_ ?_ ?_
  ·intro i o z x v;have hi:i<9:=(Array.getElem?_eq_some_iff.1 z).1;have hc:i=0\/i=1\/i=2\/i=3\/i=4\/i=5\/i=6\/i=7\/i=8:=by omega
   rcases hc with rfl|rfl|rfl|rfl|rfl|rfl|rfl|rfl|rfl <;>
   ·have e:=Option.some.inj z;subst e;rfl
  ·intro i o cy z x f G p m K' a;have hc:i=0\/i=1\/i=2\/i=3\/i=4\/i=5\/i=6:=by omega
   rcases hc with rfl|rfl|rfl|rfl|rfl|rfl|rfl<;>(have e:=Option.some.inj z;subst e)
   ·replace G:x 8=Yc Yb 0 0:=G;generalize x 8=z8 at *;subst G;go_simp;exact a.out _ _ (Below.refl _ _) rfl
   ·clear G;have q0:f.cell? ⟨T,0,Yb⟩=Ya (Yd Yf 1):=(Q.out.keep p).cell 0;have q1:f.cell? ⟨T,1,Yb⟩=Ya (Yd Yf 1):=(Q.out.keep p).cell 1;go_simp;exact a.out _ _ (Below.refl _ _) rfl
   ·clear G;have d1:=m ⟨1,.data⟩ (by simp) rfl;dsimp only[Zg6]at d1;generalize x 1=z1 at *;subst d1;go_simp;exact a.out _ _ (below_alloc1 _ _) ⟨_,rfl,p.size,Blk.start f #[Yd Yf 1,Yd Yf 1] 23⟩
   ·clear G;go_simp;go_at_call 15;refine(Zdr 0 1 f).mono ?_;rintro e' w2 ⟨rfl,H⟩;go_wp2_with fail;exact a.out _ _ H rfl
   ·clear G;have d2:=m ⟨2,.data⟩ (by simp) rfl;have Y:=m ⟨3,.data⟩ (by simp) rfl;dsimp only[Zg6]at d2 Y;generalize x 2=z2 at *;generalize x 3=z3 at *;subst Y;obtain⟨g,rfl,B⟩:=d2;go_simp;exact a.out _ _ (Below.refl _ _) ⟨g,rfl,B⟩
   ·clear G;have d4:=m ⟨4,.data⟩ (by simp) rfl;dsimp only[Zg6]at d4;generalize x 4=z4 at *;obtain⟨g,rfl,B⟩:=d4;go_simp;exact a.out _ _ (Below.refl _ _) ⟨g,rfl,B⟩
   ·clear G;have d5:=m ⟨5,.data⟩ (by simp) rfl;dsimp only[Zg6]at d5;generalize x 5=z5 at *;obtain⟨g,rfl,B⟩:=d5;go_simp;have bz:=below_alloc1 f (Yg #[Yd Yf 2,Yc (Ya ⟨g,0,Yb⟩) 1 1,Yd Yf 0,Yd Yf 1] 39);exact a.out _ _ bz ⟨g,_,rfl,Zbu B bz,Blk.start f _ _⟩
  ·intro o z x f _ p N K' a;have e:=Option.some.inj z;subst e;have W:=N 0 (by decide);have d6:=N 6 (by decide);dsimp only[Zg6]at W d6;generalize x 0=z0 at *;generalize x 6=z6 at *;obtain⟨g,h,rfl,Bg,Bh⟩:=d6;subst W;refine ZQ _ rfl _ _ 43 rfl l.heap.size 39 iR (.agg #[Yd Yf 0,Yc Yb 0 0,Yd Yf 0,Yd Yf 0]) 4 48 Tryz.underlying43 an ar au av rfl (by decide) (Yc Yb 0 0) 0 [] rfl (World.ownsRow_nil _ _ _ _) f.heap.size (Ya ⟨h,0,Yb⟩) 1 1 [Yd Yf 2,Yc (Ya ⟨g,0,Yb⟩) 1 1,Yd Yf 0,Yd Yf 1] rfl (Zfk Bh rfl) (Zb2 _ _ _ _ _ _) (by decide) (by decide) p.size ?_;intro v' w' A c K;exact a.out _ _ ⟨RwS.push (rs:=[]) (ts:=[]) rfl (fun x N=>by cases N) Bg.2 (fun b p=>by cases p) A c K,p.grown c p.size (fun q hq=>by cases hq)⟩
  ·intro o z x f hE K' a;have e:=Option.some.inj z;subst e;go_simp;exact a.out _ _ hE
  ·intro x f hF;obtain⟨P,y⟩:=hF;generalize x 0=y0 at *;generalize x 1=y1 at *;generalize x 2=y2 at *;generalize x 3=y3 at *;generalize x 4=y4 at *;generalize x 5=y5 at *;generalize x 6=y6 at *;generalize x 7=y7 at *;generalize x 8=y8 at *;generalize f=D at *;have BG:=zh (show Blk ((D.alloc (Yg #[Yd Yf (-1),Yd Yf 1] 23)).alloc (Yg #[Yd Yf 1,Yc (Ya ⟨D.heap.size,0,Yb⟩) 1 1,Yd Yf 1,Yd Yf 1] 39)) D.heap.size #[Yd Yf (-1),Yd Yf 1]from(Blk.start D _ _).keep (below_alloc1 _ _));have BW:=zh (show Blk ((D.alloc (Yg #[Yd Yf (-1),Yd Yf 1] 23)).alloc (Yg #[Yd Yf 1,Yc (Ya ⟨D.heap.size,0,Yb⟩) 1 1,Yd Yf 1,Yd Yf 1] 39)) (D.heap.size+1) #[Yd Yf 1,Yc (Ya ⟨D.heap.size,0,Yb⟩) 1 1,Yd Yf 1,Yd Yf 1]by have:=Blk.start (D.alloc (Yg #[Yd Yf (-1),Yd Yf 1] 23)) #[Yd Yf 1,Yc (Ya ⟨D.heap.size,0,Yb⟩) 1 1,Yd Yf 1,Yd Yf 1] 39;rw[World.size_alloc]at this;exact this);have ZB:=zh (below_alloc2 D (Yg #[Yd Yf (-1),Yd Yf 1] 23) (Yg #[Yd Yf 1,Yc (Ya ⟨D.heap.size,0,Yb⟩) 1 1,Yd Yf 1,Yd Yf 1] 39));have RL:=P.lt;have R6:=P.below ZB.out;obtain⟨rs,e1,e2,e3⟩:=R6;have b6:=y.trans (ZB.out.mono y.size);have HR:=zh (zi e1 (zi e2 (zi e3 (zi RL b6))));have b0:D.cell? ⟨gb,0,Yb⟩=Ya (Yd Yf (-1)):=(BB.out.keep y).cell 0;have b1:D.cell? ⟨gb,1,Yb⟩=Ya (Yd Yf 1):=(BB.out.keep y).cell 1;have a0:=fun(o:Obj)=>Lib.cell?_alloc_some o (show D.cell? ⟨T,0,Yb⟩=Ya (Yd Yf 1)from(Q.out.keep y).cell 0);have a1:=fun(o:Obj)=>Lib.cell?_alloc_some o (show D.cell? ⟨T,1,Yb⟩=Ya (Yd Yf 1)from(Q.out.keep y).cell 1);clear e1 e2 e3 RL b6 P y;go_wp2_with (at_builtin;refine Zj _ rfl _ _ 43 rfl l.heap.size 39 iR (.agg #[Yd Yf 0,Yc Yb 0 0,Yd Yf 0,Yd Yf 0]) 4 48 Tryz.underlying43 an ar au av rfl (by decide) _ 1 (Zr rs) rfl HR.out.2.1 (D.heap.size+1+1) (Ya ⟨D.heap.size+1,0,Yb⟩) 1 1 [Yd Yf 1,Yc (Ya ⟨D.heap.size,0,Yb⟩) 1 1,Yd Yf 1,Yd Yf 1] rfl (by have:=Zfk (n:=1) (size:=4) (us:=[Yd Yf 1,Yc (Ya ⟨D.heap.size,0,Yb⟩) 1 1,Yd Yf 1,Yd Yf 1]) BW.out rfl;simpa using this) (Zb2 _ _ _ _ _ _) (by decide) (by decide)  (by have:=HR.out.2.2.2.2.size;simpa using this) ?_);intro V7 I A c K;have b7:Below l.heap.size l I:=HR.out.2.2.2.2.grown c HR.out.2.2.2.2.size (fun q hq=>(HR.out.2.2.2.1 q hq).1);have ae:RwS I l.heap.size V7 [ZK 2 1 1 0 1,ZK 1 (-1) 1 1 1]:=RwS.push HR.out.1 HR.out.2.2.1 BG.out (fun b p=>(HR.out.2.2.2.1 b p).2) A c (by simpa using K);obtain⟨B0,am⟩:∃B0,l.heap.size=B0:=⟨_,rfl⟩
   have al:=zh (show RwS I B0 V7 [ZK 2 1 1 0 1,ZK 1 (-1) 1 1 1]/\Below B0 l I by rw[<-am];exact⟨ae,b7⟩);have HG:=zh am;have bc:=zh (show B0<=I.heap.size by rw[<-am];exact b7.size);replace Q:=zh (fun(w':Yh) (F:Below I.heap.size I w')=>(Q.out.keep b7).keep F);replace BR:=zh (fun(w':Yh) (F:Below I.heap.size I w')=>(BR.out.keep b7).keep F);clear A c K b7 ae a0 a1 b0 b1 BG BW ZB BB HR am;go_upto_region 7 with fail;refine Zf4 12 (fun x=>{ tmps:=List.toArray (.agg #[Yd Yf k,Yd Yf n,Yd Yf d,Yd Yf r,.int .u32 s]::Zb t C::Zb u rd::Ye (Ya ⟨J,0,Yb⟩)::Ye (Ya ⟨S,0,Yb⟩)::Ye (Ya ⟨bR,0,Yb⟩)::Yd Yf 0::x 13::Ye (Ya ⟨T,0,Yb⟩)::Ye (Ya ⟨gb,0,Yb⟩)::Zb 1 1::Zb (-1) 1::Ye (Ya ⟨J,3,Yb⟩)::Yd Yf r::.bool false::undef::undef::undef::undef::undef::undef::undef::undef::y0::y1::y2::y3::y4::y5::y6::y7::y8::Zb (-1) 1::Yc (Ya ⟨D.heap.size,0,Yb⟩) 1 1::Zb 1 1::.agg #[Yc (Ya ⟨D.heap.size,0,Yb⟩) 1 1,Yd Yf 1,Yd Yf 1]::.agg #[Yd Yf 1,Yc (Ya ⟨D.heap.size,0,Yb⟩) 1 1,Yd Yf 1,Yd Yf 1]::Yc (Ya ⟨D.heap.size+1,0,Yb⟩) 1 1::V7::x 0::x 1::x 2::x 3::x 4::x 5::x 6::x 7::x 8::x 9::x 10::x 11::x 12::undef::undef::undef::undef::undef::undef::undef::undef::undef::undef::undef::undef::undef::[]),defers:=[] }) (fun j=>if j=13 then V7 else undef) (Zeq I.heap.size bR V7 u rd) (fun x w=>RwS w B0 (x 12) [ZK 2 1 1 0 1,ZK 1 (-1) 1 1 1,ZK 1 1 1 (-u) rd]/\Below B0 l w) (fun x w=>RwS w B0 (x 13) [ZK 2 1 1 0 1,ZK 1 (-1) 1 1 1,ZK 1 1 1 (-u) rd]/\Below B0 l w) rfl (by kernel_rfl) (by kernel_rfl) (by kernel_rfl) (by kernel_rfl) (by rfl) ?_ (ZoT I.heap.size bR V7 u rd) ?_ ?_ ?_ ?_
   ·intro i o z x v;have hi:i<14:=(Array.getElem?_eq_some_iff.1 z).1;have hc:i=0\/i=1\/i=2\/i=3\/i=4\/i=5\/i=6\/i=7\/i=8\/i=9\/i=10\/i=11\/i=12\/i=13:=by omega
    rcases hc with rfl|rfl|rfl|rfl|rfl|rfl|rfl|rfl|rfl|rfl|rfl|rfl|rfl|rfl <;>
    ·have e:=Option.some.inj z;subst e;rfl
   ·intro i o cy z x f G p m K' a;have hc:i=0\/i=1\/i=2\/i=3\/i=4\/i=5\/i=6\/i=7\/i=8\/i=9\/i=10\/i=11:=by omega
    rcases hc with rfl|rfl|rfl|rfl|rfl|rfl|rfl|rfl|rfl|rfl|rfl|rfl<;>(have e:=Option.some.inj z;subst e)
    ·replace G:x 13=V7:=G;generalize x 13=dp at *;subst G;go_simp;exact a.out _ _ (Below.refl _ _) rfl
    ·clear G;have q0:f.cell? ⟨T,0,Yb⟩=Ya (Yd Yf 1):=(Q.out f p).cell 0;have q1:f.cell? ⟨T,1,Yb⟩=Ya (Yd Yf 1):=(Q.out f p).cell 1;go_simp;exact a.out _ _ (Below.refl _ _) rfl
    ·clear G;have d1:=m ⟨1,.data⟩ (by simp) rfl;dsimp only[Zeq]at d1;generalize x 1=z1 at *;subst d1;go_simp;exact a.out _ _ (below_alloc1 _ _) ⟨_,rfl,p.size,Blk.start f #[Yd Yf 1,Yd Yf 1] 23⟩
    ·clear G;go_simp;exact a.out _ _ (Below.refl _ _) rfl
    ·clear G;have Y:=m ⟨3,.data⟩ (by simp) rfl;dsimp only[Zeq]at Y;generalize x 3=z3 at *;subst Y;have q1:f.cell? ⟨bR,0,Yb⟩=Ya (Yd Yf u):=(BR.out f p).cell 0;go_simp;exact a.out _ _ (Below.refl _ _) rfl
    ·clear G;have d4:=m ⟨4,.data⟩ (by simp) rfl;dsimp only[Zeq]at d4;generalize x 4=z4 at *;subst d4;have wn:IntKind.i64.wrap (-u)=-u:=IntWalk.i64_in _ (by have:=U.out;omega);go_simp;exact a.out _ _ (Below.refl _ _) rfl
    ·clear G;go_simp;exact a.out _ _ (Below.refl _ _) rfl
    ·clear G;have d6:=m ⟨6,.data⟩ (by simp) rfl;dsimp only[Zeq]at d6;generalize x 6=z6 at *;subst d6;have q1:f.cell? ⟨bR,1,Yb⟩=Ya (Yd Yf rd):=(BR.out f p).cell 1;go_simp;exact a.out _ _ (Below.refl _ _) rfl
    ·clear G;have d5:=m ⟨5,.data⟩ (by simp) rfl;have d7:=m ⟨7,.data⟩ (by simp) rfl;dsimp only[Zeq]at d5 d7;generalize x 5=z5 at *;generalize x 7=z7 at *;subst d5 d7;go_simp;go_at_call 15;refine(Zdr (-u) rd f).mono ?_;rintro e' w2 ⟨rfl,H⟩;go_wp2_with fail;exact a.out _ _ H rfl
    ·clear G;have d2:=m ⟨2,.data⟩ (by simp) rfl;have d8:=m ⟨8,.data⟩ (by simp) rfl;dsimp only[Zeq]at d2 d8;generalize x 2=z2 at *;generalize x 8=z8 at *;subst d8;obtain⟨g,rfl,B⟩:=d2;go_simp;exact a.out _ _ (Below.refl _ _) ⟨g,rfl,B⟩
    ·clear G;have d9:=m ⟨9,.data⟩ (by simp) rfl;dsimp only[Zeq]at d9;generalize x 9=z9 at *;obtain⟨g,rfl,B⟩:=d9;go_simp;exact a.out _ _ (Below.refl _ _) ⟨g,rfl,B⟩
    ·clear G;have L:=m ⟨10,.data⟩ (by simp) rfl;dsimp only[Zeq]at L;generalize x 10=ap at *;obtain⟨g,rfl,B⟩:=L;go_simp;have bz:=below_alloc1 f (Yg #[Yd Yf 1,Yc (Ya ⟨g,0,Yb⟩) 1 1,Yd Yf (-u),Yd Yf rd] 39);exact a.out _ _ bz ⟨g,_,rfl,Zbu B bz,Blk.start f _ _⟩
   ·intro o z x f _ p N K' a;have e:=Option.some.inj z;subst e;have W:=N 0 (by decide);have M:=N 11 (by decide);dsimp only[Zeq]at W M;generalize x 0=z0 at *;generalize x 11=aq at *;obtain⟨g,h,rfl,Bg,Bh⟩:=M;subst W;have RV:=al.out.1.below p;have RL:=RV.lt;obtain⟨rs,e1,e2,e3⟩:=RV;refine ZQ _ rfl _ _ 43 rfl B0 39 iR (.agg #[Yd Yf 0,Yc Yb 0 0,Yd Yf 0,Yd Yf 0]) 4 48 Tryz.underlying43 an ar au av rfl (by decide) z0 2 (Zr rs) rfl e2 f.heap.size (Ya ⟨h,0,Yb⟩) 1 1 [Yd Yf 1,Yc (Ya ⟨g,0,Yb⟩) 1 1,Yd Yf (-u),Yd Yf rd] rfl (Zfk Bh rfl) (Zb2 _ _ _ _ _ _) (by decide) (by decide) (Nat.le_trans bc.out p.size) ?_;intro v' w' A c K;exact a.out _ _ ⟨RwS.push e1 e3 Bg.2 (fun b F=>Nat.lt_of_lt_of_le (al.out.1.lt b F).2 Bg.1) A c K,(al.out.2.trans (p.mono bc.out)).grown c (Nat.le_trans bc.out p.size) (fun q hq=>(RL q hq).1)⟩
   ·intro o z x f hE K' a;have e:=Option.some.inj z;subst e;go_simp;exact a.out _ _ hE
   ·intro x f hF;obtain⟨P,y⟩:=hF;generalize x 0=z0 at *;generalize x 1=z1 at *;generalize x 2=z2 at *;generalize x 3=z3 at *;generalize x 4=z4 at *;generalize x 5=z5 at *;generalize x 6=z6 at *;generalize x 7=z7 at *;generalize x 8=z8 at *;generalize x 9=z9 at *;generalize x 10=ap at *;generalize x 11=aq at *;generalize x 12=bh at *;generalize x 13=V at *;generalize f=w8 at *;have y:Below l.heap.size l w8:=by rw[HG.out];exact y
    have HV:=zh (show ZA w8 V [ZK 2 1 1 0 1,ZK 1 (-1) 1 1 1,ZK 1 1 1 (-u) rd]from Zal.rows P);replace R:=zh (fun(w':Yh) (F:Below w8.heap.size w8 w')=>(R.out.keep y).keep F);replace BL:=zh (fun(w':Yh) (F:Below w8.heap.size w8 w')=>(BL.out.keep y).keep F);replace H1:=zh (H1.out.trans (y.mono H1.out.size));clear P y Q BR al HG;go_upto_region 8 with fail
    have HW:=zh (show(∀q∈[ZK 2 1 1 0 1,ZK 1 (-1) 1 1 1,ZK 1 1 1 (-u) rd],Zac q)/\Zac (ZK 1 n d (-t) C)from⟨fun q hq=>by
     simp only[List.mem_cons,List.not_mem_nil,or_false]at hq
     rcases hq with rfl|rfl|rfl<;>exact Zcz (by decide) (by first|decide|(have:=U.out;exact⟨⟨by omega,by omega⟩,by omega⟩)) (by first|decide|(have:=U.out;exact⟨⟨by omega,by omega⟩,by omega⟩)),Zcz (by decide) U.out.2.2.2.2.1 (by have:=U.out;exact⟨⟨by omega,by omega⟩,by omega⟩)⟩)
    obtain⟨Z,hZ⟩:∃Z,E [ZK 2 1 1 0 1,ZK 1 (-1) 1 1 1,ZK 1 1 1 (-u) rd] (ZK 1 n d (-t) C)=Z:=⟨_,rfl⟩
    have HZ:=zh hZ;have HE:=zh O;clear hZ O;refine Zbw (fun x=>{ tmps:=List.toArray (.agg #[Yd Yf k,Yd Yf n,Yd Yf d,Yd Yf r,.int .u32 s]::Zb t C::Zb u rd::Ye (Ya ⟨J,0,Yb⟩)::Ye (Ya ⟨S,0,Yb⟩)::Ye (Ya ⟨bR,0,Yb⟩)::x 13::V::Ye (Ya ⟨T,0,Yb⟩)::Ye (Ya ⟨gb,0,Yb⟩)::Zb 1 1::Zb (-1) 1::Ye (Ya ⟨J,3,Yb⟩)::Yd Yf r::.bool false::undef::undef::undef::undef::undef::undef::undef::undef::y0::y1::y2::y3::y4::y5::y6::y7::y8::Zb (-1) 1::Yc (Ya ⟨D.heap.size,0,Yb⟩) 1 1::Zb 1 1::.agg #[Yc (Ya ⟨D.heap.size,0,Yb⟩) 1 1,Yd Yf 1,Yd Yf 1]::.agg #[Yd Yf 1,Yc (Ya ⟨D.heap.size,0,Yb⟩) 1 1,Yd Yf 1,Yd Yf 1]::Yc (Ya ⟨D.heap.size+1,0,Yb⟩) 1 1::V7::z0::z1::z2::z3::z4::z5::z6::z7::z8::z9::ap::aq::bh::x 0::x 1::x 2::x 3::x 4::x 5::x 6::x 7::x 8::x 9::x 10::x 11::x 12::[]),defers:=[] }) (fun j=>if j=13 then Yd Yf 0 else undef) (ZbR w8.heap.size J S V n d t C Z) (by kernel_rfl) (by kernel_rfl) (by rfl) ?_ (ZjT w8.heap.size J S V n d t C Z) ?_ ?_
    ·intro i o z x v;have hi:i<14:=(Array.getElem?_eq_some_iff.1 z).1;have hc:i=0\/i=1\/i=2\/i=3\/i=4\/i=5\/i=6\/i=7\/i=8\/i=9\/i=10\/i=11\/i=12\/i=13:=by omega
     rcases hc with rfl|rfl|rfl|rfl|rfl|rfl|rfl|rfl|rfl|rfl|rfl|rfl|rfl|rfl <;>
     ·have e:=Option.some.inj z;subst e;rfl
    ·intro i o z x f p m K' a;have hi:i<14:=(Array.getElem?_eq_some_iff.1 z).1;have hc:i=0\/i=1\/i=2\/i=3\/i=4\/i=5\/i=6\/i=7\/i=8\/i=9\/i=10\/i=11\/i=12\/i=13:=by omega
     rcases hc with rfl|rfl|rfl|rfl|rfl|rfl|rfl|rfl|rfl|rfl|rfl|rfl|rfl|rfl<;>(have e:=Option.some.inj z;subst e)
     ·go_simp;exact a.out _ _ (Below.refl _ _) rfl
     ·go_simp;exact a.out _ _ (Below.refl _ _) rfl
     ·have d1:=m ⟨1,.data⟩ (by simp) rfl;dsimp only[ZbR]at d1;generalize x 1=z1 at *;subst d1;have q1:f.cell? ⟨J,1,Yb⟩=Ya (Yd Yf n):=(R.out f p).cell 1;have q2:f.cell? ⟨J,2,Yb⟩=Ya (Yd Yf d):=(R.out f p).cell 2;go_simp;exact a.out _ _ (Below.refl _ _) rfl
     ·have d2:=m ⟨2,.data⟩ (by simp) rfl;dsimp only[ZbR]at d2;generalize x 2=z2 at *;subst d2;go_simp;exact a.out _ _ (below_alloc1 _ _) ⟨_,rfl,p.size,Blk.start f #[Yd Yf n,Yd Yf d] 23⟩
     ·go_simp;exact a.out _ _ (Below.refl _ _) rfl
     ·have d4:=m ⟨4,.data⟩ (by simp) rfl;dsimp only[ZbR]at d4;generalize x 4=z4 at *;subst d4;have q1:f.cell? ⟨S,0,Yb⟩=Ya (Yd Yf t):=(BL.out f p).cell 0;go_simp;exact a.out _ _ (Below.refl _ _) rfl
     ·have d5:=m ⟨5,.data⟩ (by simp) rfl;dsimp only[ZbR]at d5;generalize x 5=z5 at *;subst d5;have wn:IntKind.i64.wrap (-t)=-t:=IntWalk.i64_in _ (by have:=U.out;omega);go_simp;exact a.out _ _ (Below.refl _ _) rfl
     ·go_simp;exact a.out _ _ (Below.refl _ _) rfl
     ·have d7:=m ⟨7,.data⟩ (by simp) rfl;dsimp only[ZbR]at d7;generalize x 7=z7 at *;subst d7;have q1:f.cell? ⟨S,1,Yb⟩=Ya (Yd Yf C):=(BL.out f p).cell 1;go_simp;exact a.out _ _ (Below.refl _ _) rfl
     ·have d6:=m ⟨6,.data⟩ (by simp) rfl;have d8:=m ⟨8,.data⟩ (by simp) rfl;dsimp only[ZbR]at d6 d8;generalize x 6=z6 at *;generalize x 8=z8 at *;subst d6 d8;go_simp;go_at_call 15;refine(Zdr (-t) C f).mono ?_;rintro e' w2 ⟨rfl,H⟩;go_wp2_with fail;exact a.out _ _ H rfl
     ·have Y:=m ⟨3,.data⟩ (by simp) rfl;have d9:=m ⟨9,.data⟩ (by simp) rfl;dsimp only[ZbR]at Y d9;generalize x 3=z3 at *;generalize x 9=z9 at *;subst d9;obtain⟨g,rfl,B⟩:=Y;go_simp;exact a.out _ _ (Below.refl _ _) ⟨g,rfl,B⟩
     ·have L:=m ⟨10,.data⟩ (by simp) rfl;dsimp only[ZbR]at L;generalize x 10=ap at *;obtain⟨g,rfl,B⟩:=L;go_simp;exact a.out _ _ (Below.refl _ _) ⟨g,rfl,B⟩
     ·have W:=m ⟨0,.data⟩ (by simp) rfl;have M:=m ⟨11,.data⟩ (by simp) rfl;dsimp only[ZbR]at W M;generalize x 0=z0 at *;generalize x 11=aq at *;obtain⟨g,rfl,B⟩:=M;subst W;have CE:=zh (HE.out f z0 (Yc (Ya ⟨g,0,Yb⟩) 1 1) [ZK 2 1 1 0 1,ZK 1 (-1) 1 1 1,ZK 1 1 1 (-u) rd] (ZK 1 n d (-t) C) (HV.out.below p) HW.out.1 (by simp) (ZcE B.2) HW.out.2);dsimp only[ZK]at CE;go_simp;go_at_call 16;refine CE.out.mono ?_;rintro e' w2 ⟨rfl,H⟩;go_wp2_with fail;exact a.out _ _ H (congrArg (Value.int Yf) HZ.out)
     ·have X:=m ⟨12,.data⟩ (by simp) rfl;dsimp only[ZbR]at X;generalize x 12=bh at *;subst X;go_simp;exact a.out _ _ (Below.refl _ _) rfl
    ·intro x f p N;have ad:=N 13 (by decide);dsimp only[ZbR]at ad;generalize x 0=y0 at *;generalize x 1=y1 at *;generalize x 2=y2 at *;generalize x 3=y3 at *;generalize x 4=y4 at *;generalize x 5=y5 at *;generalize x 6=y6 at *;generalize x 7=y7 at *;generalize x 8=y8 at *;generalize x 9=y9 at *;generalize x 10=cz at *;generalize x 11=c4 at *;generalize x 12=c5 at *;generalize x 13=c6 at *;subst ad;clear N;have HL:=zh (H1.out.trans (p.mono H1.out.size));go_wp2_with fail;go_ret;exact⟨by rw[bd.out,HZ.out];rfl,HL.out⟩
 ·have bd:=zh (show ZdP r u rd=[ZK 0 1 1 (-1) 1]by unfold ZdP;rw[hrr];rfl);have BG:=zh (show Blk ((l.alloc (Yg #[Yd Yf 1,Yd Yf 1] 23)).alloc (Yg #[Yd Yf 0,Yc (Ya ⟨l.heap.size,0,Yb⟩) 1 1,Yd Yf (-1),Yd Yf 1] 39)) l.heap.size #[Yd Yf 1,Yd Yf 1]from(Blk.start l _ _).keep (below_alloc1 _ _));have BW:=zh (show Blk ((l.alloc (Yg #[Yd Yf 1,Yd Yf 1] 23)).alloc (Yg #[Yd Yf 0,Yc (Ya ⟨l.heap.size,0,Yb⟩) 1 1,Yd Yf (-1),Yd Yf 1] 39)) (l.heap.size+1) #[Yd Yf 0,Yc (Ya ⟨l.heap.size,0,Yb⟩) 1 1,Yd Yf (-1),Yd Yf 1]by have:=Blk.start (l.alloc (Yg #[Yd Yf 1,Yd Yf 1] 23)) #[Yd Yf 0,Yc (Ya ⟨l.heap.size,0,Yb⟩) 1 1,Yd Yf (-1),Yd Yf 1] 39;rw[World.size_alloc]at this;exact this);have ZB:=zh (below_alloc2 l (Yg #[Yd Yf 1,Yd Yf 1] 23) (Yg #[Yd Yf 0,Yc (Ya ⟨l.heap.size,0,Yb⟩) 1 1,Yd Yf (-1),Yd Yf 1] 39));have a0:l.cell? ⟨T,0,Yb⟩=Ya (Yd Yf 1):=Q.out.cell 0;have a1:l.cell? ⟨T,1,Yb⟩=Ya (Yd Yf 1):=Q.out.cell 1;have b0:=fun(o:Obj)=>Lib.cell?_alloc_some o (show l.cell? ⟨gb,0,Yb⟩=Ya (Yd Yf (-1))from BB.out.cell 0);have b1:=fun(o:Obj)=>Lib.cell?_alloc_some o (show l.cell? ⟨gb,1,Yb⟩=Ya (Yd Yf 1)from BB.out.cell 1);go_wp2_with (at_builtin;refine Zj _ rfl _ _ 43 rfl l.heap.size 39 iR (.agg #[Yd Yf 0,Yc Yb 0 0,Yd Yf 0,Yd Yf 0]) 4 48 Tryz.underlying43 an ar au av rfl (by decide) _ 0 [] rfl (World.ownsRow_nil _ _ _ _) (l.heap.size+1+1) (Ya ⟨l.heap.size+1,0,Yb⟩) 1 1 [Yd Yf 0,Yc (Ya ⟨l.heap.size,0,Yb⟩) 1 1,Yd Yf (-1),Yd Yf 1] rfl (by have:=Zfk (n:=1) (size:=4) (us:=[Yd Yf 0,Yc (Ya ⟨l.heap.size,0,Yb⟩) 1 1,Yd Yf (-1),Yd Yf 1]) BW.out rfl;simpa using this) (Zb2 _ _ _ _ _ _) (by decide) (by decide)  (by simp;omega) ?_);intro V I A c K;have b7:Below l.heap.size l I:=ZB.out.grown c ZB.out.size (fun q hq=>by cases hq);have ae:RwS I l.heap.size V [ZK 0 1 1 (-1) 1]:=RwS.push (rs:=[]) (ts:=[]) rfl (fun x N=>by cases N) BG.out (fun b p=>by cases p) A c (by rcases K with h|h;exact .inl h;exact .inr (by rw[h,World.size_alloc,World.size_alloc]));have HV:=zh ae.rows;replace R:=zh (fun(w':Yh) (F:Below I.heap.size I w')=>(R.out.keep b7).keep F);replace BL:=zh (fun(w':Yh) (F:Below I.heap.size I w')=>(BL.out.keep b7).keep F);replace H1:=zh (H1.out.trans (b7.mono H1.out.size));clear A c K b7 ae a0 a1 b0 b1 r3 BG BW ZB Q BB BR;go_upto_region 8 with fail
  have HW:=zh (show(∀q∈[ZK 0 1 1 (-1) 1],Zac q)/\Zac (ZK 1 n d (-t) C)from⟨fun q hq=>by
   simp only[List.mem_cons,List.not_mem_nil,or_false]at hq
   rcases hq with rfl<;>exact Zcz (by decide) (by first|decide|(have:=U.out;exact⟨⟨by omega,by omega⟩,by omega⟩)) (by first|decide|(have:=U.out;exact⟨⟨by omega,by omega⟩,by omega⟩)),Zcz (by decide) U.out.2.2.2.2.1 (by have:=U.out;exact⟨⟨by omega,by omega⟩,by omega⟩)⟩)
  obtain⟨Z,hZ⟩:∃Z,E [ZK 0 1 1 (-1) 1] (ZK 1 n d (-t) C)=Z:=⟨_,rfl⟩
  have HZ:=zh hZ;have HE:=zh O;clear hZ O;refine Zbw (fun x=>{ tmps:=List.toArray (.agg #[Yd Yf k,Yd Yf n,Yd Yf d,Yd Yf r,.int .u32 s]::Zb t C::Zb u rd::Ye (Ya ⟨J,0,Yb⟩)::Ye (Ya ⟨S,0,Yb⟩)::Ye (Ya ⟨bR,0,Yb⟩)::x 13::V::Ye (Ya ⟨T,0,Yb⟩)::Ye (Ya ⟨gb,0,Yb⟩)::Zb 1 1::Zb (-1) 1::Ye (Ya ⟨J,3,Yb⟩)::Yd Yf r::.bool true::Yc Yb 0 0::Zb 1 1::Yc (Ya ⟨l.heap.size,0,Yb⟩) 1 1::Zb (-1) 1::.agg #[Yc (Ya ⟨l.heap.size,0,Yb⟩) 1 1,Yd Yf (-1),Yd Yf 1]::.agg #[Yd Yf 0,Yc (Ya ⟨l.heap.size,0,Yb⟩) 1 1,Yd Yf (-1),Yd Yf 1]::Yc (Ya ⟨l.heap.size+1,0,Yb⟩) 1 1::V::undef::undef::undef::undef::undef::undef::undef::undef::undef::undef::undef::undef::undef::undef::undef::undef::undef::undef::undef::undef::undef::undef::undef::undef::undef::undef::undef::undef::undef::x 0::x 1::x 2::x 3::x 4::x 5::x 6::x 7::x 8::x 9::x 10::x 11::x 12::[]),defers:=[] }) (fun j=>if j=13 then Yd Yf 0 else undef) (ZbR I.heap.size J S V n d t C Z) (by kernel_rfl) (by kernel_rfl) (by rfl) ?_ (ZjT I.heap.size J S V n d t C Z) ?_ ?_
  ·intro i o z x v;have hi:i<14:=(Array.getElem?_eq_some_iff.1 z).1;have hc:i=0\/i=1\/i=2\/i=3\/i=4\/i=5\/i=6\/i=7\/i=8\/i=9\/i=10\/i=11\/i=12\/i=13:=by omega
   rcases hc with rfl|rfl|rfl|rfl|rfl|rfl|rfl|rfl|rfl|rfl|rfl|rfl|rfl|rfl <;>
   ·have e:=Option.some.inj z;subst e;rfl
  ·intro i o z x f p m K' a;have hi:i<14:=(Array.getElem?_eq_some_iff.1 z).1;have hc:i=0\/i=1\/i=2\/i=3\/i=4\/i=5\/i=6\/i=7\/i=8\/i=9\/i=10\/i=11\/i=12\/i=13:=by omega
   rcases hc with rfl|rfl|rfl|rfl|rfl|rfl|rfl|rfl|rfl|rfl|rfl|rfl|rfl|rfl<;>(have e:=Option.some.inj z;subst e)
   ·go_simp;exact a.out _ _ (Below.refl _ _) rfl
   ·go_simp;exact a.out _ _ (Below.refl _ _) rfl
   ·have d1:=m ⟨1,.data⟩ (by simp) rfl;dsimp only[ZbR]at d1;generalize x 1=z1 at *;subst d1;have q1:f.cell? ⟨J,1,Yb⟩=Ya (Yd Yf n):=(R.out f p).cell 1;have q2:f.cell? ⟨J,2,Yb⟩=Ya (Yd Yf d):=(R.out f p).cell 2;go_simp;exact a.out _ _ (Below.refl _ _) rfl
   ·have d2:=m ⟨2,.data⟩ (by simp) rfl;dsimp only[ZbR]at d2;generalize x 2=z2 at *;subst d2;go_simp;exact a.out _ _ (below_alloc1 _ _) ⟨_,rfl,p.size,Blk.start f #[Yd Yf n,Yd Yf d] 23⟩
   ·go_simp;exact a.out _ _ (Below.refl _ _) rfl
   ·have d4:=m ⟨4,.data⟩ (by simp) rfl;dsimp only[ZbR]at d4;generalize x 4=z4 at *;subst d4;have q1:f.cell? ⟨S,0,Yb⟩=Ya (Yd Yf t):=(BL.out f p).cell 0;go_simp;exact a.out _ _ (Below.refl _ _) rfl
   ·have d5:=m ⟨5,.data⟩ (by simp) rfl;dsimp only[ZbR]at d5;generalize x 5=z5 at *;subst d5;have wn:IntKind.i64.wrap (-t)=-t:=IntWalk.i64_in _ (by have:=U.out;omega);go_simp;exact a.out _ _ (Below.refl _ _) rfl
   ·go_simp;exact a.out _ _ (Below.refl _ _) rfl
   ·have d7:=m ⟨7,.data⟩ (by simp) rfl;dsimp only[ZbR]at d7;generalize x 7=z7 at *;subst d7;have q1:f.cell? ⟨S,1,Yb⟩=Ya (Yd Yf C):=(BL.out f p).cell 1;go_simp;exact a.out _ _ (Below.refl _ _) rfl
   ·have d6:=m ⟨6,.data⟩ (by simp) rfl;have d8:=m ⟨8,.data⟩ (by simp) rfl;dsimp only[ZbR]at d6 d8;generalize x 6=z6 at *;generalize x 8=z8 at *;subst d6 d8;go_simp;go_at_call 15;refine(Zdr (-t) C f).mono ?_;rintro e' w2 ⟨rfl,H⟩;go_wp2_with fail;exact a.out _ _ H rfl
   ·have Y:=m ⟨3,.data⟩ (by simp) rfl;have d9:=m ⟨9,.data⟩ (by simp) rfl;dsimp only[ZbR]at Y d9;generalize x 3=z3 at *;generalize x 9=z9 at *;subst d9;obtain⟨g,rfl,B⟩:=Y;go_simp;exact a.out _ _ (Below.refl _ _) ⟨g,rfl,B⟩
   ·have L:=m ⟨10,.data⟩ (by simp) rfl;dsimp only[ZbR]at L;generalize x 10=ap at *;obtain⟨g,rfl,B⟩:=L;go_simp;exact a.out _ _ (Below.refl _ _) ⟨g,rfl,B⟩
   ·have W:=m ⟨0,.data⟩ (by simp) rfl;have M:=m ⟨11,.data⟩ (by simp) rfl;dsimp only[ZbR]at W M;generalize x 0=z0 at *;generalize x 11=aq at *;obtain⟨g,rfl,B⟩:=M;subst W;have CE:=zh (HE.out f z0 (Yc (Ya ⟨g,0,Yb⟩) 1 1) [ZK 0 1 1 (-1) 1] (ZK 1 n d (-t) C) (HV.out.below p) HW.out.1 (by simp) (ZcE B.2) HW.out.2);dsimp only[ZK]at CE;go_simp;go_at_call 16;refine CE.out.mono ?_;rintro e' w2 ⟨rfl,H⟩;go_wp2_with fail;exact a.out _ _ H (congrArg (Value.int Yf) HZ.out)
   ·have X:=m ⟨12,.data⟩ (by simp) rfl;dsimp only[ZbR]at X;generalize x 12=bh at *;subst X;go_simp;exact a.out _ _ (Below.refl _ _) rfl
  ·intro x f p N;have ad:=N 13 (by decide);dsimp only[ZbR]at ad;generalize x 0=y0 at *;generalize x 1=y1 at *;generalize x 2=y2 at *;generalize x 3=y3 at *;generalize x 4=y4 at *;generalize x 5=y5 at *;generalize x 6=y6 at *;generalize x 7=y7 at *;generalize x 8=y8 at *;generalize x 9=y9 at *;generalize x 10=cz at *;generalize x 11=c4 at *;generalize x 12=c5 at *;generalize x 13=c6 at *;subst ad;clear N;have HL:=zh (H1.out.trans (p.mono H1.out.size));go_wp2_with fail;go_ret;exact⟨by rw[bd.out,HZ.out];rfl,HL.out⟩
end Go.Proofs.YtbfnnolakggbfaaGreatDoor
