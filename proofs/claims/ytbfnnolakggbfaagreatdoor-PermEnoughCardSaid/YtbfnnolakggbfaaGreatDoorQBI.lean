import Derived.Deep.DeepFit
import Derived.Laws.CopyOwn
import Derived.Test.YtbfnnolakggbfaaGreatDoorQBH
set_option maxRecDepth 100000
set_option maxHeartbeats 8000000
open Option renaming some → Ya, none → Yb
open Go.Value renaming slice → Yc, int → Yd, pointer → Ye
open Go.IntKind renaming i64 → Yf
open Go.Obj renaming cells → Yg
open Go renaming World → Yh, Value → Yi
namespace Go.Proofs.YtbfnnolakggbfaaGreatDoor
section
open Go.RowKit
theorem ZgQ {P:Program} (w:Yh) (r B ty c:TypeId) (g o e h:Nat) (a:Addr) (f m size n:Nat) (b:Array Yi) (t:TypeId) (d:List Yi)
  (hu:P.underlying r=Ya (.slice c)) (u:(P.info? c).map (·.size)=Ya size)
  (y:w.heap[g]? = Ya (.cells b t (0,0))) (A:n=Nat.min f e) (hc:d.length=n*size)
  (l:∀j v,d[j]? = Ya v->w.cell? (a.add j)=Ya v) (k:o+d.length<=b.size) (x:∀v∈d,v.oneCell'=true) :
  (Builtin.copy_ #[r,B] ty #[Yc (Ya ⟨g,o,Yb⟩) e h,Yc (Ya a) f m]).run P w =
   .ok (goInt n) (w.setRow g (b.toList.take o++d++b.toList.drop (o+d.length)).toArray):=by
 have s:=run_loadCells_list (P:=P) w a d l;have p:=run_storeCells_at P g o t d 0 b w y (by simpa using k) x;rw[hc]at s;cases hq:P.info? c with
 |none=>simp[hq]at u
 |some i=>
  have z:i.size=size:=by simpa[hq]using u
  simp[Builtin.copy_,run_underlying hu,Builtin.lenOf,Builtin.firstCells,sizeOf,typeInfo,hq,z,<-A,s,p]
theorem Zd8 {P:Program} {x:Array Oper} {o:Oper} {a:Act} {w:Yh} {K:Act->Yh->Prop} {Q:Exit->Act->Yh->Prop} {E:Prop} (A:o.guard=Yb) (d s:Operand) (z C:TypeId)
  (I:o.op=.call { callee:=.builtin .copy,args:=#[d,s],argTypes:=#[z,C] }) (e:TypeId) (size:Nat) (hu:P.underlying z=Ya (.slice e)) (B:(P.info? e).map (·.size)=Ya size)
  (g f c k:Nat) (y:Addr) (i l n:Nat) (F:a.eval d=Yc (Ya ⟨g,f,Yb⟩) c k) (J:a.eval s=Yc (Ya y) i l)
  (b:Array Yi) (t:TypeId) (G:w.heap[g]? = Ya (.cells b t (0,0))) (m:List Yi) (H:n=Nat.min i c) (hc:m.length=n*size)
  (u:∀j v,m[j]? = Ya v->w.cell? (y.add j)=Ya v) (p:f+m.length<=b.size) (D:∀v∈m,v.oneCell'=true)
  (h:∀w',w'=w.setRow g (b.toList.take f++(m++b.toList.drop (f+m.length))).toArray->K (a.put o.dst (goInt n)) w') :
  if Region.wanted o (yielded x a.tmps)=true then Oper.wp P o a w K Q else E:=by
 have L:Region.wanted o (yielded x a.tmps)=true:=by simp[Region.wanted,A]
 rw[Yo L];have r:=ZgQ (P:=P) w z C o.type e g f c k y i l size n b t m hu B G H hc u p D;unfold Oper.wp;simp[execOp,I,resolve,invoke,builtin,F,J,r,Result.andThen];exact h _ rfl
theorem ZpY (w:Yh):Calls Tryz.prog 151 #[.int .u64 1,.int .u64 8] w fun e w'=>e=.returned (.tuple #[.int .u64 0,.int .u64 8])/\w'=w:=by
 have h:∀w,Calls Tryz.prog 61 #[.int .u64 1,.int .u64 8] w fun e w'=>e=.returned (.tuple #[.int .u64 0,.int .u64 8])/\w=w':=fun w=>by
  have:=Zi3 1 8 w (by decide) (by decide);rw[show((up (1*8):Nat):Int)=0 by decide,show((lw (1*8):Nat):Int)=8 by decide]at this;exact this
 go_enter Tryz.func151,Tryz.ntmps151;go_wp2_with (go_at_call 61;refine(h _).mono ?_;rintro e a ⟨rfl,rfl⟩);go_ret2;exact⟨rfl,rfl⟩
theorem ZjO {w:Yh} {b:Nat} {a:Array Yi} (h:Blk w b a) (j:Nat) (v:Yi) (c:a.toList[j]? = Ya v):w.cell? ((⟨b,0,Yb⟩:Addr).add j)=Ya v:=by rw[Addr.add_lit,Nat.zero_add,h.cell j];simpa using c
theorem ZrQ {w:Yh} {b:Nat} {a:Array Yi} {ty:TypeId} (h:w.heap[b]? = Ya (.cells a ty (0,0))):Blk w b a:=⟨ty,h⟩
theorem ZlH {b l:List Yi} {n:Nat} (h:l.take n=b) {j:Nat} {v:Yi} (a:b[j]? = Ya v):l.toArray.toList[j]? = Ya v:=by
 rw[<-h,List.getElem?_take]at a
 split at a
 ·simpa using a
 ·cases a
theorem Zit (l:List Int):∀v∈l.map (Value.int Yf),v.oneCell'=true:=fun v a=>by
 obtain⟨x,_,rfl⟩:=List.mem_map.1 a;rfl
theorem ZhO {w:Yh} {g:Nat} {a b:Array Yi} {t:TypeId} (h:w.heap[g]? = Ya (.cells a t (0,0))):(w.setRow g b).heap[g]? = Ya (.cells b t (0,0)):=setRow_heap w g _ _ t _ h
def noughts (k:Nat):List Yi:=Zq (List.replicate k (0,1)++List.replicate (8-k) (0,0))
theorem Zn1 (w:Yh) (C c:Nat) (O:Blk w C #[Yd Yf 0,Yd Yf 1]) :
  Calls Tryz.prog 120 #[Yc (Ya ⟨C,0,Yb⟩) 1 c,Yd Yf 8] w fun e w'=>∃v,e=.returned v/\w'.ownsRow w.heap.size 23 2 v 8 (Zq (List.replicate 8 (0,1)))/\Below w.heap.size w w':=by
 obtain⟨i0,M,I,A,J⟩:=info_parts ZdE;have r:(Tryz.prog.info? 23).map (·.size)=Ya 2:=by rw[M];simp[A]
 have p:=zh r;clear r;go_enter Tryz.func120,Tryz.ntmps120
 go_upto_region 7 with(first
  |(go_at_call 151;go_fit (ZpY _);rintro e a ⟨rfl,rfl⟩)
  |(at_make;refine wpList_make_full _ rfl _ _ 35 rfl a.heap.size 23 i0 (.agg #[Yd Yf 0,Yd Yf 0]) 2 Tryz.underlying35 M I A Yf Yf _ _ 8 rfl rfl ?c1 ?c2 ?c3 ?c4 ?c5 ?_))
 case c1=>rfl
 case c2=>rfl
 case c3=>rw[J];omega
 case c4=>unfold maxLen;omega
 case c5=>simp
 intro B s o;have E:Below a.heap.size a B:=(Below.refl _ _).grown o (Nat.le_refl _) (fun k G=>by cases G);have x:B.heap[a.heap.size]? = Ya (.cells (noughts 0).toArray 23 (0,0)):=by
  rcases s.2 with⟨e,_⟩|⟨g,Q,t,e,_,S,_,_,r,H⟩
  ·cases e
  ·injection e with e1 e2 e3;injection e1 with e1;injection e1 with e1;rw[e1,S];have:t=(noughts 0).toArray:=by apply Array.ext';have R:t.toList.take (8*2)=t.toList:=List.take_of_length_le (by rw[Array.length_toList,r,<-e3];decide);rw[<-R,H,List.toList_toArray];exact(ZdN Zl [] [] 8).trans rfl
   rw[this]
 have u:=zh (zi x (zi E (O.keep E)));clear s o E x;have P:=ZjO u.out.2.2;have K:=zh P;clear P O;obtain⟨i,b⟩:∃i,i=B.setRow a.heap.size ((noughts 0).toArray.toList.take 0++[Value.int Yf 0,Value.int Yf 1]++(noughts 0).toArray.toList.drop (0+2)).toArray:=⟨_,rfl⟩
 have d:=zh b;have T:(Builtin.copy_ #[35,35] 3 #[Yc (Ya ⟨a.heap.size,0,Yb⟩) 8 8,Yc (Ya ⟨C,0,Yb⟩) 1 c]).run Tryz.prog B=.ok (Yd Yf 1) i:=by rw[b];exact ZgQ B 35 35 3 23 a.heap.size 0 8 8 ⟨C,0,Yb⟩ 1 c 2 1 (noughts 0).toArray 23 [Yd Yf 0,Yd Yf 1] Tryz.underlying35 p.out u.out.1 rfl rfl K.out (by decide) (fun v N=>by simp at N;rcases N with rfl|rfl<;>rfl)
 clear b;go_upto_region 8 with fail;have f:i.heap[a.heap.size]? = Ya (.cells (noughts 1).toArray 23 (0,0)):=by rw[d.out];exact ZhO u.out.1
 have m:Below a.heap.size a i:=by rw[d.out];exact below_setRow u.out.2.1 (Nat.le_refl _) _
 have l:=zh (zi f m);clear f m K u T;go_wp2_with fail;go_loopg [8] 7 (fun gk U wr=>∃k:Nat,U=Yd Yf k/\(k=1\/k=2\/k=4\/k=8)/\gk=8-k/\wr.heap[a.heap.size]? = Ya (.cells (noughts k).toArray 23 (0,0))/\Below a.heap.size a wr)
 case atStart=>exact⟨1,rfl,.inl rfl,rfl,l.out.1,l.out.2⟩
 case round=>
  clear l;obtain⟨k,rfl,G,y,F,L⟩:=hrel;have h:=zh (zi F (zi L y));have D:=zh (ZjO (ZrQ F));clear F L y;rcases G with rfl|rfl|rfl|rfl
  ·go_wp2_with fail;go_region_law (refine Zd8 rfl (.tmp 41) (.tmp 44) 35 35 rfl 23 2 Tryz.underlying35 p.out a.heap.size 2 7 7 ⟨a.heap.size,0,Yb⟩ 1 8 1 (by simp[Act.eval,Act.put]) (by simp[Act.eval,Act.put]) (noughts 1).toArray 23 h.out.1 [Yd Yf 0,Yd Yf 1] rfl rfl (fun j v z=>D.out j v (ZlH (n:=2) rfl z)) (by decide) (Zit [0,1]) ?_;intro i b;have d:=zh b;clear b);have f:i.heap[a.heap.size]? = Ya (.cells (noughts 2).toArray 23 (0,0)):=by rw[d.out];exact ZhO h.out.1
   have m:Below a.heap.size a i:=by rw[d.out];exact below_setRow (h.out.2.1.trans ((Zn wr).mono h.out.2.1.size)) (Nat.le_refl _) _
   have l:=zh (zi f m);clear f m;go_wp2_with fail;go_roundg 6
   case measure=>have:=h.out.2.2;omega
   case rel=>exact⟨2,rfl,by decide,rfl,l.out.1,l.out.2⟩
  ·go_wp2_with fail;go_region_law (refine Zd8 rfl (.tmp 41) (.tmp 44) 35 35 rfl 23 2 Tryz.underlying35 p.out a.heap.size 4 6 6 ⟨a.heap.size,0,Yb⟩ 2 8 2 (by simp[Act.eval,Act.put]) (by simp[Act.eval,Act.put]) (noughts 2).toArray 23 h.out.1 [Yd Yf 0,Yd Yf 1,Yd Yf 0,Yd Yf 1] rfl rfl (fun j v z=>D.out j v (ZlH (n:=4) rfl z)) (by decide) (Zit [0,1,0,1]) ?_;intro i b;have d:=zh b;clear b);have f:i.heap[a.heap.size]? = Ya (.cells (noughts 4).toArray 23 (0,0)):=by rw[d.out];exact ZhO h.out.1
   have m:Below a.heap.size a i:=by rw[d.out];exact below_setRow (h.out.2.1.trans ((Zn wr).mono h.out.2.1.size)) (Nat.le_refl _) _
   have l:=zh (zi f m);clear f m;go_wp2_with fail;go_roundg 4
   case measure=>have:=h.out.2.2;omega
   case rel=>exact⟨4,rfl,by decide,rfl,l.out.1,l.out.2⟩
  ·go_wp2_with fail;go_region_law (refine Zd8 rfl (.tmp 41) (.tmp 44) 35 35 rfl 23 2 Tryz.underlying35 p.out a.heap.size 8 4 4 ⟨a.heap.size,0,Yb⟩ 4 8 4 (by simp[Act.eval,Act.put]) (by simp[Act.eval,Act.put]) (noughts 4).toArray 23 h.out.1 [Yd Yf 0,Yd Yf 1,Yd Yf 0,Yd Yf 1,Yd Yf 0,Yd Yf 1,Yd Yf 0,Yd Yf 1] rfl rfl (fun j v z=>D.out j v (ZlH (n:=8) rfl z)) (by decide) (Zit [0,1,0,1,0,1,0,1]) ?_;intro i b;have d:=zh b;clear b);have f:i.heap[a.heap.size]? = Ya (.cells (noughts 8).toArray 23 (0,0)):=by rw[d.out];exact ZhO h.out.1
   have m:Below a.heap.size a i:=by rw[d.out];exact below_setRow (h.out.2.1.trans ((Zn wr).mono h.out.2.1.size)) (Nat.le_refl _) _
   have l:=zh (zi f m);clear f m;go_wp2_with fail;go_roundg 0
   case measure=>have:=h.out.2.2;omega
   case rel=>exact⟨8,rfl,by decide,rfl,l.out.1,l.out.2⟩
  ·go_wp2_with fail;go_ret;exact⟨_,rfl,⟨by decide,.inr ⟨a.heap.size,8,(noughts 8).toArray,rfl,Nat.le_refl _,h.out.1,by decide,by decide,rfl,rfl⟩⟩,h.out.2.1⟩
end
section
open Go.RowKit
def Zd9 (x:Sum (List Rw×List Rw) Trm) (m:List (Int×Int)):Option (Int×Int):=
 match x with
 |.inl y=>ZdC y.1 y.2 m
 |.inr s=>okO (Zv (Zaa s.1 m s.2).1,(Zaa s.1 m s.2).2)
def Zex (x:Sum (List Rw×List Rw) Trm):Prop:=
 match x with
 |.inl y=>(∀r∈y.1,TrmOk r.2)/\∀r∈y.2,TrmOk r.2
 |.inr s=>TrmOk s
theorem Ze0 {r:(Int×Int)×Int} {x:Int×Int} (h:okO r=Ya x):r.2=0/\r.1=x:=by
 unfold okO at h
 split at h
 ·rename_i g;exact⟨g,Option.some.inj h⟩
 ·cases h
theorem ZgG {ts:List Rw} (h:∀r∈ts,TrmOk r.2):∀r∈ts,Zz r.2.1/\Bd r.2.2:=fun r a=>⟨(h r a).ok.wide,(h r a).k.wide⟩
theorem ZhR {x:Sum (List Rw×List Rw) Trm} {m:List (Int×Int)} (j:Zex x) (hm:ZC m) {v:Int×Int} (h:Zd9 x m=Ya v):OkR v:=by
 cases x with
 |inr s=>
  obtain⟨d,e⟩:=Ze0 h;have f:TrmOk s:=j;obtain⟨a,b,c,_,q⟩:=ZeP f.ok.wide f.k.wide hm.wide d;have:=ZbF (Zda a c b 8 _ q);rw[<-e];exact this
 |inl y=>
  unfold Zd9 ZdC at h;dsimp only at h;rw[Option.bind_eq_some_iff]at h;obtain⟨b,r,h⟩:=h;rw[Option.bind_eq_some_iff]at h;obtain⟨t,u,h⟩:=h;have g:=ZdX (ZgG j.1) hm.wide _ _ r;have l:=ZdX (ZgG j.2) hm.wide _ _ u
  split at h
  ·split at h
   ·obtain rfl:=Option.some.inj h;exact Zak
   ·rename_i i
    obtain⟨d,e⟩:=Ze0 h;rw[<-e];exact Zbi.ok _ _ (l.resolve_left (fun q=>i q.1)) (ZbF ZdZ) d
  ·rename_i n
   have g:=ZbF (g.resolve_left (fun q=>n q.1))
   split at h
   ·obtain⟨d,e⟩:=Ze0 h;rw[<-e];exact Zbi.ok _ _ g ZdZ d
   ·rename_i i
    rw[Option.bind_eq_some_iff]at h;obtain⟨s,f,h⟩:=h;obtain⟨d,e⟩:=Ze0 f;obtain⟨o,p⟩:=Ze0 h;rw[<-p];refine Zb6.ok _ _ ?_ ZiA o;rw[<-e];exact Zbi.ok _ _ g (l.resolve_left (fun q=>i q.1)) d
def Zbe:List Ch->List (Int×Int)->Option (List (Int×Int))
 |[],m=>Ya m
 |c::r,m=>(Zd9 c.2 m).bind fun x=>Zbe r (m.set c.1.toNat x)
theorem Ze9 (b:List Ch):∀(a:List Ch) (m:List (Int×Int)),Zbe (a++b) m=(Zbe a m).bind fun d=>Zbe b d
 |[],m=>rfl
 |c::r,m=>by
  rw[List.cons_append,Zbe,Zbe];cases Zd9 c.2 m with
  |none=>rfl
  |some x=>exact Ze9 b r _
theorem ZoG {w wr:Yh} {A:Option Addr} {n k:Nat} {rs:List (Yi×Ch)} {x:Yi×Ch} (h:Zw w w.heap.size 2 A n (Zat rs)) (f:Below w.heap.size w wr) (j:rs[k]? = Ya x) (i:0<n) :
  ∃c,A=Ya c/\wr.cell? (c.add (k*2))=Ya (Yd Yf x.2.1)/\wr.cell? ⟨(c.add (k*2)).block,(c.add (k*2)).off+1,Yb⟩=Ya x.1:=by
 obtain⟨c,e,d,hc⟩:=h.2 i;obtain⟨a,b⟩:=Zgd rs k x j;have g:=(f.cell (p:=c.add (k*2)) (by rw[ZJ];exact d)).trans (hc _ _ a);have d1:=(f.cell (p:=c.add (k*2+1)) (by rw[ZJ];exact d)).trans (hc _ _ b);rw[<-ZcA]at d1;exact⟨c,e,g,d1⟩
theorem ZdI {w:Yh} {base c size n:Nat} {e:TypeId} {v:Yi} {d:List Yi} (h:w.ownsRow base e size v n d) (f:c<=base):w.ownsRow c e size v n d:=by
 refine⟨h.1,?_⟩;rcases h.2 with q|⟨g,a,b,e,i,rest⟩
 ·exact .inl q
 ·exact .inr ⟨g,a,b,e,Nat.le_trans f i,rest⟩
structure WitS (w wr:Yh) (g cap:Nat) (m:List (Int×Int)):Prop where
 o:wr.ownsRow w.heap.size 23 2 (Yc (Ya ⟨g,0,Yb⟩) 8 cap) 8 (Zq m)
 len:m.length=8
 ok:ZC m
 below:Below w.heap.size w wr
section
variable {w wr w2:Yh} {g cap:Nat} {m:List (Int×Int)}
theorem WitS.keep (h:WitS w wr g cap m) (a:Below wr.heap.size wr w2):WitS w w2 g cap m:=
 ⟨h.o.kept (ZY a Yb) (by simp[Value.ownBlock]),h.len,h.ok,h.below.trans (a.mono h.below.size)⟩
theorem WitS.rats (h:WitS w wr g cap m):Za wr (Yc (Ya ⟨g,0,Yb⟩) 8 cap) m:=Zdn (base:=w.heap.size) (by rw[h.len];exact h.o)
theorem WitS.put (h:WitS w wr g cap m) (p:Nat) (x:Int×Int) (c:OkR x):WitS w ((wr.setCell ⟨g,p*2,Yb⟩ (Yd Yf x.1)).setCell ⟨g,p*2+1,Yb⟩ (Yd Yf x.2)) g cap (m.set p x):=by
 obtain⟨b,e⟩:=h.o.stored (p*2) (Yd Yf x.1);obtain⟨a2,f⟩:=b.stored (p*2+1) (Yd Yf x.2);refine⟨by rw[Zcw];exact a2,by rw[List.length_set];exact h.len,fun y d=>?_,?_⟩
 ·rcases List.mem_or_eq_of_mem_set d with q|rfl
  ·exact h.ok y q
  ·exact c
 ·have a:=(h.o.lt g rfl).1;exact(h.below.setCell (p:=⟨g,p*2,Yb⟩) a _).setCell (p:=⟨g,p*2+1,Yb⟩) a _
theorem WitS.cells (h:WitS w wr g cap m) {p:Nat} (c:p<8):∃x:Int×Int,wr.cell? ⟨g,p*2,Yb⟩=Ya (Yd Yf x.1)/\wr.cell? ⟨g,p*2+1,Yb⟩=Ya (Yd Yf x.2)/\wr.frozen? ⟨g,p*2,Yb⟩=false/\wr.frozen? ⟨g,p*2+1,Yb⟩=false:=by
 obtain⟨x,d⟩:∃x,m[p]? = Ya x:=⟨_,Ym (by rw[h.len];exact c)⟩
 obtain⟨a,b⟩:=ZfA m p x d;refine⟨x,?_,?_,h.o.frozenAt _,h.o.frozenAt _⟩
 ·rw[h.o.cellAt _ (by omega)];exact a
 ·rw[h.o.cellAt _ (by omega)];exact b
end
def m0:List (Int×Int):=List.replicate 8 (0,1)
def ZiO (w:Yh) (o:Option (List (Int×Int))) (e:Ending) (w':Yh):Prop:=
 (∃m v,o=Ya m/\e=.returned (.tuple #[v,Yd Yf 0])/\Za w' v m/\m.length=8/\ZC m/\Below w.heap.size w w') ∨
 (o=Yb/\∃z:Int,(z != 0)=true/\e=.returned (.tuple #[Yc Yb 0 0,Yd Yf z])/\Below w.heap.size w w')
theorem Zrq (w:Yh) (c:Yi) (m:List (Int×Int)) (b:Nat) (d:Yi) (s:Trm) (g:Blk w b #[d,Yd Yf s.2.1,Yd Yf s.2.2]) (i:Za w d s.1) (f:TrmOk s) (a:Za w c m) (hm:Zz m) :
  Calls Tryz.prog 121 #[c,Ye (Ya ⟨b,0,Yb⟩)] w (Zk1 w (Zd9 (.inr s) m)):=
 (ZqI w c m b d s g i ⟨f.ok.wide,f.k.wide⟩ a hm).mono fun e j h=>by
  obtain⟨rfl,a⟩:=h
  refine⟨⟨_,_,_,rfl,?_⟩,a⟩
  exact ZcD (Zv (Zaa s.1 m s.2).1,(Zaa s.1 m s.2).2)
theorem ZmU (w:Yh) (v:Yi) (d:List Ch) (S:Nat->Prop) (h:Znt w v d S) (ac:∀c∈d,Zex c.2) (hv:∀c∈d,∃n:Nat,c.1=n/\n<8) (hl:d.length<=1000) :
  Calls Tryz.prog 76 #[v] w (ZiO w (Zbe d m0)):=by
 obtain⟨A,c,rs,rfl,h2,h3,h4,h5,h6⟩:=h;obtain⟨n,hn⟩:∃n,n=d.length:=⟨_,rfl⟩
 have ag:rs.length=n:=by rw[hn,<-h4,List.length_map]
 rw[<-hn]at h2 h5 hl⊢;have L:=zh (zi ag (zi h4 (zi h5 (zi h6 (zi hn (zi hl (zi ac hv)))))));clear hn ag h2 h3 h4 h5 h6 hl ac hv;have br:∀(a:Addr) (m:Mode) (fn:Fn) (f c:Array Yi) (w:Yh),(store a (.func fn f c) m).run Tryz.prog w=stored Tryz.prog w a (.func fn f c) m:=fun a m fn f c w=>run_store Tryz.prog w a _ m rfl;go_enter Tryz.func76,Tryz.ntmps76
 go_upto_region 2 with(first
  |(go_at_call 30;go_fit (Zbl _ _);rintro e1 w1 ⟨rfl,P⟩)
  |(go_at_call 120;go_fit (Zn1 _ _ _ (Blk.start _ _ _));rintro e2 w2 ⟨ba,rfl,o2,Z⟩))
 have r:=P.trans ((below_alloc1 w1 (Yg #[Yd Yf 0,Yd Yf 1] 23)).mono P.size);have O:=r.trans (Z.mono r.size);obtain⟨g,b,rfl⟩:∃g b,ba=Yc (Ya ⟨g,0,Yb⟩) 8 b:=by
  rcases o2.2 with⟨_,q⟩|⟨g,b,_,e,_⟩
  ·omega
  ·exact⟨g,b,e⟩
 have D0:=zh (show WitS w w2 g b m0 from⟨ZdI o2 r.size,rfl,fun x hx=>by rw[List.eq_of_mem_replicate hx];exact Zak,O⟩);clear P r Z O o2;go_wp2_with fail;go_loopg [14] n (fun gk a8 wr=>∃(k:Nat) (m:List (Int×Int)),a8=Yd Yf k/\k<=n/\gk=n-k/\Zbe (d.take k) m0=Ya m/\WitS w wr g b m)
 case atStart=>exact⟨0,m0,rfl,Nat.zero_le _,rfl,rfl,D0.out⟩
 case round=>
  clear D0;obtain⟨k,m,rfl,hk,Q,E,D⟩:=hrel;by_cases R:k=n
  ·have he:d.take k=d:=by rw[R,L.out.2.2.2.2.1];exact List.take_length
   rw[he]at E;have B:=zh (show ZiO w (Zbe d m0) (.returned (.tuple #[Yc (Ya ⟨g,0,Yb⟩) 8 b,Yd Yf 0])) wr from .inl ⟨m,_,E,rfl,D.rats,D.len,D.ok,D.below⟩);subst R;clear hk Q D he E;go_wp2_with fail;go_ret2;exact B.out
  ·have ab:k<n:=by omega
   obtain⟨y,hy⟩:∃y,rs[k]? = Ya y:=⟨_,Ym (by have:=L.out.1;omega)⟩
   have J:d[k]? = Ya y.2:=by rw[<-L.out.2.1,List.getElem?_map,hy];rfl
   obtain⟨ad,rfl,d0,d1⟩:=ZoG L.out.2.2.1 D.below hy (by omega);have i:=(L.out.2.2.2.1 y (List.mem_of_getElem? hy)).below D.below;have aa:=L.out.2.2.2.2.2.2.1 y.2 (List.mem_of_getElem? J);obtain⟨l,ae,af⟩:=L.out.2.2.2.2.2.2.2 y.2 (List.mem_of_getElem? J);have nx:Zbe (d.take (k+1)) m0=(Zd9 y.2.2 m).bind fun x=>Ya (m.set l x):=by rw[List.take_add_one,J];show Zbe (d.take k++[y.2]) m0=_;rw[Ze9,E,Option.bind_some,Zbe,ae];rfl
   have nn:Zd9 y.2.2 m=Yb->Zbe d m0=Yb:=fun q=>by
    rw[<-List.take_append_drop (k+1) d,Ze9,nx,q];rfl
   have i1:(k:Int)<(n:Int):=by omega
   have i2:(0:Int)<=(k:Int):=by omega
   have wk:IntKind.i64.wrap ((k:Int)+1)=(k:Int)+1:=IntWalk.i64_in _ (by have:=L.out.2.2.2.2.2.1;omega);obtain⟨f,pv,xc⟩:=y;dsimp only at *;subst ae;have o:=zh (zi ab (zi Q (zi nx (zi nn aa))));have I:=zh af;have U:=zh (fun(F:Yh) (t:Below wr.heap.size wr F)=>D.keep t);clear R hk Q J hy aa nx nn E ab D af;cases xc with
   |inl z=>
    obtain⟨r,O,v1,v2,rfl,V,B2,T,aw,W,R2⟩:=i;have i:True:=trivial;have CF:=zh (fun(F:Yh) (t:Below wr.heap.size wr F)=>Zq9 F (Yc (Ya ⟨g,0,Yb⟩) 8 b) m r O v1 v2 z.1 z.2 (V.keep t) (B2.keep t) (W.below t).rows (R2.below t).rows (ZgG o.out.2.2.2.2.1) (ZgG o.out.2.2.2.2.2) (U.out F t).rats (U.out F t).ok.wide);have M:=zh (zi i U.out);clear i V B2 T aw W R2;go_upto_region 5 with fail;have Y:=below_alloc1 wr (Yg #[Yd Yf l,.func (.func 148) #[] #[Ye (Ya ⟨r,0,Yb⟩),Ye (Ya ⟨O,0,Yb⟩)]] 163);have G:=zh (zi (Blk.start wr #[Yd Yf l,.func (.func 148) #[] #[Ye (Ya ⟨r,0,Yb⟩),Ye (Ya ⟨O,0,Yb⟩)]] 163) Y);clear d0 d1 Y;generalize wr.alloc (Yg #[Yd Yf l,.func (.func 148) #[] #[Ye (Ya ⟨r,0,Yb⟩),Ye (Ya ⟨O,0,Yb⟩)]] 163)=w1 at *;generalize wr.heap.size=bc at *;have f1:=G.out.1.cell 1;go_upto_region 6 with(go_at_call 148;go_loud (go_fit (CF.out _ G.out.2);rintro e5 K ⟨⟨x,y,z,rfl,j⟩,p⟩))
    have N:=below_alloc1 K (Yg #[Yd Yf x,Yd Yf y] 23);have H:=zh ((M.out.2 _ G.out.2|>.keep p).keep N);have X:=zh (Blk.start K #[Yd Yf x,Yd Yf y] 23);have C6:=zh ((G.out.1.keep p).keep N);clear N p f1;generalize K.heap.size=bv at *;generalize K.alloc (Yg #[Yd Yf x,Yd Yf y] 23)=w6 at *;rcases j with⟨rfl,j⟩|⟨C,j⟩
    ·have ov:=ZhR o.out.2.2.2.2 H.out.ok j;have NX:=zh (show Zbe (d.take (k+1)) m0=Ya (m.set l (x,y))from by rw[o.out.2.2.1,show Zd9 (.inl z) m=Ya (x,y)from j];simp);obtain⟨u,u0,u1,q0,q1⟩:=H.out.cells I.out;have D8:=zh (H.out.put l (x,y) ov);have c0:=C6.out.cell 0;have v0:=X.out.cell 0;have v1:=X.out.cell 1;have i5:(0:Int)<=(l:Int):=by omega
     have i6:(l:Int)<8:=by have:=I.out;omega
     clear ov j;go_wp2_with fail;go_roundg (n-(k+1))
     case measure=>have:=o.out.1;have:=o.out.2.1;omega
     case rel=>exact⟨k+1,m.set l (x,y),by push_cast;rfl,by have:=o.out.1;omega,rfl,NX.out,D8.out⟩
    ·have ne:(z != 0)=true:=by simpa using C
     have B:=zh (show ZiO w (Zbe d m0) (.returned (.tuple #[Yc Yb 0 0,Yd Yf z])) w6 from .inr ⟨o.out.2.2.2.1 j,z,ne,rfl,H.out.below⟩);clear j C;go_wp2_with fail;go_ret2;exact B.out
   |inr s=>
    obtain⟨r,vs,rfl,V,T,W,R2⟩:=i;have i:True:=trivial;have CF:=zh (fun(F:Yh) (t:Below wr.heap.size wr F)=>Zrq F (Yc (Ya ⟨g,0,Yb⟩) 8 b) m r vs s (V.keep t) (W.below t) o.out.2.2.2.2 (U.out F t).rats (U.out F t).ok.wide);have M:=zh (zi i U.out);clear i V T W R2;go_upto_region 5 with fail;have Y:=below_alloc1 wr (Yg #[Yd Yf l,.func (.func 121) #[] #[Ye (Ya ⟨r,0,Yb⟩)]] 163);have G:=zh (zi (Blk.start wr #[Yd Yf l,.func (.func 121) #[] #[Ye (Ya ⟨r,0,Yb⟩)]] 163) Y);clear d0 d1 Y;generalize wr.alloc (Yg #[Yd Yf l,.func (.func 121) #[] #[Ye (Ya ⟨r,0,Yb⟩)]] 163)=w1 at *;generalize wr.heap.size=bc at *;have f1:=G.out.1.cell 1;go_upto_region 6 with(go_at_call 121;go_loud (go_fit (CF.out _ G.out.2);rintro e5 K ⟨⟨x,y,z,rfl,j⟩,p⟩))
    have N:=below_alloc1 K (Yg #[Yd Yf x,Yd Yf y] 23);have H:=zh ((M.out.2 _ G.out.2|>.keep p).keep N);have X:=zh (Blk.start K #[Yd Yf x,Yd Yf y] 23);have C6:=zh ((G.out.1.keep p).keep N);clear N p f1;generalize K.heap.size=bv at *;generalize K.alloc (Yg #[Yd Yf x,Yd Yf y] 23)=w6 at *;rcases j with⟨rfl,j⟩|⟨C,j⟩
    ·have ov:=ZhR o.out.2.2.2.2 H.out.ok j;have NX:=zh (show Zbe (d.take (k+1)) m0=Ya (m.set l (x,y))from by rw[o.out.2.2.1,show Zd9 (.inr s) m=Ya (x,y)from j];simp);obtain⟨u,u0,u1,q0,q1⟩:=H.out.cells I.out;have D8:=zh (H.out.put l (x,y) ov);have c0:=C6.out.cell 0;have v0:=X.out.cell 0;have v1:=X.out.cell 1;have i5:(0:Int)<=(l:Int):=by omega
     have i6:(l:Int)<8:=by have:=I.out;omega
     clear ov j;go_wp2_with fail;go_roundg (n-(k+1))
     case measure=>have:=o.out.1;have:=o.out.2.1;omega
     case rel=>exact⟨k+1,m.set l (x,y),by push_cast;rfl,by have:=o.out.1;omega,rfl,NX.out,D8.out⟩
    ·have ne:(z != 0)=true:=by simpa using C
     have B:=zh (show ZiO w (Zbe d m0) (.returned (.tuple #[Yc Yb 0 0,Yd Yf z])) w6 from .inr ⟨o.out.2.2.2.1 j,z,ne,rfl,H.out.below⟩);clear j C;go_wp2_with fail;go_ret2;exact B.out
end
end Go.Proofs.YtbfnnolakggbfaaGreatDoor
