import Derived.Lib.AppendIntMem
import Derived.ProofKit
import Derived.Lib.SmallJoins
import Derived.Laws.IdiomStrings
import Derived.Test.YtolookeddknmoaaGreatQAE
import Derived.Test.YtolookeddknmoaaGreatQAH
set_option maxRecDepth 100000
set_option maxHeartbeats 8000000
namespace Go.Proofs.YtolookeddknmoaaGreat
section
open Go.RowKit
structure Live (w w1:World) (l:List (Nat×Int×Int)):Prop where
 rats:∀ x,x∈l->RatAt w1 x.1 x.2.1 x.2.2
 below:Below w.heap.size w w1
theorem Live.start (w:World):Live w w []:=⟨fun _ h=>(nomatch h),Below.refl _ _⟩
theorem Live.call {w w1 w2:World} {l:List (Nat×Int×Int)} (h:Live w w1 l) (hb:Below w1.heap.size w1 w2):Live w w2 l:=
 ⟨fun x hx=>(h.rats x hx).keep hb,h.below.trans (hb.mono h.below.size)⟩
theorem Live.box {w w1:World} {l:List (Nat×Int×Int)} (h:Live w w1 l) (n d:Int):Live w (w1.alloc (.cells #[.int .i64 n,.int .i64 d] 25)) ((w1.heap.size,n,d)::l):=
 ⟨fun x hx=>by
  rcases List.mem_cons.1 hx with rfl | hx
  ·exact RatAt.start w1 n d _
  ·exact (h.rats x hx).keep (Za _ _),h.below.trans ((Za _ _).mono h.below.size)⟩
theorem Live.boxAt {w w1:World} {l:List (Nat×Int×Int)} (h:Live w w1 l) (n d:Int) (b:Nat) (hb:b=w1.heap.size):Live w (w1.alloc (.cells #[.int .i64 n,.int .i64 d] 25)) ((b,n,d)::l):=by
 rw [hb];exact h.box n d
theorem Live.n {w w1:World} {l:List (Nat×Int×Int)} (h:Live w w1 l) (i:Nat) {b:Nat} {n d:Int} (hi:l[i]? = some (b,n,d)):w1.cell? ⟨b,0,none⟩=some (.int .i64 n):=
 (h.rats _ (List.mem_of_getElem? hi)).k0
theorem Live.d {w w1:World} {l:List (Nat×Int×Int)} (h:Live w w1 l) (i:Nat) {b:Nat} {n d:Int} (hi:l[i]? = some (b,n,d)):w1.cell? ⟨b,1,none⟩=some (.int .i64 d):=
 (h.rats _ (List.mem_of_getElem? hi)).k1
theorem Valid.nought:Valid 0 1:=⟨by decide,by decide,by decide,by decide⟩
theorem Valid.one:Valid 1 1:=⟨by decide,by decide,by decide,by decide⟩
end
section
open Go.RowKit
theorem Zps {w w1 w2:World} {x0 x1:Value} (hb:Below w1.heap.size w1 w2)
  (h:(w1.cell? ⟨w.heap.size,0,none⟩=some x0/\w1.cell? ⟨w.heap.size,1,none⟩=some x1)/\w.heap.size+0<w1.heap.size/\Below w.heap.size w w1) :
  (w2.cell? ⟨w.heap.size,0,none⟩=some x0/\w2.cell? ⟨w.heap.size,1,none⟩=some x1)/\w.heap.size+0<w2.heap.size/\Below w.heap.size w w2:=by
 obtain ⟨⟨a0,a1⟩,g,k⟩:=h
 have hs:=hb.size
 exact ⟨⟨Zf hb (by omega) a0,Zf hb (by omega) a1⟩,by omega,k.trans (hb.mono k.size)⟩
theorem Zon {w w1:World} {A B:Prop} (h:A/\B/\Below w.heap.size w w1):Below w.heap.size w w1:=h.2.2
theorem Zqo {g:Nat}:(Zc g).length=1↔g=1:=by
 constructor
 ·intro h
  have h1:=Zb8 (Zc g)
  rw [Zae,h] at h1
  have:g≠0:=by intro h0;rw [h0,ZaO] at h;simp at h
  omega
 ·intro h
  subst h
  rw [Zbz (by decide),show (1:Nat) / 2=0 by decide,ZaO];rfl
theorem ZaV (n d:Int) (w:World) (h1:-9223372036854775808<=n) (h2:n<=9223372036854775807) (h3:-9223372036854775808<=d) (h4:d<=9223372036854775807) :
  Calls Tryz.prog 31 #[Ze n d] w fun e w'=>e=.returned (.bool (Zas n d))/\Below w.heap.size w w':=by
 have s1:=fun w=>Ze7 n w h1 h2
 have s2:=fun w=>Ze7 d w h3 h4
 have e1:(Zc n.natAbs).length<=298:=Nat.le_trans (ZgX (by omega)) (by decide)
 have e2:(Zc d.natAbs).length<=298:=Nat.le_trans (ZgX (by omega)) (by decide)
 by_cases hd:d<=0
 ·have hr:Zas n d=false:=decide_eq_false (fun h=>by omega)
  rw [hr]
  have t1:decide (d<=0)=true:=decide_eq_true hd
  clear s1 s2 e1 e2 hr h1 h2 h3 h4
  go_enter Tryz.func31,Tryz.ntmps31
  go_wp2_with fail
  go_ret
  exact ⟨rfl,Za _ _⟩
 ·have t1:decide (d<=0)=false:=decide_eq_false hd
  by_cases hn:n=-9223372036854775808
  ·have hr:Zas n d=false:=decide_eq_false (fun h=>h.2.1 hn)
   rw [hr]
   have t2:(n==-9223372036854775808)=true:=by simpa using hn
   clear s1 s2 e1 e2 hr h1 h2 h3 h4 hn
   go_enter Tryz.func31,Tryz.ntmps31
   go_wp2_with fail
   go_ret
   exact ⟨rfl,Za _ _⟩
  ·have t2:(n==-9223372036854775808)=false:=by simpa using hn
   have hr:Zas n d=(((Zc (Nat.gcd n.natAbs d.natAbs)).length:Int)==1):=by
    rw [Bool.eq_iff_iff]
    unfold Zas
    rw [decide_eq_true_iff,beq_iff_eq]
    have:=Zqo (g:=Nat.gcd n.natAbs d.natAbs)
    constructor
    ·intro h;have:=this.2 h.2.2;omega
    ·intro h;exact ⟨by omega,hn,this.1 (by omega)⟩
   rw [hr]
   clear hr hd hn h1 h2 h3 h4
   generalize n.natAbs=N at *
   generalize d.natAbs=D at *
   go_enter Tryz.func31,Tryz.ntmps31
   go_upto_region 3 with fail
   go_region_held3 (fun w'=>(w'.cell? ⟨w.heap.size,0,none⟩=some (.int .i64 n)/\w'.cell? ⟨w.heap.size,1,none⟩=some (.int .i64 d))/\w.heap.size+0<w'.heap.size/\Below w.heap.size w w')
    (first
     | with_reducible assumption
     | with_reducible exact Zps (by with_reducible assumption) (by with_reducible assumption)
     | exact ⟨⟨by go_simp,by go_simp⟩,by simp,(Za _ _).drew⟩)
    (first
     | (go_at_call 68;(with_reducible refine (s1 _).mono ?_);rintro e wa ⟨v1,rfl,hv1,hb1,_⟩)
     | (go_at_call 68;(with_reducible refine (s2 _).mono ?_);rintro e wb ⟨v2,rfl,hv2,hb2,_⟩;have cm:=ZiC wb v1 v2 N D (hv1.below hb2) hv2 e1 e2 0 (Nat.zero_le _) (Zs.any _) (Zs.any _))
     | (go_at_call 67;(with_reducible refine cm.mono ?_);rintro e wc ⟨v3,rfl,hv3,hb3,_⟩;obtain ⟨A3,c3,rfl,_⟩:=hv3))
   go_wp2_with fail
   go_ret
   exact ⟨rfl,Zon (by with_reducible assumption)⟩
end
section
open Go.RowKit
def Zro (n:Int) (d:Nat):List UInt8:=Lib.itoa n++if d=1 then [] else 47::Lib.itoa d
end
section
open Go.RowKit Go.WideShapes Go.ChangeShapes Go.ChangeAt Go.Joins
section
variable {H:Type} {enc:TypeId×Value->H} {P:Program}
theorem Zkk {f:Func} {s:ChangeSpec} {apart fresh handsOn again:Bool} {W W':World} {args:Array Value} {v:Value} {ds gs:List (DataW H)} {before pa pv:List MemPlace}
  (hW:DataW.Whole enc P f.params.toList s.vars apart W args.toList ds gs before)
  (hres:∀ (b:Nat) (sp:Nat->Bool) (hd:Bool),DataW.TrodAll enc P W' b sp hd f.resultTypes.toList (v.resultList f.resultTypes.size) (s.fn H (ds++gs)).results [])
  (hargs:∀ sp:Nat->Bool,(∀ p∈before,sp p.block=true)->DataW.TrodAll enc P W' 0 sp true f.params.toList args.toList (s.fn H (ds++gs)).args pa)
  (hvars:∀ sp:Nat->Bool,(∀ p∈before,sp p.block=true)->DataW.TrodVars enc P W' sp s.vars (s.fn H (ds++gs)).vars pv)
  (hps:before=pa++pv) (hb:Below W.heap.size W W')
  (hok:∀ (j:Nat) (t:TypeId) (r:Value),f.resultTypes[j]? = some t->(v.resultList f.resultTypes.size)[j]? = some r->Value.okWide P W' .any 0 t r) :
  s.post enc P f apart fresh handsOn again W args v W':=by
 have hlt:∀ p∈before,p.block<W.heap.size:=fun p hp=>hW.lt p hp
 have hold:∀ p∈before,(fun b=>decide (b<W.heap.size)) p.block=true:=fun p hp=>by simpa using hlt p hp
 refine ⟨ds,gs,before,[],pa,pv,hW,hres _ _ _,hargs _ hold,hvars _ hold,World.keptBut_mono (fun p hp=>⟨hp,?_⟩) (hb.frame (·∈before)),fun _=>?_⟩
 ·rw [hps,List.mem_append] at hp
  exact Or.inr hp
 ·obtain ⟨_,_,_,_,_,hz,hn⟩:=hW
  refine ⟨hok,_,_,([]++pa)++pv,⟨[]++pa,pv,trodAll_append (hargs _ (fun _ _=>rfl)) (hres _ _ _),hvars _ (fun _ _=>rfl),rfl,?_,?_⟩,?_⟩
  ·intro b off hp
   have hin:MemPlace.cell b off∈before:=by rw [hps];simpa using hp
   rw [hb.frozen (hlt _ hin)]
   exact hz b off hin
  ·intro ha
   have:=hn ha
   rw [hps] at this
   simpa using this
  ·intro p hp _
   rw [hps]
   simpa using hp
end
theorem Tryz.own:ownKnob Tryz.prog.godebug=none:=by kernel_rfl
theorem Tryz.cellsRat:Tryz.prog.cellsOf 25=2:=by kernel_rfl
theorem Zhr {n:Int} (h:(Lit.int .i64 n).wf=true):-9223372036854775808<=n/\n<=9223372036854775807:=by
 simp only [Lit.wf,Bool.and_eq_true,decide_eq_true_eq] at h
 have a:IntKind.i64.min=-9223372036854775808:=by decide
 have b:IntKind.i64.max=9223372036854775807:=by decide
 rw [a,b] at h
 exact h
end
section
open Go.RowKit
theorem ZbE {w w1 w2:World} {x0 x1 y0 y1 z0 z1:Value} (hb:Below w1.heap.size w1 w2)
  (h:(w1.cell? ⟨w.heap.size,0,none⟩=some x0/\w1.cell? ⟨w.heap.size,1,none⟩=some x1/\w1.cell? ⟨w.heap.size+1,0,none⟩=some y0/\w1.cell? ⟨w.heap.size+1,1,none⟩=some y1/\w1.cell? ⟨w.heap.size+1+1,0,none⟩=some z0/\w1.cell? ⟨w.heap.size+1+1,1,none⟩=some z1)/\w.heap.size+2<w1.heap.size/\Below w.heap.size w w1/\(w1.frozen? ⟨w.heap.size+1+1,0,none⟩=false/\w1.frozen? ⟨w.heap.size+1+1,1,none⟩=false)) :
  (w2.cell? ⟨w.heap.size,0,none⟩=some x0/\w2.cell? ⟨w.heap.size,1,none⟩=some x1/\w2.cell? ⟨w.heap.size+1,0,none⟩=some y0/\w2.cell? ⟨w.heap.size+1,1,none⟩=some y1/\w2.cell? ⟨w.heap.size+1+1,0,none⟩=some z0/\w2.cell? ⟨w.heap.size+1+1,1,none⟩=some z1)/\w.heap.size+2<w2.heap.size/\Below w.heap.size w w2/\(w2.frozen? ⟨w.heap.size+1+1,0,none⟩=false/\w2.frozen? ⟨w.heap.size+1+1,1,none⟩=false):=by
 obtain ⟨⟨a0,a1,a2,a3,a4,a5⟩,g,k,⟨m0,m1⟩⟩:=h
 have hs:=hb.size
 exact ⟨⟨Zf hb (by omega) a0,Zf hb (by omega) a1,Zf hb (by omega) a2,Zf hb (by omega) a3,Zf hb (by omega) a4,Zf hb (by omega) a5⟩,by omega,k.trans (hb.mono k.size),⟨Zu hb (by omega) m0,Zu hb (by omega) m1⟩⟩
theorem Zes {w w1:World} {n d m e:Int} (B:Boxes w w1 n d m e):(w1.cell? ⟨w.heap.size,0,none⟩=some (.int .i64 n)/\w1.cell? ⟨w.heap.size,1,none⟩=some (.int .i64 d)/\w1.cell? ⟨w.heap.size+1,0,none⟩=some (.int .i64 m)/\w1.cell? ⟨w.heap.size+1,1,none⟩=some (.int .i64 e)/\w1.cell? ⟨w.heap.size+1+1,0,none⟩=some (.int .i64 0)/\w1.cell? ⟨w.heap.size+1+1,1,none⟩=some (.int .i64 0))/\w.heap.size+2<w1.heap.size/\Below w.heap.size w w1/\(w1.frozen? ⟨w.heap.size+1+1,0,none⟩=false/\w1.frozen? ⟨w.heap.size+1+1,1,none⟩=false):=
 ⟨⟨B.c0,B.c1,B.c2,B.c3,B.i0,B.i1⟩,B.size,B.below,B.j0,B.j1⟩
theorem ZeH {w w1:World} {n d m e:Int} (h:(w1.cell? ⟨w.heap.size,0,none⟩=some (.int .i64 n)/\w1.cell? ⟨w.heap.size,1,none⟩=some (.int .i64 d)/\w1.cell? ⟨w.heap.size+1,0,none⟩=some (.int .i64 m)/\w1.cell? ⟨w.heap.size+1,1,none⟩=some (.int .i64 e)/\w1.cell? ⟨w.heap.size+1+1,0,none⟩=some (.int .i64 0)/\w1.cell? ⟨w.heap.size+1+1,1,none⟩=some (.int .i64 0))/\w.heap.size+2<w1.heap.size/\Below w.heap.size w w1/\(w1.frozen? ⟨w.heap.size+1+1,0,none⟩=false/\w1.frozen? ⟨w.heap.size+1+1,1,none⟩=false)):Boxes w w1 n d m e:=by
 obtain ⟨⟨a0,a1,a2,a3,a4,a5⟩,g,k,m0,m1⟩:=h
 exact ⟨a0,a1,a2,a3,a4,a5,m0,m1,g,k⟩
theorem ZbT {w w1:World} {A C:Prop} (h:A/\w.heap.size+2<w1.heap.size/\C):w.heap.size<w1.heap.size/\w.heap.size+1<w1.heap.size/\w.heap.size+1+1<w1.heap.size:=by
 have:=h.2.1
 omega
theorem Zda {W w2:World} {o:Obj} (hb:Below (W.alloc o).heap.size (W.alloc o) w2):Below W.heap.size W w2:=(Za W o).trans (hb.mono (by simp))
theorem ZcU {W w2:World} {o o':Obj} (hb:Below ((W.alloc o).alloc o').heap.size ((W.alloc o).alloc o') w2):Below W.heap.size W w2:=(ZI W o o').trans (hb.mono (by simp;omega))
theorem Zcu {W w2:World} {x y z:Value} {ty:TypeId} (hb:Below (W.alloc (.cells #[x,y,z] ty)).heap.size (W.alloc (.cells #[x,y,z] ty)) w2):FracBox w2 W.heap.size x y z:=(FracBox.start W x y z ty).keep hb
theorem Zcv {W w2:World} {x y z x' y' z':Value} {ty ty':TypeId} (hb:Below ((W.alloc (.cells #[x,y,z] ty)).alloc (.cells #[x',y',z'] ty')).heap.size ((W.alloc (.cells #[x,y,z] ty)).alloc (.cells #[x',y',z'] ty')) w2) :
  FracBox w2 W.heap.size x y z/\FracBox w2 (W.heap.size+1) x' y' z':=
 ⟨((FracBox.start W x y z ty).keep (Za _ _)).keep hb,by
   have h:=(FracBox.start (W.alloc (.cells #[x,y,z] ty)) x' y' z' ty').keep hb
   rwa [World.size_alloc] at h⟩
theorem Zdb {W w2:World} {x y z:Value} {ty:TypeId} (hb:Below (W.alloc (.cells #[x,y,z] ty)).drew.heap.size (W.alloc (.cells #[x,y,z] ty)).drew w2):FracBox w2 W.heap.size x y z:=Zcu (W:=W.drew) hb
theorem Zdc {W w2:World} {x y z x' y' z':Value} {ty ty':TypeId} (hb:Below ((W.alloc (.cells #[x,y,z] ty)).alloc (.cells #[x',y',z'] ty')).drew.heap.size ((W.alloc (.cells #[x,y,z] ty)).alloc (.cells #[x',y',z'] ty')).drew w2) :
  FracBox w2 W.heap.size x y z/\FracBox w2 (W.heap.size+1) x' y' z':=Zcv (W:=W.drew) hb
theorem Zk.inside {w:World} {B:Nat} {v:Value} {l:List Bool} (h:Zk w v l) (f:Zs B v):0<l.length->∀ k,v.ownBlock=some k->B<=k/\k<w.heap.size:=by
 intro hl k hk
 refine ⟨f k hk,?_⟩
 obtain ⟨A,c,rfl,_,_,h4⟩:=h
 obtain ⟨ad,rfl,hb,_⟩:=h4.2 hl
 have:ad.block=k:=by simpa [Value.ownBlock] using hk
 omega
theorem Zk.alloc_ {w:World} {v:Value} {l:List Bool} (h:Zk w v l) (o:Obj):Zk (w.alloc o) v l:=h.below (Za w o)
theorem Zk.set_ne {w:World} {v:Value} {l:List Bool} (h:Zk w v l) {p:Addr} (hne:0<l.length->∀ k,v.ownBlock=some k->k≠p.block) (x:Value):Zk (w.setCell p x) v l:=by
 obtain ⟨A,c,rfl,h2,h3,h4⟩:=h
 refine ⟨A,c,rfl,h2,h3,h4.1,fun hn=>?_⟩
 obtain ⟨ad,rfl,hb,hc⟩:=h4.2 hn
 have:=hne hn ad.block rfl
 refine ⟨ad,rfl,by rw [World.size_setCell];exact hb,fun j u hu=>?_⟩
 rw [World.cell?_setCell_other _ _ _ _ (fun e=>by have:=congrArg Addr.block e;rw [ZL] at this;omega)]
 exact hc j u hu
theorem Zk.set_out {w:World} {v:Value} {l:List Bool} {B T:Nat} (h:Zk w v l) (hi:0<l.length->∀ k,v.ownBlock=some k->B<=k/\k<T) {p:Addr} (hp:p.block<B\/T<=p.block) (x:Value):Zk (w.setCell p x) v l:=
 h.set_ne (fun hl k hk=>by have:=hi hl k hk;omega) x
theorem FracBox.write {w:World} {b:Nat} {x y z:Value} (h:FracBox w b x y z) (x' y' z':Value):FracBox (((w.setCell ⟨b,0,none⟩ x').setCell ⟨b,1,none⟩ y').setCell ⟨b,2,none⟩ z') b x' y' z':=by
 obtain ⟨m0,m1,m2,m3,m4,m5,m6⟩:=h
 exact ⟨by go_simp,by go_simp,by go_simp,by go_simp,by go_simp,by go_simp,by simpa using m6⟩
theorem FracBox.other {w:World} {b:Nat} {x y z:Value} (h:FracBox w b x y z) {p:Addr} (hp:p.block≠b) (v:Value):FracBox (w.setCell p v) b x y z:=by
 obtain ⟨m0,m1,m2,m3,m4,m5,m6⟩:=h
 have o:=fun (k:Nat)=>World.cell?_setCell_other w p ⟨b,k,none⟩ v (fun e=>by rw [e] at hp;exact hp rfl)
 exact ⟨(o 0).trans m0,(o 1).trans m1,(o 2).trans m2,by rw [World.frozen?_setCell];exact m3,by rw [World.frozen?_setCell];exact m4,by rw [World.frozen?_setCell];exact m5,by rw [World.size_setCell];exact m6⟩
theorem FracBox.alloc {w:World} {b:Nat} {x y z:Value} (h:FracBox w b x y z) (o:Obj):FracBox (w.alloc o) b x y z:=h.keep (Za _ _)
theorem FracBox.start_at {w:World} {b:Nat} (h:w.heap.size=b) (x y z:Value) (ty:TypeId):FracBox (w.alloc (.cells #[x,y,z] ty)) b x y z:=by
 subst h
 exact FracBox.start w x y z ty
def Zeo (v:Value) (l:List Bool) (c:Nat):Prop:=0<l.length->∀ k,v.ownBlock=some k->k≠c
theorem ZaW {v:Value} {l:List Bool} {B T c:Nat} (hi:0<l.length->∀ k,v.ownBlock=some k->B<=k/\k<T) (hp:c<B\/T<=c):Zeo v l c:=
 fun hl k hk=>by have:=hi hl k hk;omega
def Zkq (w:World) (n D m E:Int) (p q:Value) (wx:World):Prop:=∃ b c x1 x2 y1 y2,p=.pointer (some ⟨b,0,none⟩)/\q=.pointer (some ⟨c,0,none⟩)/\b≠c/\w.heap.size+2<b/\w.heap.size+2<c ∧
 FracBox wx b x1 x2 (.bool (decide (n<0)))/\FracBox wx c y1 y2 (.bool (decide (m<0)))/\Zk wx x1 (Zc n.natAbs)/\Zk wx x2 (Zc D.natAbs)/\Zk wx y1 (Zc m.natAbs)/\Zk wx y2 (Zc E.natAbs)/\Boxes w wx n D m E/\Zeo x1 (Zc n.natAbs) c/\Zeo x2 (Zc D.natAbs) c/\Zeo y1 (Zc m.natAbs) c/\Zeo y2 (Zc E.natAbs) c
theorem Zcf {w w1:World} {n D m E:Int} (h:(w1.cell? ⟨w.heap.size,0,none⟩=some (.int .i64 n)/\w1.cell? ⟨w.heap.size,1,none⟩=some (.int .i64 D)/\w1.cell? ⟨w.heap.size+1,0,none⟩=some (.int .i64 m)/\w1.cell? ⟨w.heap.size+1,1,none⟩=some (.int .i64 E)/\w1.cell? ⟨w.heap.size+1+1,0,none⟩=some (.int .i64 0)/\w1.cell? ⟨w.heap.size+1+1,1,none⟩=some (.int .i64 0))/\w.heap.size+2<w1.heap.size/\Below w.heap.size w w1/\(w1.frozen? ⟨w.heap.size+1+1,0,none⟩=false/\w1.frozen? ⟨w.heap.size+1+1,1,none⟩=false)):((w1.drew).cell? ⟨w.heap.size,0,none⟩=some (.int .i64 n)/\(w1.drew).cell? ⟨w.heap.size,1,none⟩=some (.int .i64 D)/\(w1.drew).cell? ⟨w.heap.size+1,0,none⟩=some (.int .i64 m)/\(w1.drew).cell? ⟨w.heap.size+1,1,none⟩=some (.int .i64 E)/\(w1.drew).cell? ⟨w.heap.size+1+1,0,none⟩=some (.int .i64 0)/\(w1.drew).cell? ⟨w.heap.size+1+1,1,none⟩=some (.int .i64 0))/\w.heap.size+2<(w1.drew).heap.size/\Below w.heap.size w (w1.drew)/\((w1.drew).frozen? ⟨w.heap.size+1+1,0,none⟩=false/\(w1.drew).frozen? ⟨w.heap.size+1+1,1,none⟩=false):=⟨h.1,h.2.1,h.2.2.1.drew,h.2.2.2⟩
theorem Zdy {w w1:World} {n D m E:Int} {p:Addr} (hp:w.heap.size+2<p.block) (x:Value) (h:(w1.cell? ⟨w.heap.size,0,none⟩=some (.int .i64 n)/\w1.cell? ⟨w.heap.size,1,none⟩=some (.int .i64 D)/\w1.cell? ⟨w.heap.size+1,0,none⟩=some (.int .i64 m)/\w1.cell? ⟨w.heap.size+1,1,none⟩=some (.int .i64 E)/\w1.cell? ⟨w.heap.size+1+1,0,none⟩=some (.int .i64 0)/\w1.cell? ⟨w.heap.size+1+1,1,none⟩=some (.int .i64 0))/\w.heap.size+2<w1.heap.size/\Below w.heap.size w w1/\(w1.frozen? ⟨w.heap.size+1+1,0,none⟩=false/\w1.frozen? ⟨w.heap.size+1+1,1,none⟩=false)):((w1.setCell p x).cell? ⟨w.heap.size,0,none⟩=some (.int .i64 n)/\(w1.setCell p x).cell? ⟨w.heap.size,1,none⟩=some (.int .i64 D)/\(w1.setCell p x).cell? ⟨w.heap.size+1,0,none⟩=some (.int .i64 m)/\(w1.setCell p x).cell? ⟨w.heap.size+1,1,none⟩=some (.int .i64 E)/\(w1.setCell p x).cell? ⟨w.heap.size+1+1,0,none⟩=some (.int .i64 0)/\(w1.setCell p x).cell? ⟨w.heap.size+1+1,1,none⟩=some (.int .i64 0))/\w.heap.size+2<(w1.setCell p x).heap.size/\Below w.heap.size w (w1.setCell p x)/\((w1.setCell p x).frozen? ⟨w.heap.size+1+1,0,none⟩=false/\(w1.setCell p x).frozen? ⟨w.heap.size+1+1,1,none⟩=false):=by
 obtain ⟨⟨a0,a1,a2,a3,a4,a5⟩,g,k,⟨m0,m1⟩⟩:=h
 have o:=fun (q:Addr) (hq:q.block<=w.heap.size+2)=>World.cell?_setCell_other w1 p q x (fun e=>by rw [e] at hp;omega)
 have h0:w.heap.size<=w.heap.size+2:=by omega
 have h1:w.heap.size+1<=w.heap.size+2:=by omega
 have h2:w.heap.size+1+1<=w.heap.size+2:=by omega
 exact ⟨⟨(o ⟨_,0,none⟩ h0).trans a0,(o ⟨_,1,none⟩ h0).trans a1,(o ⟨_,0,none⟩ h1).trans a2,(o ⟨_,1,none⟩ h1).trans a3,(o ⟨_,0,none⟩ h2).trans a4,(o ⟨_,1,none⟩ h2).trans a5⟩,by rw [World.size_setCell];exact g,k.setCell (by omega) x,by rw [World.frozen?_setCell];exact m0,by rw [World.frozen?_setCell];exact m1⟩
theorem Zbu {n:Nat} (h:n<=9223372036854775807):(Zc n).length<=70:=Nat.le_trans (ZgX (Nat.lt_of_le_of_lt h (by decide))) (by decide)
theorem Zji {N E:Nat} (h1:(Zc N).length<=70) (h2:(Zc E).length<=70):N*E<2 ^ 140:=by
 have h:=Nat.mul_lt_mul'' (ZjK h1) (ZjK h2)
 rwa [<- Nat.pow_add] at h
theorem ZeC {N E:Nat} (h1:(Zc N).length<=70) (h2:(Zc E).length<=70):(Zc (N*E)).length<=298:=Nat.le_trans (ZbF _ 140 (Zji h1 h2)) (by decide)
theorem Zla {N E M D:Nat} {s t:Bool} (h1:(Zc N).length<=70) (h2:(Zc E).length<=70) (h3:(Zc M).length<=70) (h4:(Zc D).length<=70):(Zc (Zbh s (N*E) t (M*D))).length<=298:=by
 have a:=Zji h1 h2
 have b:=Zji h3 h4
 have c:Zbh s (N*E) t (M*D)<=N*E+M*D:=by unfold Zbh;split<;>(try split)<;>omega
 exact Nat.le_trans (ZbF _ 141 (by omega)) (by decide)
theorem ZhR {w w1 w2:World} {b c:Nat} {x1 x2 x3 y1 y2 y3:Value} (hb:Below w1.heap.size w1 w2) (h:(w1.cell? ⟨b,0,none⟩=some x1/\w1.cell? ⟨b,1,none⟩=some x2/\w1.cell? ⟨b,2,none⟩=some x3/\w1.cell? ⟨c,0,none⟩=some y1/\w1.cell? ⟨c,1,none⟩=some y2/\w1.cell? ⟨c,2,none⟩=some y3)/\(w.heap.size+2<b/\w.heap.size+2<c/\b<w1.heap.size/\c<w1.heap.size)/\Below w.heap.size w w1/\(w1.cell? ⟨w.heap.size+1+1,0,none⟩=some (Zi w1 ⟨w.heap.size+1+1,0,none⟩)/\w1.cell? ⟨w.heap.size+1+1,1,none⟩=some (Zi w1 ⟨w.heap.size+1+1,1,none⟩))/\(w1.frozen? ⟨w.heap.size+1+1,0,none⟩=false/\w1.frozen? ⟨w.heap.size+1+1,1,none⟩=false)):(w2.cell? ⟨b,0,none⟩=some x1/\w2.cell? ⟨b,1,none⟩=some x2/\w2.cell? ⟨b,2,none⟩=some x3/\w2.cell? ⟨c,0,none⟩=some y1/\w2.cell? ⟨c,1,none⟩=some y2/\w2.cell? ⟨c,2,none⟩=some y3)/\(w.heap.size+2<b/\w.heap.size+2<c/\b<w2.heap.size/\c<w2.heap.size)/\Below w.heap.size w w2/\(w2.cell? ⟨w.heap.size+1+1,0,none⟩=some (Zi w2 ⟨w.heap.size+1+1,0,none⟩)/\w2.cell? ⟨w.heap.size+1+1,1,none⟩=some (Zi w2 ⟨w.heap.size+1+1,1,none⟩))/\(w2.frozen? ⟨w.heap.size+1+1,0,none⟩=false/\w2.frozen? ⟨w.heap.size+1+1,1,none⟩=false):=by
 obtain ⟨⟨a0,a1,a2,a3,a4,a5⟩,⟨s1,s2,s3,s4⟩,k,⟨i0,i1⟩,⟨j0,j1⟩⟩:=h
 have hs:=hb.size
 exact ⟨⟨Zf hb s3 a0,Zf hb s3 a1,Zf hb s3 a2,Zf hb s4 a3,Zf hb s4 a4,Zf hb s4 a5⟩,⟨s1,s2,by omega,by omega⟩,k.trans (hb.mono k.size),⟨ZJ (Zf hb (by omega) i0),ZJ (Zf hb (by omega) i1)⟩,⟨Zu hb (by omega) j0,Zu hb (by omega) j1⟩⟩
theorem Zex {w w1:World} {b c:Nat} {x1 x2 x3 y1 y2 y3:Value} {o:Nat} {x:Value} (h:(w1.cell? ⟨b,0,none⟩=some x1/\w1.cell? ⟨b,1,none⟩=some x2/\w1.cell? ⟨b,2,none⟩=some x3/\w1.cell? ⟨c,0,none⟩=some y1/\w1.cell? ⟨c,1,none⟩=some y2/\w1.cell? ⟨c,2,none⟩=some y3)/\(w.heap.size+2<b/\w.heap.size+2<c/\b<w1.heap.size/\c<w1.heap.size)/\Below w.heap.size w w1/\(w1.cell? ⟨w.heap.size+1+1,0,none⟩=some (Zi w1 ⟨w.heap.size+1+1,0,none⟩)/\w1.cell? ⟨w.heap.size+1+1,1,none⟩=some (Zi w1 ⟨w.heap.size+1+1,1,none⟩))/\(w1.frozen? ⟨w.heap.size+1+1,0,none⟩=false/\w1.frozen? ⟨w.heap.size+1+1,1,none⟩=false)):((w1.setCell ⟨w.heap.size+1+1,o,none⟩ x).cell? ⟨b,0,none⟩=some x1/\(w1.setCell ⟨w.heap.size+1+1,o,none⟩ x).cell? ⟨b,1,none⟩=some x2/\(w1.setCell ⟨w.heap.size+1+1,o,none⟩ x).cell? ⟨b,2,none⟩=some x3/\(w1.setCell ⟨w.heap.size+1+1,o,none⟩ x).cell? ⟨c,0,none⟩=some y1/\(w1.setCell ⟨w.heap.size+1+1,o,none⟩ x).cell? ⟨c,1,none⟩=some y2/\(w1.setCell ⟨w.heap.size+1+1,o,none⟩ x).cell? ⟨c,2,none⟩=some y3)/\(w.heap.size+2<b/\w.heap.size+2<c/\b<(w1.setCell ⟨w.heap.size+1+1,o,none⟩ x).heap.size/\c<(w1.setCell ⟨w.heap.size+1+1,o,none⟩ x).heap.size)/\Below w.heap.size w (w1.setCell ⟨w.heap.size+1+1,o,none⟩ x)/\((w1.setCell ⟨w.heap.size+1+1,o,none⟩ x).cell? ⟨w.heap.size+1+1,0,none⟩=some (Zi (w1.setCell ⟨w.heap.size+1+1,o,none⟩ x) ⟨w.heap.size+1+1,0,none⟩)/\(w1.setCell ⟨w.heap.size+1+1,o,none⟩ x).cell? ⟨w.heap.size+1+1,1,none⟩=some (Zi (w1.setCell ⟨w.heap.size+1+1,o,none⟩ x) ⟨w.heap.size+1+1,1,none⟩))/\((w1.setCell ⟨w.heap.size+1+1,o,none⟩ x).frozen? ⟨w.heap.size+1+1,0,none⟩=false/\(w1.setCell ⟨w.heap.size+1+1,o,none⟩ x).frozen? ⟨w.heap.size+1+1,1,none⟩=false):=by
 obtain ⟨⟨a0,a1,a2,a3,a4,a5⟩,⟨s1,s2,s3,s4⟩,k,⟨i0,i1⟩,⟨j0,j1⟩⟩:=h
 have q:∀ b o',b≠w.heap.size+1+1->(w1.setCell ⟨w.heap.size+1+1,o,none⟩ x).cell? ⟨b,o',none⟩=w1.cell? ⟨b,o',none⟩:=fun b o' hb=>World.cell?_setCell_other _ _ _ _ (by intro e;injection e with e;exact hb e.symm)
 exact ⟨⟨(q _ _ (by omega)).trans a0,(q _ _ (by omega)).trans a1,(q _ _ (by omega)).trans a2,(q _ _ (by omega)).trans a3,(q _ _ (by omega)).trans a4,(q _ _ (by omega)).trans a5⟩,⟨s1,s2,by rw [World.size_setCell];exact s3,by rw [World.size_setCell];exact s4⟩,k.setCell (by show w.heap.size<=w.heap.size+1+1;omega) _,⟨Zap i0,Zap i1⟩,⟨by rw [World.frozen?_setCell];exact j0,by rw [World.frozen?_setCell];exact j1⟩⟩
theorem Zka {w w1:World} {n D m E:Int} {b c:Nat} {x1 x2 x3 y1 y2 y3:Value} (BX:Boxes w w1 n D m E) (F:FracBox w1 b x1 x2 x3) (G:FracBox w1 c y1 y2 y3) (hb:w.heap.size+2<b) (hc:w.heap.size+2<c):((w1.drew).cell? ⟨b,0,none⟩=some x1/\(w1.drew).cell? ⟨b,1,none⟩=some x2/\(w1.drew).cell? ⟨b,2,none⟩=some x3/\(w1.drew).cell? ⟨c,0,none⟩=some y1/\(w1.drew).cell? ⟨c,1,none⟩=some y2/\(w1.drew).cell? ⟨c,2,none⟩=some y3)/\(w.heap.size+2<b/\w.heap.size+2<c/\b<(w1.drew).heap.size/\c<(w1.drew).heap.size)/\Below w.heap.size w (w1.drew)/\((w1.drew).cell? ⟨w.heap.size+1+1,0,none⟩=some (Zi (w1.drew) ⟨w.heap.size+1+1,0,none⟩)/\(w1.drew).cell? ⟨w.heap.size+1+1,1,none⟩=some (Zi (w1.drew) ⟨w.heap.size+1+1,1,none⟩))/\((w1.drew).frozen? ⟨w.heap.size+1+1,0,none⟩=false/\(w1.drew).frozen? ⟨w.heap.size+1+1,1,none⟩=false):=
 ⟨⟨F.k0,F.k1,F.k2,G.k0,G.k1,G.k2⟩,⟨hb,hc,F.lt,G.lt⟩,BX.below.drew,⟨ZJ BX.i0,ZJ BX.i1⟩,⟨BX.j0,BX.j1⟩⟩
theorem ZhM {w w1:World} (h:Below w.drew.heap.size w.drew w1):Below w.heap.size w w1:=(Zq w).trans h
theorem Zju {w w1:World} {x y:Value} {A B F:Prop} {f:World} (hf:f=(w1.setCell ⟨w.heap.size+1+1,0,none⟩ x).setCell ⟨w.heap.size+1+1,1,none⟩ y)
  (h:A/\B/\Below w.heap.size w f/\(f.cell? ⟨w.heap.size+1+1,0,none⟩=some (Zi f ⟨w.heap.size+1+1,0,none⟩)/\f.cell? ⟨w.heap.size+1+1,1,none⟩=some (Zi f ⟨w.heap.size+1+1,1,none⟩))/\F) :
  f.cell? ⟨w.heap.size+1+1,0,none⟩=some x/\f.cell? ⟨w.heap.size+1+1,1,none⟩=some y/\Below w.heap.size w f:=by
 obtain ⟨_,_,k,⟨i0,i1⟩,_⟩:=h
 subst hf
 refine ⟨?_,i1.trans (congrArg some (ZbA i1)),k⟩
 have e:=i0
 rw [ZfL (by decide)] at e
 exact i0.trans (congrArg some (ZbA e))
end
section
open Go.RowKit
structure HoleAt (w w1:World):Prop where
 i0:w1.cell? ⟨w.heap.size,0,none⟩=some (.int .i64 0)
 i1:w1.cell? ⟨w.heap.size,1,none⟩=some (.int .i64 0)
 j0:w1.frozen? ⟨w.heap.size,0,none⟩=false
 j1:w1.frozen? ⟨w.heap.size,1,none⟩=false
 lt:w.heap.size<w1.heap.size
 below:Below w.heap.size w w1
theorem HoleAt.start (w:World) (ty:TypeId):HoleAt w (w.alloc (.cells #[.int .i64 0,.int .i64 0] ty)) where
 i0:=by go_simp
 i1:=by go_simp
 j0:=by go_simp
 j1:=by go_simp
 lt:=by simp
 below:=Za _ _
theorem HoleAt.keep {w w1 w2:World} (h:HoleAt w w1) (hb:Below w1.heap.size w1 w2):HoleAt w w2:=
 have z:=hb.size
 have l:=h.lt
 {i0:=Zf hb l h.i0,i1:=Zf hb l h.i1,j0:=Zu hb l h.j0,j1:=Zu hb l h.j1,lt:=by omega,below:=h.below.trans (hb.mono h.below.size) }
end
section
open Go.RowKit
theorem Live.three {w w1:World} {l:List (Nat×Int×Int)} (h:Live w w1 l) (i j k:Nat) {b0 b1 b2:Nat} {n0 d0 n1 d1 n2 d2:Int} (h0:l[i]? = some (b0,n0,d0)) (h1:l[j]? = some (b1,n1,d1)) (h2:l[k]? = some (b2,n2,d2)) :
  (w1.cell? ⟨b0,0,none⟩=some (.int .i64 n0)/\w1.cell? ⟨b0,1,none⟩=some (.int .i64 d0)/\w1.cell? ⟨b1,0,none⟩=some (.int .i64 n1)/\w1.cell? ⟨b1,1,none⟩=some (.int .i64 d1) ∧
   w1.cell? ⟨b2,0,none⟩=some (.int .i64 n2)/\w1.cell? ⟨b2,1,none⟩=some (.int .i64 d2))/\Live w w1 l:=
 ⟨⟨h.n i h0,h.d i h0,h.n j h1,h.d j h1,h.n k h2,h.d k h2⟩,h⟩
end
end Go.Proofs.YtolookeddknmoaaGreat
