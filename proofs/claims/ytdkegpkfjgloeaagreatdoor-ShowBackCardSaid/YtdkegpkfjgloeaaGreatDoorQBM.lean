import Derived.Test.YtdkegpkfjgloeaaGreatDoorQAI
import Derived.Test.YtdkegpkfjgloeaaGreatDoorQBL
set_option maxRecDepth 100000
set_option maxHeartbeats 8000000
open Option renaming some → Ya, none → Yb
open Go.Value renaming slice → Yc, int → Yd, pointer → Ye
open Go.IntKind renaming i64 → Yf
open Go renaming World → Yh, Value → Yi
open Go.RowKit
namespace Go.Proofs.YtdkegpkfjgloeaaGreatDoor
theorem ZmG (i w:Yh) (b u f:Nat) (t:Txt) (q:Yi) (ns:List Nd) (x:NdV×Nd) (h:PrS i w b t u q) (hN:Zi i q ns) (hx:ZU i x) (hE:ZbM i ns f) (s:Txt) (r:List Txt) (k:Nat) (hn:x.2.words=s::r) (O:x.2.kids[0]? = Ya (k:Int)) (v:k<ns.length) (hv:ZZ ns f (Zb ns k)) (H:t.length+(Zfv ns f x.2).length+100<=140737488355328) :
  Calls Tryz.prog 83 #[Ye (Ya ⟨b,0,Yb⟩),ndX x] w fun e w'=>e=.returned (.tuple #[])/\PrS i w' b (t++Zfv ns f x.2) u q/\Fr w w' b:=by
 have hq:=hx;obtain⟨⟨vw,vu,vk⟩,o,c,a,d,p⟩:=x;obtain⟨hw,hu,G⟩:=hx;dsimp only at hn O hw hu G H⊢;obtain⟨J,F,rfl,Y,Z,hW,S⟩:=hw;obtain⟨B,E,rfl,V,W,hU⟩:=hu;obtain⟨A,D,rfl,T,U,hK⟩:=G;have R:=below_alloc1 w (.cells #[Yd Yf o,Yc J c.length F,Yc B a.length E,Yc A d.length D,Yd Yf p] 36);have K:Zk _ _ _ _:=Zk.start w #[Yd Yf o,Yc J c.length F,Yc B a.length E,Yc A d.length D,Yd Yf p] 36;have Q:=h.keep R;obtain⟨z,P⟩:∃z,ns[k]? = Ya z:=⟨_,Ym v⟩
 have he:Zfv ns f ⟨o,c,a,d,p⟩=s++[32,61,32]++ZH ns f z++[59]:=by unfold Zfv word;rw[ZcM (n:=⟨o,c,a,d,p⟩) O P];dsimp only;rw[hn];rfl
 rw[ZbZ P]at hv;rw[he]at H⊢;simp only[Yj,Yk,Yl]at H;obtain⟨c0,c1,c2,c3,c4⟩:=Zm (x:=((Yc J c.length F,Yc B a.length E,Yc A d.length D),⟨o,c,a,d,p⟩)) (K);dsimp only at c0 c1 c2 c3 c4;generalize X:w.alloc (.cells #[Yd Yf o,Yc J c.length F,Yc B a.length E,Yc A d.length D,Yd Yf p] 36)=j at *;obtain⟨N,rfl,u0⟩:=ZbR (k:=0) (x:=s) hW (Q.keep (Zp j)).below (by rw[hn];rfl) (by rw[hn];exact Nat.succ_pos _);have u1:j.drew.cell? N=Ya (txt s):=u0;have u2:j.cell? N=Ya (txt s):=u0;have bj:0<c.length:=by rw[hn];exact Nat.succ_pos _
 obtain⟨d0,d1,d2,d3,d4⟩:=Zm (x:=((Yc (Ya N) c.length F,Yc B a.length E,Yc A d.length D),⟨o,c,a,d,p⟩)) (K.keep (Zp j));dsimp only at d0 d1 d2 d3 d4;have AD:=zh (Zdp i j.drew b u t q s [32,61,32] (Q.keep (Zp j)) (by simp only[Yk,Yl];omega));have g:=zh (zi R (zi (K.keep (Zp j)) (zi hq (zi hN (zi hE (zi H (Q.keep (Zp j))))))));have M:=zh (zi O (zi v (zi P hv)));clear Q K R hq Y Z hW S V W hU T U hK h H he u0 hn O v P hv hE hN;go_enter Tryz.func83,Tryz.ntmps83;go_upto_region 1 with fail;go_region_with (go_at_call 32;(refine AD.out.mono ?_);rintro e w3 ⟨rfl,m,l⟩;have L:=zh (zi m l);clear m l);have K3:=L.out.2.at_ _ _ _ (ZdZ g.out.2.2.2.2.2.2 g.out.2.1) (by decide) g.out.2.1;obtain⟨b0,b1,b2,b3,b4⟩:=Zm (x:=((Yc (Ya N) c.length F,Yc B a.length E,Yc A d.length D),⟨o,c,a,d,p⟩)) (K3);dsimp only at b0 b1 b2 b3 b4;have KI:=zh (Zcf i w3 b u _ q ns _ 0 k ⟨L.out.1,g.out.2.2.2.1⟩ g.out.2.2.1 M.out.1 M.out.2.1);clear K3
 go_upto_region 3 with(first
  |(go_at_call 38;(refine KI.out.mono ?_);rintro e w4 ⟨y,rfl,hy,I,hb⟩;have ey:y.2=z:=Option.some.inj (hy.symm.trans M.out.2.2.1);have C:=zh (zi I (zi hb ey));clear hy I hb ey;have EX:=zh (g.out.2.2.2.2.1 w4 b u _ q y (L.out.1.keep C.out.2.1) g.out.2.2.2.1 C.out.1 (C.out.2.2▸M.out.2.2.2) (by rw[C.out.2.2];have:=g.out.2.2.2.2.2.1;simp only[Yj,Yk,Yl];omega)))
  |(go_at_call 88;(refine EX.out.mono ?_);rintro e w5 ⟨rfl,m,l⟩;have H5:=zh (zi (show PrS i w5 b (t++(s++[32,61,32])++ZH ns f z) u q from C.out.2.2▸m) l);clear m l))
 have AE:=zh (Zas i w5 b u _ q [59] H5.out.1 (by have:=g.out.2.2.2.2.2.1;simp only[Yj,Yk,Yl];omega));go_wp2_with (go_at_call 32;(refine AE.out.mono ?_);rintro e w6 ⟨rfl,m,l⟩;have H6:=zh (zi m l);clear m l);go_end0;refine⟨rfl,?_,(((((Fr.of_below b (X▸g.out.1)).trans (Fr.of_below b (Zp j))).trans L.out.2).trans (Fr.of_below b C.out.2.1)).trans H5.out.2).trans H6.out.2⟩;have:=H6.out.1;simp only[List.append_assoc]at this⊢;exact this
theorem ZeF (s x:Txt) (r:List Txt):Zap s (x::r)=x++Lib.joinTail s r:=by
 induction r generalizing x with
 |nil=>simp[Zap,Lib.joinTail]
 |cons y r a=>rw[Zap,a y];simp[Lib.joinTail,List.append_assoc]
theorem ZjV (s:Txt) (l:List Txt):Zap s l=Lib.join l s:=by
 cases l with
 |nil=>rfl
 |cons x r=>rw[ZeF,Lib.join_cons]
theorem Zio (s:Txt) (a:0<s.length) (l:List Txt):l.length<=(Zap s l).length+1:=by
 cases l with
 |nil=>simp
 |cons x r=>
  rw[ZeF,Yj,Yk];have:r.length<=(Lib.joinTail s r).length:=by
   unfold Lib.joinTail
   induction r with
   |nil=>simp
   |cons y r b=>simp only[List.map_cons,List.flatten_cons,Yj,Yk];omega
  omega
theorem Zjg {w:Yh} {A:Option Addr} {n:Nat} {l:List Int} {x:Int} (c:ZO w w.heap.size 1 A n (l.map (Value.int Yf))) (hx:l[0]? = Ya x) (hn:0<n):∃a,A=Ya a/\∀W:Yh,Below w.heap.size w W->W.cell? a=Ya (Yd Yf x):=by obtain⟨a,e,b,hc⟩:=c.2 hn;exact⟨a,e,fun W d=>(d.cell (p:=a) b).trans (hc 0 _ (by rw[List.getElem?_map,hx];rfl))⟩
theorem Zew {a W:Yh} {g k:Nat} {l:List Txt} {s:Txt} (h:ZaP a g l) (b:Below a.heap.size a W) (hk:l[k]? = Ya s):W.cell? ⟨g,k,Yb⟩=Ya (txt s):=by obtain⟨t,c,e⟩:=h.below b;simp[World.cell?,e,hk]
theorem Zn5 {w:Yh} {A:Option Addr} {l:List Txt} (h:ZO w w.heap.size 1 A l.length (l.map txt)) (d:0<l.length):∃b o,A=Ya ⟨b,o,Yb⟩/\b<w.heap.size/\∀j s,l[j]? = Ya s->w.cell? ⟨b,o+j,Yb⟩=Ya (txt s):=by
 obtain⟨⟨b,o,g⟩,e,i,hc⟩:=h.2 d;have a:=hc 0 (txt l[0]) (by rw[List.getElem?_map,Ym d];rfl);have c:g=Yb:=by
  cases g with
  |none=>rfl
  |some v=>
   exfalso;unfold World.cell? Addr.add at a;simp at a
   split at a<;>simp at a
 subst c;refine⟨b,o,e,i,fun j s k=>?_⟩;have:=hc j (txt s) (by rw[List.getElem?_map,k];rfl);unfold Addr.add at this;by_cases f:j=0
 ·subst f;simpa using this
 ·rw[Yn f]at this;exact this
theorem Zid (g W:Yh) (A:Option Addr) (c:Nat) (l:List Txt) (h:ZO g g.heap.size 1 A l.length (l.map txt)) (r:0<l.length) (m:l.length<=140737488355328) (hc:l.length<=c) (n:Below g.heap.size g W) (hm:(Zap [124] l).length<=140737488355328) :
  Calls Tryz.prog 82 #[Yc A l.length c,.string ⟨#[124]⟩] W fun e w'=>e=.returned (txt (Zap [124] l))/\Below W.heap.size W w':=by
 obtain⟨b,o,rfl,d,i⟩:=Zn5 h r;have f:(l.map fun s=>(⟨s.toArray⟩:ByteArray)).map (·.data.toList)=l:=by rw[List.map_map];exact List.map_id'' (fun _=>rfl) l
 have k:=Tryz.strings_Join b o c (l.map fun s=>(⟨s.toArray⟩:ByteArray)) ⟨#[124]⟩ W (fun j x a=>by
  rw[List.getElem?_map]at a;cases e:l[j]? with
  |none=>rw[e]at a;cases a
  |some s=>
   rw[e]at a;obtain rfl:=Option.some.inj a
   exact(n.cell (p:=⟨b,o+j,Yb⟩) d).trans (i j s e)) (Nat.lt_of_lt_of_le d n.size) (by rw[List.length_map];exact m) (by rw[List.length_map];exact hc) (by rw[f];rw[ZjV]at hm;exact hm)
 rw[List.length_map]at k;refine k.mono fun e w' q=>⟨?_,q.2⟩;rw[q.1,f,ZjV]
def Zch:List Txt:=[ZcX 0,ZcX 1,ZcX 2]
theorem ZlC (d:Nat) (l:List Txt) (x:Txt):Zbv d (l++[x])=Zbv d l++(Zc9 d++x++[10]):=by unfold Zbv;rw[List.map_append,List.flatten_append];simp
theorem ZjD (d:Nat) (l:List Txt) (k:Nat) (x:Txt) (h:l[k]? = Ya x):Zbv d (l.take (k+1))=Zbv d (l.take k)++(Zc9 d++x++[10]):=by rw[List.take_add_one,h];exact ZlC d _ x
theorem ZoX (d:Nat) (l:List Txt) (k:Nat):(Zbv d (l.take k)).length<=(Zbv d l).length:=by
 have e:Zbv d l=Zbv d (l.take k)++Zbv d (l.drop k):=by unfold Zbv;rw[<-List.flatten_append,<-List.map_append,List.take_append_drop]
 rw[e,Yj];omega
def Enters (F:Nat):Prop:=∀(args:Array Yi) (w:Yh),Sem.run Tryz.prog (callFunc F args) w=.ok (.enter F args) w
def ZcZ (F:Nat) (b:Yh) (ns:List Nd) (d:Nat) (g:Nd->Prop) (T:Nd->Txt):Prop:=
 ∀(w:Yh) (a:Nat) (t:Txt) (c:Yi) (x:NdV×Nd),PrS b w a t d c->Zi b c ns->ZU b x->g x.2->t.length+(T x.2).length+10000<=140737488355328 ->
  Calls Tryz.prog F #[Ye (Ya ⟨a,0,Yb⟩),ndX x] w fun e f=>e=.returned (.tuple #[])/\PrS b f a (t++T x.2) d c/\Fr w f a
theorem ZjE (F:Nat) (hF:Enters F) (j w:Yh) (d b:Nat) (t:Txt) (Z:Yi) (ns:List Nd) (A:Option Addr) (c:Nat) (a:List Int) (Ok:Nd->Prop) (T:Nd->Txt) (h:PrS j w d t b Z) (U:Zi j Z ns) (hd:b<=4000)
  (hK:ZO j j.heap.size 1 A a.length (a.map (Value.int Yf))) (J:a.length<=maxLen) (K:Zae ns a Ok) (hE:ZcZ F j ns b Ok T) (hl:t.length+(Zbv b (a.map fun k=>T (Zb ns k))).length+10000<=140737488355328) :
  Calls Tryz.prog 14 #[Ye (Ya ⟨d,0,Yb⟩),Yc A a.length c,.func (.func F) #[Ye (Ya ⟨d,0,Yb⟩)] #[]] w fun e w'=>e=.returned (.tuple #[])/\PrS j w' d (t++Zbv b (a.map fun k=>T (Zb ns k))) b Z/\Fr w w' d:=by
 obtain⟨An,cn,rs,rfl,_,I,hm,hR,H⟩:=id U;generalize hL:(a.map fun k=>T (Zb ns k))=L at *;have i:=zh (zi h (zi U (zi hd (zi hK (zi J (zi K (zi hE (zi hl hL))))))));have P:=zh (zi I (zi hm (zi hR H)));clear h U hd hK J K hE hl hL I hm hR H;go_enter Tryz.func14,Tryz.ntmps14;go_wp2_with fail;go_loopg [10] a.length (fun g Y wr=>∃k:Nat,Y=Yd Yf k/\k<=a.length/\g=a.length-k/\PrS j wr d (t++Zbv b (L.take k)) b (Yc An ns.length cn)/\Fr w wr d)
 case atStart=>exact⟨0,rfl,Nat.zero_le _,rfl,by simpa[Zbv]using i.out.1,Fr.refl _ _⟩
 case round=>
  obtain⟨k,rfl,hk,V,B,hF⟩:=hrel;by_cases q:k=a.length
  ·have j1:decide (k<a.length)=false:=decide_eq_false (by omega);have j2:¬((k:Int)<(a.length:Int)):=by omega
   have S:=zh (zi (show PrS j wr d (t++Zbv b L) b (Yc An ns.length cn)by rw[show L.take k=L by rw[<-i.out.2.2.2.2.2.2.2.2,q,List.take_of_length_le];rw[List.length_map];exact Nat.le_refl _]at B;exact B) hF);clear hk V B hF q;go_wp2_with fail;go_end0;exact⟨rfl,S.out⟩
  ·have s:k<a.length:=by omega
   obtain⟨y,Q⟩:∃y,a[k]? = Ya y:=⟨_,Ym s⟩
   obtain⟨M,W,N⟩:=i.out.2.2.2.2.2.1 y (List.mem_of_getElem? Q);obtain⟨n,rfl⟩:=Int.eq_ofNat_of_zero_le M;have u:n<ns.length:=by omega
   obtain⟨r,hr⟩:∃r,rs[n]? = Ya r:=⟨_,Ym (by rw[<-P.out.2.1,List.length_map]at u;exact u)⟩
   have z:ns[n]? = Ya r.2:=by rw[<-P.out.2.1,List.getElem?_map,hr];rfl
   have p:L[k]? = Ya (T r.2):=by rw[<-i.out.2.2.2.2.2.2.2.2,List.getElem?_map,Q];exact congrArg Ya (congrArg T (ZbZ z))
   obtain⟨ak,rfl,q0⟩:=ints_at i.out.2.2.2.1 B.below Q (by omega);have j1:(k:Int)<(a.length:Int):=by omega
   have j0:(0:Int)<=(k:Int):=by omega
   have wk:IntKind.i64.wrap ((k:Int)+1)=(k:Int)+1:=IntWalk.i64_in _ (by have:=i.out.2.2.2.2.1;have e:maxLen=9223372036854775807:=rfl;omega);have i0:(0:Int)<=(n:Int):=by omega
   have i1:(n:Int)<(ns.length:Int):=by omega
   have m:t.length+(Zbv b (L.take k)).length+(Zc9 b).length+(T r.2).length+1+10000<=140737488355328:=by have e1:=ZjD b L k _ p;have e2:=ZoX b L (k+1);have e3:=i.out.2.2.2.2.2.2.2.1;rw[e1]at e2;simp only[Yj,Yk,Yl]at e2;omega
   have IN:=zh (ZiF j wr d b _ _ B i.out.2.2.1 (by rw[Yj];omega));have f:=zh (zi s (zi V (zi hF (zi hr (zi p (zi m ((ZbZ z)▸N)))))));clear q s hk V hF B Q M W N u z p m;obtain⟨⟨yw,yu,yk⟩,au,bb,X,av,a6⟩:=r;have HY:=zh (P.out.2.2.2 _ (List.mem_of_getElem? f.out.2.2.2.1));obtain⟨D,E,G⟩:=HY.out;dsimp only at D E G;obtain⟨Bw,dw,rfl,_⟩:=D;obtain⟨Bu,du,rfl,_⟩:=E;obtain⟨Bk,dk,rfl,_⟩:=G;go_upto_region 4 with(go_at_call 31;(refine IN.out.mono ?_);rintro e w1 ⟨rfl,o,l⟩;have O:=zh (zi o l);clear o l)
   obtain⟨an,rfl,n0,n1,n2,n3,n4⟩:=ZaG P.out.2.2.1 O.out.1.below f.out.2.2.2.1 (by omega);dsimp only at n0 n1 n2 n3 n4;obtain⟨v,hv,_⟩:=O.out.1.box;have c2:=hv.blk.cell 2;simp only[List.getElem?_toArray,List.getElem?_cons_zero,List.getElem?_cons_succ]at c2;clear hv;have R:=zh (i.out.2.2.2.2.2.2.1 w1 d _ _ _ O.out.1 i.out.2.1 HY.out f.out.2.2.2.2.2.2 (by have:=f.out.2.2.2.2.2.1;simp only[Yj];omega));unfold ndX at R;dsimp only at R;have C:=hF;unfold Enters at C;go_upto_region 5 with(with_reducible refine R.out.mono ?_;rintro e w2 ⟨rfl,o,l⟩;have H2:=zh (zi o l);clear o l)
   have AD:=zh (Zas j w2 d b _ _ [10] H2.out.1 (by have:=f.out.2.2.2.2.2.1;simp only[Yj,Yk,Yl];omega));go_wp2_with (go_at_call 32;(refine AD.out.mono ?_);rintro e w3 ⟨rfl,o,l⟩;have H3:=zh (zi o l);clear o l);go_roundg (a.length-(k+1))
   case measure=>have:=f.out.1;have:=f.out.2.1;omega
   case rel=>
    refine⟨k+1,by push_cast;rfl,f.out.1,rfl,?_,((f.out.2.2.1.trans O.out.2).trans H2.out.2).trans H3.out.2⟩;rw[ZjD b L k _ f.out.2.2.2.2.1];have:=H3.out.1;simp only[List.append_assoc]at this⊢;exact this
theorem PrS.deep {f w:Yh} {a g:Nat} {t:Txt} {e:Yi} (h:PrS f w a t g e) (d:Nat):PrS f (w.setCell ⟨a,1,Yb⟩ (Yd Yf (d:Int))) a t d e:=by obtain⟨v,b,c⟩:=h.box;exact⟨⟨v,by simpa using b.set 1 (Yd Yf (d:Int)),ZdH c (b.off c (by decide))⟩,h.below.setCell h.ge _,h.ge⟩
theorem Fr.cell (w:Yh) (a i:Nat) (v:Yi):Fr w (w.setCell ⟨a,i,Yb⟩ v) a:=
 ⟨by simp[World.setCell],fun b g f c _ d=>Zk.other d (fun e=>c e.symm) _⟩
theorem PrS.cells {i w:Yh} {a e:Nat} {t:Txt} {f:Yi} (h:PrS i w a t e f):w.cell? ⟨a,1,Yb⟩=Ya (Yd Yf e)/\w.frozen? ⟨a,1,Yb⟩=false/\w.cell? ⟨a,2,Yb⟩=Ya f:=by obtain⟨v,b,_⟩:=h.box;have c:=b.blk.cell 1;have d:=b.blk.cell 2;have g:=b.blk.free 1;simp only[List.getElem?_toArray,List.getElem?_cons_zero,List.getElem?_cons_succ]at c d;exact⟨c,g,d⟩
theorem ZgF (F:Nat) (hF:Enters F) (i w:Yh) (j b:Nat) (t:Txt) (l:Yi) (ns:List Nd) (A:Option Addr) (c:Nat) (g:List Int) (B:Nd->Prop) (T:Nd->Txt) (h:PrS i w j t b l) (E:Zi i l ns) (hd:b<4000)
  (D:ZO i i.heap.size 1 A g.length (g.map (Value.int Yf))) (m:g.length<=maxLen) (o:Zae ns g B) (C:ZcZ F i ns (b+1) B T) (n:t.length+(ZX b (g.map fun k=>T (Zb ns k))).length+10000<=140737488355328) :
  Calls Tryz.prog 33 #[Ye (Ya ⟨j,0,Yb⟩),Yc A g.length c,.func (.func F) #[Ye (Ya ⟨j,0,Yb⟩)] #[]] w fun e w'=>e=.returned (.tuple #[])/\PrS i w' j (t++ZX b (g.map fun k=>T (Zb ns k))) b l/\Fr w w' j:=by
 by_cases q:g=[]
 ·subst q;have e1:ZX b (([]:List Int).map fun k=>T (Zb ns k))=[32,123,32,125]:=rfl;rw[e1]at n⊢;have u:=zh (Zas i w j b t l [32,123,32,125] h (by simp only[Yk,Yl]at n⊢;omega));have t0:(((([]:List Int).length:Nat):Int)==0)=true:=rfl;clear n e1 C o m D E h;go_enter Tryz.func33,Tryz.ntmps33;go_wp2_with (go_at_call 32;(refine u.out.mono ?_);rintro e s ⟨rfl,f,d⟩;have p:=zh (zi f d);clear f d);refine bodyPost_ret (v:=.tuple #[]) (results_none (by kernel_rfl) _ _ _) rfl ⟨rfl,p.out⟩
 ·have e1:ZX b (g.map fun k=>T (Zb ns k))=[32,123,10]++Zbv (b+1) (g.map fun k=>T (Zb ns k))++Zc9 b++[125]:=by
   cases g with
   |nil=>exact absurd rfl q
   |cons a r=>rfl
  rw[e1]at n⊢;simp only[Yj,Yk,Yl]at n;have t0:((g.length:Int)==0)=false:=by
   cases g with
   |nil=>exact absurd rfl q
   |cons a r=>rw[beq_eq_false_iff_ne];simp only[Yk];omega
  have wd:IntKind.i64.wrap ((b:Int)+1)=((b+1:Nat):Int):=(IntWalk.i64_in _ (by omega)).trans (by push_cast;rfl);have Q:IntKind.i64.wrap (((b+1:Nat):Int)-1)=(b:Int):=(IntWalk.i64_in _ (by omega)).trans (by push_cast;omega);have R:IntKind.i64.wrap (b:Int)=(b:Int):=IntWalk.i64_in _ (by omega);have S:wrap64 (b:Int)=(b:Int):=IntWalk.wrap64_in _ (by omega);have u:=zh (Zas i w j b t l [32,123,10] h (by simp only[Yk,Yl];omega));have J:=zh (fun(s:Yh) (O:PrS i s j (t++[32,123,10]) (b+1) l)=>ZjE F hF i s j (b+1) _ l ns A c g B T O E (by omega) D m o C (by simp only[Yj,Yk,Yl];omega));have z:=zh (zi n hd);clear q e1 C o m D E h hd n;go_enter Tryz.func33,Tryz.ntmps33;go_upto_region 3 with(go_at_call 32;(refine u.out.mono ?_);rintro e s ⟨rfl,f,d⟩;have p:=zh (zi f d);clear f d)
  obtain⟨U,Y,V⟩:=p.out.1.cells;have M:=zh (p.out.1.deep (b+1));have L:=zh (J.out _ M.out);go_upto_region 5 with(go_at_call 14;(refine L.out.mono ?_);rintro e w3 ⟨rfl,f,d⟩;have y:=zh (zi f d);clear f d)
  obtain⟨W,Z,X⟩:=y.out.1.cells;have N:=zh (y.out.1.deep b);have K:=zh (ZiF i _ j b _ l N.out (by have:=z.out.2;omega) (by have:=z.out.1;simp only[Yj,Yk,Yl];omega));go_upto_region 7 with(go_at_call 31;(refine K.out.mono ?_);rintro e P ⟨rfl,f,d⟩;have G:=zh (zi f d);clear f d)
  have I:=zh (Zas i P j b _ l [125] G.out.1 (by have:=z.out.1;simp only[Yj,Yk,Yl];omega));go_wp2_with (go_at_call 32;(refine I.out.mono ?_);rintro e w6 ⟨rfl,f,d⟩;have H:=zh (zi f d);clear f d);go_end0;refine⟨rfl,?_,((((p.out.2.trans (Fr.cell _ _ _ _)).trans y.out.2).trans (Fr.cell _ _ _ _)).trans G.out.2).trans H.out.2⟩;have:=H.out.1;simp only[List.append_assoc]at this⊢;exact this
theorem Zhm (s:Txt) (a b:List Txt):Lib.joinTail s (a++b)=Lib.joinTail s a++Lib.joinTail s b:=by unfold Lib.joinTail;rw[List.map_append,List.flatten_append]
theorem ZpF (s:Txt) (l:List Txt) (x:Txt) (h:l≠[]):Zap s (l++[x])=Zap s l++s++x:=by
 cases l with
 |nil=>exact absurd rfl h
 |cons a r=>rw[List.cons_append,ZeF,ZeF,Zhm];simp[Lib.joinTail]
theorem ZmF (s:Txt) (l:List Txt) (k:Nat):(Zap s (l.take k)).length<=(Zap s l).length:=by
 cases l with
 |nil=>simp
 |cons a r=>
  cases k with
  |zero=>simp[Zap]
  |succ k=>
   rw[List.take_succ_cons,ZeF,ZeF];have e:Lib.joinTail s r=Lib.joinTail s (r.take k)++Lib.joinTail s (r.drop k):=by rw[<-Zhm,List.take_append_drop]
   rw[e];simp only[Yj];omega
def ZsF (F:Nat) (g:Array Yi) (f w1:Yh) (a b:Nat) (c:Yi) (L:List Txt):Prop:=
 ∀(k:Nat) (x:Txt) (w:Yh) (t:Txt),L[k]? = Ya x->PrS f w a t b c->Fr w1 w a->t.length+x.length+10000<=140737488355328 ->
  Calls Tryz.prog F (#[Yd Yf (k:Int)]++g) w fun e d=>e=.returned (.tuple #[])/\PrS f d a (t++x) b c/\Fr w d a
theorem Zft (F:Nat) (J:Array Yi) (hF:Enters F) (u w:Yh) (f p:Nat) (t s:Txt) (r:Yi) (L:List Txt) (h:PrS u w f t p r) (K:ZsF F J u w f p r L) (A:L.length<=maxLen) (M:t.length+(Zap s L).length+10000<=140737488355328) :
  Calls Tryz.prog 57 #[Ye (Ya ⟨f,0,Yb⟩),txt s,Yd Yf (L.length:Nat),.func (.func F) #[] J] w fun e w'=>e=.returned (.tuple #[])/\PrS u w' f (t++Zap s L) p r/\Fr w w' f:=by
 have o:=zh (zi h (zi K (zi A M)));have y:=hF;unfold Enters at y;clear h K A M;obtain⟨m,hm⟩:∃m,m=L.length:=⟨_,rfl⟩
 rw[<-hm];have C:=zh hm;clear hm;go_enter Tryz.func57,Tryz.ntmps57;go_wp2_with fail;go_loopg [10] m (fun g H wr=>∃k:Nat,H=Yd Yf k/\k<=m/\g=m-k/\PrS u wr f (t++Zap s (L.take k)) p r/\Fr w wr f)
 case atStart=>exact⟨0,rfl,Nat.zero_le _,rfl,by simpa[Zap]using o.out.1,Fr.refl _ _⟩
 case round=>
  obtain⟨k,rfl,hk,z,j,a⟩:=hrel;by_cases i:k=m
  ·have Q:decide (k<m)=false:=decide_eq_false (by omega);have N:¬((k:Int)<(m:Int)):=by omega
   have E:=zh (zi (show PrS u wr f (t++Zap s L) p r by rw[show L.take k=L by rw[i,C.out,List.take_length]]at j;exact j) a);clear hk z j a i;go_wp2_with fail;go_end0;exact⟨rfl,E.out⟩
  ·have d:k<m:=by omega
   obtain⟨x,hx⟩:∃x,L[k]? = Ya x:=⟨_,Ym (by rw[<-C.out];exact d)⟩
   have Q:(k:Int)<(m:Int):=by omega
   have T:IntKind.i64.wrap ((k:Int)+1)=(k:Int)+1:=IntWalk.i64_in _ (by have:=o.out.2.2.1;have:=C.out;have e:maxLen=9223372036854775807:=rfl;omega);have q:=ZmF s L (k+1);rw[List.take_add_one,hx]at q;dsimp only[Option.toList]at q;by_cases c:k=0
   ·have I:Zap s (L.take k)=[]:=by rw[c];rfl
    have e1:Zap s (L.take (k+1))=x:=by rw[List.take_add_one,hx,c];rfl
    have N:¬((0:Int)<(k:Int)):=by omega
    rw[I,List.append_nil]at j
    have D:=zh (o.out.2.1 k x wr _ hx j a (by
     have:=o.out.2.2.2;rw[c]at q;have:(Zap s (L.take 0++[x]))=x:=rfl;rw[this]at q
     omega))
    have b:=zh (zi d (zi z (zi e1 a)));clear i d hk z a j hx I e1 q c;go_wp2_with (with_reducible refine D.out.mono ?_;rintro e S ⟨rfl,n,l⟩;have v:=zh (zi n l);clear n l);go_roundg (m-(k+1))
    case measure=>have:=b.out.1;have:=b.out.2.1;omega
    case rel=>exact⟨k+1,by push_cast;rfl,b.out.1,rfl,by rw[b.out.2.2.1];exact v.out.1,b.out.2.2.2.trans v.out.2⟩
   ·have O:L.take k≠[]:=fun e=>by
     have:=congrArg List.length e;rw[List.length_take,Yl]at this;have:=C.out;omega
    have e1:Zap s (L.take (k+1))=Zap s (L.take k)++s++x:=by rw[List.take_add_one,hx];exact ZpF s _ x O
    have N:(0:Int)<(k:Int):=by omega
    have B:(Zap s (L.take k)).length+s.length+x.length<=(Zap s L).length:=by have:=ZmF s L (k+1);rw[e1]at this;simp only[Yj]at this;exact this
    have P:=zh (Zas u wr f p _ r s j (by have:=o.out.2.2.2;rw[Yj];omega));have b:=zh (zi d (zi z (zi e1 (zi a (zi hx B)))));clear i d hk z a j hx e1 q B c O;go_upto_region 5 with(go_at_call 32;(refine P.out.mono ?_);rintro e R ⟨rfl,n,l⟩;have G:=zh (zi n l);clear n l)
    have D:=zh (o.out.2.1 k x R _ b.out.2.2.2.2.1 G.out.1 (b.out.2.2.2.1.trans G.out.2) (by
     have:=o.out.2.2.2;have:=b.out.2.2.2.2.2;simp only[Yj]
     omega))
    go_wp2_with (with_reducible refine D.out.mono ?_;rintro e S ⟨rfl,n,l⟩;have v:=zh (zi n l);clear n l);go_roundg (m-(k+1))
    case measure=>have:=b.out.1;have:=b.out.2.1;omega
    case rel=>
     refine⟨k+1,by push_cast;rfl,b.out.1,rfl,?_,(b.out.2.2.2.1.trans G.out.2).trans v.out.2⟩;rw[b.out.2.2.1];have:=v.out.1;simp only[List.append_assoc]at this⊢;exact this
end Go.Proofs.YtdkegpkfjgloeaaGreatDoor
