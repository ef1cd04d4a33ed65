import Derived.Test.YtfbepcelkijgkaaGreatDoorQAG
set_option maxRecDepth 100000
set_option maxHeartbeats 8000000
open Option renaming some → Ya, none → Yb
open Go.Value renaming slice → Yc, int → Yd
open Go.IntKind renaming i64 → Yf
namespace Go.Proofs.YtfbepcelkijgkaaGreatDoor
section
open Go.RowKit
theorem ZmN (i w:World) (b u f:Nat) (t:Txt) (q:Value) (ns:List Nd) (x:NdV×Nd) (h:PrS i w b t u q) (hN:Zu i q ns) (hx:Za5 i x) (hE:ZbH i ns f) (s:Txt) (r:List Txt) (k:Nat) (hn:x.2.words=s::r) (O:x.2.kids[0]? = Ya (k:Int)) (v:k<ns.length) (hv:ZS ns f (Za ns k)) (H:t.length+(Ze8 ns f x.2).length+100<=140737488355328) :
  Calls Tryz.prog 90 #[.pointer (Ya ⟨b,0,Yb⟩),ndX x] w fun e w'=>e=.returned (.tuple #[])/\PrS i w' b (t++Ze8 ns f x.2) u q/\Fr w w' b:=by
 have hq:=hx;obtain⟨⟨vw,vu,vk⟩,o,c,a,d,p⟩:=x;obtain⟨hw,hu,G⟩:=hx;dsimp only at hn O hw hu G H⊢;obtain⟨J,F,rfl,Y,Z,hW,S⟩:=hw;obtain⟨B,E,rfl,V,W,hU⟩:=hu;obtain⟨A,D,rfl,T,U,hK⟩:=G;have R:=below_alloc1 w (.cells #[Yd Yf o,Yc J c.length F,Yc B a.length E,Yc A d.length D,Yd Yf p] 37);have K:Zh _ _ _ _:=Zh.start w #[Yd Yf o,Yc J c.length F,Yc B a.length E,Yc A d.length D,Yd Yf p] 37;have Q:=h.keep R;obtain⟨z,P⟩:∃z,ns[k]? = Ya z:=⟨_,Ym v⟩
 have he:Ze8 ns f ⟨o,c,a,d,p⟩=s++[32,61,32]++ZD ns f z++[59]:=by unfold Ze8 word;rw[ZcN (n:=⟨o,c,a,d,p⟩) O P];dsimp only;rw[hn];rfl
 rw[Zb2 P]at hv;rw[he]at H⊢;simp only[Yj,Yk,Yl]at H;obtain⟨c0,c1,c2,c3,c4⟩:=Zi (x:=((Yc J c.length F,Yc B a.length E,Yc A d.length D),⟨o,c,a,d,p⟩)) (K);dsimp only at c0 c1 c2 c3 c4;generalize X:w.alloc (.cells #[Yd Yf o,Yc J c.length F,Yc B a.length E,Yc A d.length D,Yd Yf p] 37)=j at *;obtain⟨N,rfl,u0⟩:=Zcj (k:=0) (x:=s) hW (Q.keep (Zn j)).below (by rw[hn];rfl) (by rw[hn];exact Nat.succ_pos _);have u1:j.drew.cell? N=Ya (txt s):=u0;have u2:j.cell? N=Ya (txt s):=u0;have bj:0<c.length:=by rw[hn];exact Nat.succ_pos _
 obtain⟨d0,d1,d2,d3,d4⟩:=Zi (x:=((Yc (Ya N) c.length F,Yc B a.length E,Yc A d.length D),⟨o,c,a,d,p⟩)) (K.keep (Zn j));dsimp only at d0 d1 d2 d3 d4;have AD:=zh (Zdp i j.drew b u t q s [32,61,32] (Q.keep (Zn j)) (by simp only[Yk,Yl];omega));have g:=zh (zi R (zi (K.keep (Zn j)) (zi hq (zi hN (zi hE (zi H (Q.keep (Zn j))))))));have M:=zh (zi O (zi v (zi P hv)));clear Q K R hq Y Z hW S V W hU T U hK h H he u0 hn O v P hv hE hN;go_enter Tryz.func90,Tryz.ntmps90;go_upto_region 1 with fail;go_region_with (go_at_call 36;(refine AD.out.mono ?_);rintro e w3 ⟨rfl,m,l⟩;have L:=zh (zi m l);clear m l);have K3:=L.out.2.at_ _ _ _ (Zd1 g.out.2.2.2.2.2.2 g.out.2.1) (by decide) g.out.2.1;obtain⟨b0,b1,b2,b3,b4⟩:=Zi (x:=((Yc (Ya N) c.length F,Yc B a.length E,Yc A d.length D),⟨o,c,a,d,p⟩)) (K3);dsimp only at b0 b1 b2 b3 b4;have KI:=zh (Zci i w3 b u _ q ns _ 0 k ⟨L.out.1,g.out.2.2.2.1⟩ g.out.2.2.1 M.out.1 M.out.2.1);clear K3
 go_upto_region 3 with(first
  |(go_at_call 42;(refine KI.out.mono ?_);rintro e w4 ⟨y,rfl,hy,I,hb⟩;have ey:y.2=z:=Option.some.inj (hy.symm.trans M.out.2.2.1);have C:=zh (zi I (zi hb ey));clear hy I hb ey;have EX:=zh (g.out.2.2.2.2.1 w4 b u _ q y (L.out.1.keep C.out.2.1) g.out.2.2.2.1 C.out.1 (C.out.2.2▸M.out.2.2.2) (by rw[C.out.2.2];have:=g.out.2.2.2.2.2.1;simp only[Yj,Yk,Yl];omega)))
  |(go_at_call 23;(refine EX.out.mono ?_);rintro e w5 ⟨rfl,m,l⟩;have H5:=zh (zi (show PrS i w5 b (t++(s++[32,61,32])++ZD ns f z) u q from C.out.2.2▸m) l);clear m l))
 have AE:=zh (Zap i w5 b u _ q [59] H5.out.1 (by have:=g.out.2.2.2.2.2.1;simp only[Yj,Yk,Yl];omega));go_wp2_with (go_at_call 36;(refine AE.out.mono ?_);rintro e w6 ⟨rfl,m,l⟩;have H6:=zh (zi m l);clear m l);go_end0;refine⟨rfl,?_,(((((Fr.of_below b (X▸g.out.1)).trans (Fr.of_below b (Zn j))).trans L.out.2).trans (Fr.of_below b C.out.2.1)).trans H5.out.2).trans H6.out.2⟩;have:=H6.out.1;simp only[List.append_assoc]at this⊢;exact this
theorem ZeK (s x:Txt) (r:List Txt):Zak s (x::r)=x++Lib.joinTail s r:=by
 induction r generalizing x with
 |nil=>simp[Zak,Lib.joinTail]
 |cons y r a=>rw[Zak,a y];simp[Lib.joinTail,List.append_assoc]
theorem Zkg (s:Txt) (l:List Txt):Zak s l=Lib.join l s:=by
 cases l with
 |nil=>rfl
 |cons x r=>rw[ZeK,Lib.join_cons]
theorem Ziy (s:Txt) (hs:0<s.length) (l:List Txt):l.length<=(Zak s l).length+1:=by
 cases l with
 |nil=>simp
 |cons x r=>
  rw[ZeK,Yj,Yk];have:r.length<=(Lib.joinTail s r).length:=by
   unfold Lib.joinTail
   induction r with
   |nil=>simp
   |cons y r a=>simp only[List.map_cons,List.flatten_cons,Yj,Yk];omega
  omega
theorem ZjA {w:World} {A:Option Addr} {n:Nat} {l:List Int} {x:Int} (c:ZM w w.heap.size 1 A n (l.map (Value.int Yf))) (hx:l[0]? = Ya x) (hn:0<n):∃a,A=Ya a/\∀W:World,Below w.heap.size w W->W.cell? a=Ya (Yd Yf x):=by obtain⟨a,e,b,hc⟩:=c.2 hn;exact⟨a,e,fun W d=>(d.cell (p:=a) b).trans (hc 0 _ (by rw[List.getElem?_map,hx];rfl))⟩
theorem Zey {a W:World} {g k:Nat} {l:List Txt} {s:Txt} (h:ZaI a g l) (b:Below a.heap.size a W) (hk:l[k]? = Ya s):W.cell? ⟨g,k,Yb⟩=Ya (txt s):=by obtain⟨t,c,e⟩:=h.below b;simp[World.cell?,e,hk]
theorem Zn6 {w:World} {A:Option Addr} {l:List Txt} (h:ZM w w.heap.size 1 A l.length (l.map txt)) (d:0<l.length):∃b o,A=Ya ⟨b,o,Yb⟩/\b<w.heap.size/\∀j s,l[j]? = Ya s->w.cell? ⟨b,o+j,Yb⟩=Ya (txt s):=by
 obtain⟨⟨b,o,g⟩,e,i,hc⟩:=h.2 d;have a:=hc 0 (txt l[0]) (by rw[List.getElem?_map,Ym d];rfl);have c:g=Yb:=by
  cases g with
  |none=>rfl
  |some v=>
   exfalso;unfold World.cell? Addr.add at a;simp at a
   split at a<;>simp at a
 subst c;refine⟨b,o,e,i,fun j s k=>?_⟩;have:=hc j (txt s) (by rw[List.getElem?_map,k];rfl);unfold Addr.add at this;by_cases f:j=0
 ·subst f;simpa using this
 ·rw[Yn f]at this;exact this
theorem Zin (g W:World) (A:Option Addr) (c:Nat) (l:List Txt) (h:ZM g g.heap.size 1 A l.length (l.map txt)) (r:0<l.length) (m:l.length<=140737488355328) (hc:l.length<=c) (n:Below g.heap.size g W) (hm:(Zak [124] l).length<=140737488355328) :
  Calls Tryz.prog 89 #[Yc A l.length c,.string ⟨#[124]⟩] W fun e w'=>e=.returned (txt (Zak [124] l))/\Below W.heap.size W w':=by
 obtain⟨b,o,rfl,d,i⟩:=Zn6 h r;have f:(l.map fun s=>(⟨s.toArray⟩:ByteArray)).map (·.data.toList)=l:=by rw[List.map_map];exact List.map_id'' (fun _=>rfl) l
 have k:=Tryz.strings_Join b o c (l.map fun s=>(⟨s.toArray⟩:ByteArray)) ⟨#[124]⟩ W (fun j x a=>by
  rw[List.getElem?_map]at a;cases e:l[j]? with
  |none=>rw[e]at a;cases a
  |some s=>
   rw[e]at a;obtain rfl:=Option.some.inj a
   exact(n.cell (p:=⟨b,o+j,Yb⟩) d).trans (i j s e)) (Nat.lt_of_lt_of_le d n.size) (by rw[List.length_map];exact m) (by rw[List.length_map];exact hc) (by rw[f];rw[Zkg]at hm;exact hm)
 rw[List.length_map]at k;refine k.mono fun e w' q=>⟨?_,q.2⟩;rw[q.1,f,Zkg]
def Zck:List Txt:=[ZcY 0,ZcY 1,ZcY 2]
end
section
open Go.RowKit
theorem Zny (o w:World) (c G:Nat) (t:Txt) (Q:Value) (x:NdV×Nd) (h:PrS o w c t G Q) (hx:Za5 o x) (K:ZaI o 2 Zck) (r:List Int) (hn:x.2.nums=0::r) (f:0<x.2.words.length) (z:t.length+(ZaT x.2).length+100<=140737488355328) :
  Calls Tryz.prog 68 #[.pointer (Ya ⟨c,0,Yb⟩),ndX x] w fun e w'=>e=.returned (.tuple #[])/\PrS o w' c (t++ZaT x.2) G Q/\Fr w w' c:=by
 have hq:=hx;obtain⟨⟨vw,vu,vk⟩,m,b,a,d,n⟩:=x;obtain⟨Z,Y,y⟩:=hx;dsimp only at hn f Z Y y z⊢;obtain⟨i,l,rfl,B,O,T,H⟩:=Z;obtain⟨C,v,rfl,L,M,S⟩:=Y;obtain⟨p,u,rfl,I,J,hK⟩:=y;have E:=below_alloc1 w (.cells #[Yd Yf m,.slice i b.length l,Yc C a.length v,.slice p d.length u,Yd Yf n] 37);have D:Zh _ _ _ _:=Zh.start w #[Yd Yf m,.slice i b.length l,Yc C a.length v,.slice p d.length u,Yd Yf n] 37;have p1:=h.keep E;have V:ZaT ⟨m,b,a,d,n⟩=ZcY 0++Zak [124] b:=by unfold ZaT num;dsimp only;rw[hn];rfl
 rw[V]at z⊢;simp only[Yj]at z;have A:b.length<=140737488355328:=by have:=Ziy [124] (by decide) b;omega
 generalize N:w.alloc (.cells #[Yd Yf m,.slice i b.length l,Yc C a.length v,.slice p d.length u,Yd Yf n] 37)=g at *;have j:=zh (p1.keep (Zn g));have JN:=zh (Zin o g.drew i l b T f A B j.out.below (by omega));obtain⟨F,rfl,P⟩:=ZjA (x:=0) S (by rw[hn];rfl) (by rw[hn];exact Nat.succ_pos _);have u1:g.drew.cell? F=Ya (Yd Yf 0):=P _ j.out.below;have v1:g.drew.cell? ⟨2,0,Yb⟩=Ya (txt (ZcY 0)):=Zey (k:=0) K j.out.below rfl;have ap:0<a.length:=by rw[hn];exact Nat.succ_pos _
 obtain⟨d0,d1,d2,d3,d4⟩:=Zi (x:=((.slice i b.length l,Yc (Ya F) a.length v,.slice p d.length u),⟨m,b,a,d,n⟩)) (D.keep (Zn g));dsimp only at d0 d1 d2 d3 d4;have s:=zh (zi E (zi (D.keep (Zn g)) (zi z (zi P K))));clear p1 D E hq B O T H L M S I J hK h z V P hn K A f;go_enter Tryz.func68,Tryz.ntmps68;go_upto_region 1 with fail
 go_region_with (first
  |(go_at_call 89;(refine JN.out.mono ?_);rintro e w3 ⟨rfl,U⟩;have q:=zh U;clear U;obtain⟨b0,b1,b2,b3,b4⟩:=Zi (x:=((.slice i b.length l,Yc (Ya F) a.length v,.slice p d.length u),⟨m,b,a,d,n⟩)) (s.out.2.1.keep q.out);dsimp only at b0 b1 b2 b3 b4;have u3:=s.out.2.2.2.1 _ (j.out.keep q.out).below;have v3:w3.cell? ⟨2,0,Yb⟩=Ya (txt (ZcY 0)):=Zey (k:=0) s.out.2.2.2.2 (j.out.keep q.out).below rfl;have AD:=zh (Zdp o w3 c G t Q (ZcY 0) (Zak [124] b) (j.out.keep q.out) (by have:=s.out.2.2.1;omega)))
  |(go_at_call 36;(refine AD.out.mono ?_);rintro e w4 ⟨rfl,X,W⟩;have R:=zh (zi X W);clear X W))
 all_goals
  go_wp2_with fail;go_end0;exact⟨rfl,R.out.1,(((Fr.of_below c (N▸s.out.1)).trans (Fr.of_below c (Zn g))).trans (Fr.of_below c q.out)).trans R.out.2⟩
end
section
open Go.RowKit
theorem ZnA (o w:World) (c G:Nat) (t:Txt) (Q:Value) (x:NdV×Nd) (h:PrS o w c t G Q) (hx:Za5 o x) (K:ZaI o 2 Zck) (r:List Int) (hn:x.2.nums=2::r) (f:0<x.2.words.length) (z:t.length+(ZaT x.2).length+100<=140737488355328) :
  Calls Tryz.prog 68 #[.pointer (Ya ⟨c,0,Yb⟩),ndX x] w fun e w'=>e=.returned (.tuple #[])/\PrS o w' c (t++ZaT x.2) G Q/\Fr w w' c:=by
 have hq:=hx;obtain⟨⟨vw,vu,vk⟩,m,b,a,d,n⟩:=x;obtain⟨Z,Y,y⟩:=hx;dsimp only at hn f Z Y y z⊢;obtain⟨i,l,rfl,B,O,T,H⟩:=Z;obtain⟨C,v,rfl,L,M,S⟩:=Y;obtain⟨p,u,rfl,I,J,hK⟩:=y;have E:=below_alloc1 w (.cells #[Yd Yf m,.slice i b.length l,Yc C a.length v,.slice p d.length u,Yd Yf n] 37);have D:Zh _ _ _ _:=Zh.start w #[Yd Yf m,.slice i b.length l,Yc C a.length v,.slice p d.length u,Yd Yf n] 37;have p1:=h.keep E;have V:ZaT ⟨m,b,a,d,n⟩=ZcY 2++Zak [124] b:=by unfold ZaT num;dsimp only;rw[hn];rfl
 rw[V]at z⊢;simp only[Yj]at z;have A:b.length<=140737488355328:=by have:=Ziy [124] (by decide) b;omega
 generalize N:w.alloc (.cells #[Yd Yf m,.slice i b.length l,Yc C a.length v,.slice p d.length u,Yd Yf n] 37)=g at *;have j:=zh (p1.keep (Zn g));have JN:=zh (Zin o g.drew i l b T f A B j.out.below (by omega));obtain⟨F,rfl,P⟩:=ZjA (x:=2) S (by rw[hn];rfl) (by rw[hn];exact Nat.succ_pos _);have u1:g.drew.cell? F=Ya (Yd Yf 2):=P _ j.out.below;have v1:g.drew.cell? ⟨2,2,Yb⟩=Ya (txt (ZcY 2)):=Zey (k:=2) K j.out.below rfl;have ap:0<a.length:=by rw[hn];exact Nat.succ_pos _
 obtain⟨d0,d1,d2,d3,d4⟩:=Zi (x:=((.slice i b.length l,Yc (Ya F) a.length v,.slice p d.length u),⟨m,b,a,d,n⟩)) (D.keep (Zn g));dsimp only at d0 d1 d2 d3 d4;have s:=zh (zi E (zi (D.keep (Zn g)) (zi z (zi P K))));clear p1 D E hq B O T H L M S I J hK h z V P hn K A f;go_enter Tryz.func68,Tryz.ntmps68;go_upto_region 1 with fail
 go_region_with (first
  |(go_at_call 89;(refine JN.out.mono ?_);rintro e w3 ⟨rfl,U⟩;have q:=zh U;clear U;obtain⟨b0,b1,b2,b3,b4⟩:=Zi (x:=((.slice i b.length l,Yc (Ya F) a.length v,.slice p d.length u),⟨m,b,a,d,n⟩)) (s.out.2.1.keep q.out);dsimp only at b0 b1 b2 b3 b4;have u3:=s.out.2.2.2.1 _ (j.out.keep q.out).below;have v3:w3.cell? ⟨2,2,Yb⟩=Ya (txt (ZcY 2)):=Zey (k:=2) s.out.2.2.2.2 (j.out.keep q.out).below rfl;have AD:=zh (Zdp o w3 c G t Q (ZcY 2) (Zak [124] b) (j.out.keep q.out) (by have:=s.out.2.2.1;omega)))
  |(go_at_call 36;(refine AD.out.mono ?_);rintro e w4 ⟨rfl,X,W⟩;have R:=zh (zi X W);clear X W))
 all_goals
  go_wp2_with fail;go_end0;exact⟨rfl,R.out.1,(((Fr.of_below c (N▸s.out.1)).trans (Fr.of_below c (Zn g))).trans (Fr.of_below c q.out)).trans R.out.2⟩
end
end Go.Proofs.YtfbepcelkijgkaaGreatDoor
