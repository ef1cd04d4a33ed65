import Derived.Test.YtfbepcelkijgkaaGreatDoorQAM
set_option maxRecDepth 100000
set_option maxHeartbeats 8000000
open Option renaming some → Ya, none → Yb
open Go.Value renaming slice → Yc, int → Yd
open Go.IntKind renaming i64 → Yf
namespace Go.Proofs.YtfbepcelkijgkaaGreatDoor
section
open Go.RowKit
theorem Zmy (i w:World) (b u f:Nat) (t:Txt) (q:Value) (ns:List Nd) (x:NdV×Nd) (h:PrS i w b t u q) (hN:Zi i q ns) (hx:ZS i x) (hE:ZbA i ns f) (s:Txt) (r:List Txt) (k:Nat) (G:x.2.words=s::r) (P:x.2.kids[0]? = Ya (k:Int)) (v:k<ns.length) (Y:ZV ns f (Zf ns k)) (I:t.length+(Zho ns f x.2).length+100<=140737488355328) :
  Calls Tryz.prog 90 #[.pointer (Ya ⟨b,0,Yb⟩),ndX x] w fun e w'=>e=.returned (.tuple #[])/\PrS i w' b (t++Zho ns f x.2) u q/\Fr w w' b:=by
 have hq:=hx;obtain⟨⟨vw,vu,vk⟩,o,c,a,d,p⟩:=x;obtain⟨hw,hu,H⟩:=hx;dsimp only at G P hw hu H I⊢;obtain⟨K,F,rfl,aa,ab,hW,T⟩:=hw;obtain⟨B,E,rfl,W,X,hU⟩:=hu;obtain⟨A,D,rfl,U,V,hK⟩:=H;have S:=below_alloc1 w (.cells #[Yd Yf o,Yc K c.length F,Yc B a.length E,Yc A d.length D,Yd Yf p] 37);have L:Zk _ _ _ _:=Zk.start w #[Yd Yf o,Yc K c.length F,Yc B a.length E,Yc A d.length D,Yd Yf p] 37;have R:=h.keep S;obtain⟨z,Q⟩:∃z,ns[k]? = Ya z:=⟨_,Ym v⟩
 have he:Zho ns f ⟨o,c,a,d,p⟩=s++[32,61,32]++ZH ns f z++[59]:=by unfold Zho word;rw[Zcu (n:=⟨o,c,a,d,p⟩) P Q];dsimp only;rw[G];rfl
 rw[ZbP Q]at Y;rw[he]at I⊢;simp only[Yj,Yk,Yl]at I;obtain⟨c0,c1,c2,c3,c4⟩:=Zm (x:=((Yc K c.length F,Yc B a.length E,Yc A d.length D),⟨o,c,a,d,p⟩)) (L);dsimp only at c0 c1 c2 c3 c4;generalize Z:w.alloc (.cells #[Yd Yf o,Yc K c.length F,Yc B a.length E,Yc A d.length D,Yd Yf p] 37)=j at *;obtain⟨O,rfl,u0⟩:=ZbH (k:=0) (x:=s) hW (R.keep (Zo j)).below (by rw[G];rfl) (by rw[G];exact Nat.succ_pos _);have u1:j.drew.cell? O=Ya (txt s):=u0;have u2:j.cell? O=Ya (txt s):=u0;have bl:0<c.length:=by rw[G];exact Nat.succ_pos _
 obtain⟨d0,d1,d2,d3,d4⟩:=Zm (x:=((Yc (Ya O) c.length F,Yc B a.length E,Yc A d.length D),⟨o,c,a,d,p⟩)) (L.keep (Zo j));dsimp only at d0 d1 d2 d3 d4;have AD:=zh (Zc8 i j.drew b u t q s [32,61,32] (R.keep (Zo j)) (by simp only[Yk,Yl];omega));have g:=zh (zi S (zi (L.keep (Zo j)) (zi hq (zi hN (zi hE (zi I (R.keep (Zo j))))))));have N:=zh (zi P (zi v (zi Q Y)));clear R L S hq aa ab hW T W X hU U V hK h I he u0 G P v Q Y hE hN;go_enter Tryz.func90,Tryz.ntmps90;go_upto_region 1 with fail;go_region_with (go_at_call 36;(refine AD.out.mono ?_);rintro e w3 ⟨rfl,m,l⟩;have M:=zh (zi m l);clear m l);have K3:=M.out.2.at_ _ _ _ (ZdP g.out.2.2.2.2.2.2 g.out.2.1) (by decide) g.out.2.1;obtain⟨b0,b1,b2,b3,b4⟩:=Zm (x:=((Yc (Ya O) c.length F,Yc B a.length E,Yc A d.length D),⟨o,c,a,d,p⟩)) (K3);dsimp only at b0 b1 b2 b3 b4;have KI:=zh (Zb0 i w3 b u _ q ns _ 0 k ⟨M.out.1,g.out.2.2.2.1⟩ g.out.2.2.1 N.out.1 N.out.2.1);clear K3
 go_upto_region 3 with(first
  |(go_at_call 42;(refine KI.out.mono ?_);rintro e w4 ⟨y,rfl,hy,J,hb⟩;have ey:y.2=z:=Option.some.inj (hy.symm.trans N.out.2.2.1);have C:=zh (zi J (zi hb ey));clear hy J hb ey;have EX:=zh (g.out.2.2.2.2.1 w4 b u _ q y (M.out.1.keep C.out.2.1) g.out.2.2.2.1 C.out.1 (C.out.2.2▸N.out.2.2.2) (by rw[C.out.2.2];have:=g.out.2.2.2.2.2.1;simp only[Yj,Yk,Yl];omega)))
  |(go_at_call 23;(refine EX.out.mono ?_);rintro e w5 ⟨rfl,m,l⟩;have H5:=zh (zi (show PrS i w5 b (t++(s++[32,61,32])++ZH ns f z) u q from C.out.2.2▸m) l);clear m l))
 have AE:=zh (Zao i w5 b u _ q [59] H5.out.1 (by have:=g.out.2.2.2.2.2.1;simp only[Yj,Yk,Yl];omega));go_wp2_with (go_at_call 36;(refine AE.out.mono ?_);rintro e w6 ⟨rfl,m,l⟩;have H6:=zh (zi m l);clear m l);go_end0;refine⟨rfl,?_,(((((Fr.of_below b (Z▸g.out.1)).trans (Fr.of_below b (Zo j))).trans M.out.2).trans (Fr.of_below b C.out.2.1)).trans H5.out.2).trans H6.out.2⟩;have:=H6.out.1;simp only[List.append_assoc]at this⊢;exact this
theorem Zes (s x:Txt) (r:List Txt):Za5 s (x::r)=x++Lib.joinTail s r:=by
 induction r generalizing x with
 |nil=>simp[Za5,Lib.joinTail]
 |cons y r a=>rw[Za5,a y];simp[Lib.joinTail,List.append_assoc]
theorem ZjV (s:Txt) (l:List Txt):Za5 s l=Lib.join l s:=by
 cases l with
 |nil=>rfl
 |cons x r=>rw[Zes,Lib.join_cons]
theorem Zii (s:Txt) (a:0<s.length) (l:List Txt):l.length<=(Za5 s l).length+1:=by
 cases l with
 |nil=>simp
 |cons x r=>
  rw[Zes,Yj,Yk];have:r.length<=(Lib.joinTail s r).length:=by
   unfold Lib.joinTail
   induction r with
   |nil=>simp
   |cons y r b=>simp only[List.map_cons,List.flatten_cons,Yj,Yk];omega
  omega
theorem Zjd {w:World} {A:Option Addr} {n:Nat} {l:List Int} {x:Int} (c:ZM w w.heap.size 1 A n (l.map (Value.int Yf))) (hx:l[0]? = Ya x) (f:0<n):∃a,A=Ya a/\∀W:World,Below w.heap.size w W->W.cell? a=Ya (Yd Yf x):=by obtain⟨a,e,b,hc⟩:=c.2 f;exact⟨a,e,fun W d=>(d.cell (p:=a) b).trans (hc 0 _ (by rw[List.getElem?_map,hx];rfl))⟩
theorem Zel {a W:World} {g k:Nat} {l:List Txt} {s:Txt} (h:ZaI a g l) (b:Below a.heap.size a W) (hk:l[k]? = Ya s):W.cell? ⟨g,k,Yb⟩=Ya (txt s):=by obtain⟨t,c,e⟩:=h.below b;simp[World.cell?,e,hk]
theorem ZnT {w:World} {A:Option Addr} {l:List Txt} (h:ZM w w.heap.size 1 A l.length (l.map txt)) (d:0<l.length):∃b o,A=Ya ⟨b,o,Yb⟩/\b<w.heap.size/\∀j s,l[j]? = Ya s->w.cell? ⟨b,o+j,Yb⟩=Ya (txt s):=by
 obtain⟨⟨b,o,g⟩,e,i,hc⟩:=h.2 d;have a:=hc 0 (txt l[0]) (by rw[List.getElem?_map,Ym d];rfl);have c:g=Yb:=by
  cases g with
  |none=>rfl
  |some v=>
   exfalso;unfold World.cell? Addr.add at a;simp at a
   split at a<;>simp at a
 subst c;refine⟨b,o,e,i,fun j s k=>?_⟩;have:=hc j (txt s) (by rw[List.getElem?_map,k];rfl);unfold Addr.add at this;by_cases f:j=0
 ·subst f;simpa using this
 ·rw[Yn f]at this;exact this
theorem Zh7 (g W:World) (A:Option Addr) (c:Nat) (l:List Txt) (h:ZM g g.heap.size 1 A l.length (l.map txt)) (r:0<l.length) (m:l.length<=140737488355328) (hc:l.length<=c) (n:Below g.heap.size g W) (hm:(Za5 [124] l).length<=140737488355328) :
  Calls Tryz.prog 89 #[Yc A l.length c,.string ⟨#[124]⟩] W fun e w'=>e=.returned (txt (Za5 [124] l))/\Below W.heap.size W w':=by
 obtain⟨b,o,rfl,d,i⟩:=ZnT h r;have f:(l.map fun s=>(⟨s.toArray⟩:ByteArray)).map (·.data.toList)=l:=by rw[List.map_map];exact List.map_id'' (fun _=>rfl) l
 have k:=Tryz.strings_Join b o c (l.map fun s=>(⟨s.toArray⟩:ByteArray)) ⟨#[124]⟩ W (fun j x a=>by
  rw[List.getElem?_map]at a;cases e:l[j]? with
  |none=>rw[e]at a;cases a
  |some s=>
   rw[e]at a;obtain rfl:=Option.some.inj a
   exact(n.cell (p:=⟨b,o+j,Yb⟩) d).trans (i j s e)) (Nat.lt_of_lt_of_le d n.size) (by rw[List.length_map];exact m) (by rw[List.length_map];exact hc) (by rw[f];rw[ZjV]at hm;exact hm)
 rw[List.length_map]at k;refine k.mono fun e w' q=>⟨?_,q.2⟩;rw[q.1,f,ZjV]
def Zb2:List Txt:=[Zdd 0,Zdd 1,Zdd 2]
end
section
open Go.RowKit
theorem Zng (p w:World) (c H:Nat) (t:Txt) (R:Value) (x:NdV×Nd) (h:PrS p w c t H R) (hx:ZS p x) (L:ZaI p 2 Zb2) (r:List Int) (m:x.2.nums=0::r) (f:0<x.2.words.length) (A:t.length+(Zca x.2).length+100<=140737488355328) :
  Calls Tryz.prog 68 #[.pointer (Ya ⟨c,0,Yb⟩),ndX x] w fun e w'=>e=.returned (.tuple #[])/\PrS p w' c (t++Zca x.2) H R/\Fr w w' c:=by
 have hq:=hx;obtain⟨⟨vw,vu,vk⟩,n,b,a,d,o⟩:=x;obtain⟨hw,Z,z⟩:=hx;dsimp only at m f hw Z z A⊢;obtain⟨i,l,rfl,C,P,U,I⟩:=hw;obtain⟨D,y,rfl,M,N,T⟩:=Z;obtain⟨q,v,rfl,J,K,hK⟩:=z;have F:=below_alloc1 w (.cells #[Yd Yf n,.slice i b.length l,Yc D a.length y,.slice q d.length v,Yd Yf o] 37);have E:Zk _ _ _ _:=Zk.start w #[Yd Yf n,.slice i b.length l,Yc D a.length y,.slice q d.length v,Yd Yf o] 37;have p1:=h.keep F;have W:Zca ⟨n,b,a,d,o⟩=Zdd 0++Za5 [124] b:=by unfold Zca num;dsimp only;rw[m];rfl
 rw[W]at A⊢;simp only[Yj]at A;have B:b.length<=140737488355328:=by have:=Zii [124] (by decide) b;omega
 generalize O:w.alloc (.cells #[Yd Yf n,.slice i b.length l,Yc D a.length y,.slice q d.length v,Yd Yf o] 37)=g at *;have j:=zh (p1.keep (Zo g));have JN:=zh (Zh7 p g.drew i l b U f B C j.out.below (by omega));obtain⟨G,rfl,Q⟩:=Zjd (x:=0) T (by rw[m];rfl) (by rw[m];exact Nat.succ_pos _);have u1:g.drew.cell? G=Ya (Yd Yf 0):=Q _ j.out.below;have v1:g.drew.cell? ⟨2,0,Yb⟩=Ya (txt (Zdd 0)):=Zel (k:=0) L j.out.below rfl;have aq:0<a.length:=by rw[m];exact Nat.succ_pos _
 obtain⟨d0,d1,d2,d3,d4⟩:=Zm (x:=((.slice i b.length l,Yc (Ya G) a.length y,.slice q d.length v),⟨n,b,a,d,o⟩)) (E.keep (Zo g));dsimp only at d0 d1 d2 d3 d4;have u:=zh (zi F (zi (E.keep (Zo g)) (zi A (zi Q L))));clear p1 E F hq C P U I M N T J K hK h A W Q m L B f;go_enter Tryz.func68,Tryz.ntmps68;go_upto_region 1 with fail
 go_region_with (first
  |(go_at_call 89;(refine JN.out.mono ?_);rintro e w3 ⟨rfl,V⟩;have s:=zh V;clear V;obtain⟨b0,b1,b2,b3,b4⟩:=Zm (x:=((.slice i b.length l,Yc (Ya G) a.length y,.slice q d.length v),⟨n,b,a,d,o⟩)) (u.out.2.1.keep s.out);dsimp only at b0 b1 b2 b3 b4;have u3:=u.out.2.2.2.1 _ (j.out.keep s.out).below;have v3:w3.cell? ⟨2,0,Yb⟩=Ya (txt (Zdd 0)):=Zel (k:=0) u.out.2.2.2.2 (j.out.keep s.out).below rfl;have AD:=zh (Zc8 p w3 c H t R (Zdd 0) (Za5 [124] b) (j.out.keep s.out) (by have:=u.out.2.2.1;omega)))
  |(go_at_call 36;(refine AD.out.mono ?_);rintro e w4 ⟨rfl,Y,X⟩;have S:=zh (zi Y X);clear Y X))
 all_goals
  go_wp2_with fail;go_end0;exact⟨rfl,S.out.1,(((Fr.of_below c (O▸u.out.1)).trans (Fr.of_below c (Zo g))).trans (Fr.of_below c s.out)).trans S.out.2⟩
end
section
open Go.RowKit
theorem Zni (p w:World) (c H:Nat) (t:Txt) (R:Value) (x:NdV×Nd) (h:PrS p w c t H R) (hx:ZS p x) (L:ZaI p 2 Zb2) (r:List Int) (m:x.2.nums=2::r) (f:0<x.2.words.length) (A:t.length+(Zca x.2).length+100<=140737488355328) :
  Calls Tryz.prog 68 #[.pointer (Ya ⟨c,0,Yb⟩),ndX x] w fun e w'=>e=.returned (.tuple #[])/\PrS p w' c (t++Zca x.2) H R/\Fr w w' c:=by
 have hq:=hx;obtain⟨⟨vw,vu,vk⟩,n,b,a,d,o⟩:=x;obtain⟨hw,Z,z⟩:=hx;dsimp only at m f hw Z z A⊢;obtain⟨i,l,rfl,C,P,U,I⟩:=hw;obtain⟨D,y,rfl,M,N,T⟩:=Z;obtain⟨q,v,rfl,J,K,hK⟩:=z;have F:=below_alloc1 w (.cells #[Yd Yf n,.slice i b.length l,Yc D a.length y,.slice q d.length v,Yd Yf o] 37);have E:Zk _ _ _ _:=Zk.start w #[Yd Yf n,.slice i b.length l,Yc D a.length y,.slice q d.length v,Yd Yf o] 37;have p1:=h.keep F;have W:Zca ⟨n,b,a,d,o⟩=Zdd 2++Za5 [124] b:=by unfold Zca num;dsimp only;rw[m];rfl
 rw[W]at A⊢;simp only[Yj]at A;have B:b.length<=140737488355328:=by have:=Zii [124] (by decide) b;omega
 generalize O:w.alloc (.cells #[Yd Yf n,.slice i b.length l,Yc D a.length y,.slice q d.length v,Yd Yf o] 37)=g at *;have j:=zh (p1.keep (Zo g));have JN:=zh (Zh7 p g.drew i l b U f B C j.out.below (by omega));obtain⟨G,rfl,Q⟩:=Zjd (x:=2) T (by rw[m];rfl) (by rw[m];exact Nat.succ_pos _);have u1:g.drew.cell? G=Ya (Yd Yf 2):=Q _ j.out.below;have v1:g.drew.cell? ⟨2,2,Yb⟩=Ya (txt (Zdd 2)):=Zel (k:=2) L j.out.below rfl;have aq:0<a.length:=by rw[m];exact Nat.succ_pos _
 obtain⟨d0,d1,d2,d3,d4⟩:=Zm (x:=((.slice i b.length l,Yc (Ya G) a.length y,.slice q d.length v),⟨n,b,a,d,o⟩)) (E.keep (Zo g));dsimp only at d0 d1 d2 d3 d4;have u:=zh (zi F (zi (E.keep (Zo g)) (zi A (zi Q L))));clear p1 E F hq C P U I M N T J K hK h A W Q m L B f;go_enter Tryz.func68,Tryz.ntmps68;go_upto_region 1 with fail
 go_region_with (first
  |(go_at_call 89;(refine JN.out.mono ?_);rintro e w3 ⟨rfl,V⟩;have s:=zh V;clear V;obtain⟨b0,b1,b2,b3,b4⟩:=Zm (x:=((.slice i b.length l,Yc (Ya G) a.length y,.slice q d.length v),⟨n,b,a,d,o⟩)) (u.out.2.1.keep s.out);dsimp only at b0 b1 b2 b3 b4;have u3:=u.out.2.2.2.1 _ (j.out.keep s.out).below;have v3:w3.cell? ⟨2,2,Yb⟩=Ya (txt (Zdd 2)):=Zel (k:=2) u.out.2.2.2.2 (j.out.keep s.out).below rfl;have AD:=zh (Zc8 p w3 c H t R (Zdd 2) (Za5 [124] b) (j.out.keep s.out) (by have:=u.out.2.2.1;omega)))
  |(go_at_call 36;(refine AD.out.mono ?_);rintro e w4 ⟨rfl,Y,X⟩;have S:=zh (zi Y X);clear Y X))
 all_goals
  go_wp2_with fail;go_end0;exact⟨rfl,S.out.1,(((Fr.of_below c (O▸u.out.1)).trans (Fr.of_below c (Zo g))).trans (Fr.of_below c s.out)).trans S.out.2⟩
end
end Go.Proofs.YtfbepcelkijgkaaGreatDoor
