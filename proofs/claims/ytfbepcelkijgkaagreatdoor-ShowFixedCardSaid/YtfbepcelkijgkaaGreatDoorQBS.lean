import Derived.Test.YtfbepcelkijgkaaGreatDoorQAH
import Derived.Test.YtfbepcelkijgkaaGreatDoorQBR
set_option maxRecDepth 100000
set_option maxHeartbeats 8000000
open Option renaming some → Ya
open Go.Value renaming slice → Yc
open Go renaming World → Yh, Value → Yi
namespace Go.Proofs.YtfbepcelkijgkaaGreatDoor
section
open Go.RowKit
structure Nw (w0 w wi:Yh) (bp b:Nat) (t:Txt) (dp:Nat) (vn:Yi) (cs:Array Yi):Prop where
 p:PrS w0 wi bp t dp vn
 k:Zh wi b 37 cs
 f:Fr w wi bp
theorem Nw.start {d w:Yh} {a b:Nat} {t:Txt} {c:Yi} (cs:Array Yi) (h:PrS d w a t b c):Nw d w (w.alloc (.cells cs 37)) a w.heap.size t b c cs:=
 ⟨h.keep (below_alloc1 w _),Zh.start w cs _,Fr.of_below a (below_alloc1 w _)⟩
theorem Nw.next {d w i w':Yh} {a b j e:Nat} {t t2:Txt} {c:Yi} {cs:Array Yi} (h:Nw d w i a b t j c cs) (l:PrS d w' a t2 e c) (g:Fr i w' a):Nw d w w' a b t2 e c cs:=
 ⟨l,g.at_ _ _ _ (Zd1 h.p h.k) (by decide) h.k,h.f.trans g⟩
theorem Nw.below {i w d w':Yh} {a b e:Nat} {t:Txt} {g:Yi} {cs:Array Yi} (h:Nw i w d a b t e g cs) (c:Below d.heap.size d w'):Nw i w w' a b t e g cs:=
 ⟨h.p.keep c,h.k.keep c,h.f.trans (Fr.of_below a c)⟩
theorem Nw.drew {f w a:Yh} {c b d:Nat} {t:Txt} {e:Yi} {cs:Array Yi} (h:Nw f w a c b t d e cs):Nw f w a.drew c b t d e cs:=h.below (Zn a)
theorem Zx {b W:Yh} {a:Addr} {n k:Nat} {l:List Txt} {x:Txt} (d:ZM b b.heap.size 1 (Ya a) n (l.map txt)) (f:Below b.heap.size b W) (hx:l[k]? = Ya x) (hn:k<n):W.cell? (a.add k)=Ya (txt x):=by obtain⟨g,e,c⟩:=Zcj d f hx (by omega);injection e with e;subst e;exact c
theorem ZaM {b W:Yh} {a:Addr} {n k:Nat} {l:List Int} {x:Int} (d:ZM b b.heap.size 1 (Ya a) n (l.map (Value.int .i64))) (f:Below b.heap.size b W) (hx:l[k]? = Ya x) (hn:k<n):W.cell? (a.add k)=Ya (.int .i64 x):=by obtain⟨g,e,c⟩:=ints_at d f hx (by omega);injection e with e;subst e;exact c
theorem Zjv:Enters 120:=enters_of Tryz.func120 (by kernel_rfl) rfl
theorem ZiL:Enters 121:=enters_of Tryz.func121 (by kernel_rfl) rfl
theorem ZkN:Enters 40:=enters_of Tryz.func40 (by kernel_rfl) rfl
theorem ZlI:Enters 38:=enters_of Tryz.func38 (by kernel_rfl) rfl
theorem ZlH:Enters 18:=enters_of Tryz.func18 (by kernel_rfl) rfl
end
section
open Go.RowKit
theorem Znz (o w:Yh) (c G:Nat) (t:Txt) (Q:Yi) (x:NdV×Nd) (h:PrS o w c t G Q) (hx:Za5 o x) (K:ZaI o 2 Zck) (r:List Int) (hn:x.2.nums=1::r) (f:0<x.2.words.length) (z:t.length+(ZaT x.2).length+100<=140737488355328) :
  Calls Tryz.prog 68 #[.pointer (Ya ⟨c,0,none⟩),ndX x] w fun e w'=>e=.returned (.tuple #[])/\PrS o w' c (t++ZaT x.2) G Q/\Fr w w' c:=by
 have hq:=hx;obtain⟨⟨vw,vu,vk⟩,m,b,a,d,n⟩:=x;obtain⟨Z,Y,y⟩:=hx;dsimp only at hn f Z Y y z⊢;obtain⟨i,l,rfl,B,O,T,H⟩:=Z;obtain⟨C,v,rfl,L,M,S⟩:=Y;obtain⟨p,u,rfl,I,J,hK⟩:=y;have E:=below_alloc1 w (.cells #[.int .i64 m,.slice i b.length l,Yc C a.length v,.slice p d.length u,.int .i64 n] 37);have D:Zh _ _ _ _:=Zh.start w #[.int .i64 m,.slice i b.length l,Yc C a.length v,.slice p d.length u,.int .i64 n] 37;have p1:=h.keep E;have V:ZaT ⟨m,b,a,d,n⟩=ZcY 1++Zak [124] b:=by unfold ZaT num;dsimp only;rw[hn];rfl
 rw[V]at z⊢;simp only[Yj]at z;have A:b.length<=140737488355328:=by have:=Ziy [124] (by decide) b;omega
 generalize N:w.alloc (.cells #[.int .i64 m,.slice i b.length l,Yc C a.length v,.slice p d.length u,.int .i64 n] 37)=g at *;have j:=zh (p1.keep (Zn g));have JN:=zh (Zin o g.drew i l b T f A B j.out.below (by omega));obtain⟨F,rfl,P⟩:=ZjA (x:=1) S (by rw[hn];rfl) (by rw[hn];exact Nat.succ_pos _);have u1:g.drew.cell? F=Ya (.int .i64 1):=P _ j.out.below;have v1:g.drew.cell? ⟨2,1,none⟩=Ya (txt (ZcY 1)):=Zey (k:=1) K j.out.below rfl;have ap:0<a.length:=by rw[hn];exact Nat.succ_pos _
 obtain⟨d0,d1,d2,d3,d4⟩:=Zi (x:=((.slice i b.length l,Yc (Ya F) a.length v,.slice p d.length u),⟨m,b,a,d,n⟩)) (D.keep (Zn g));dsimp only at d0 d1 d2 d3 d4;have s:=zh (zi E (zi (D.keep (Zn g)) (zi z (zi P K))));clear p1 D E hq B O T H L M S I J hK h z V P hn K A f;go_enter Tryz.func68,Tryz.ntmps68;go_upto_region 1 with fail
 go_region_with (first
  |(go_at_call 89;(refine JN.out.mono ?_);rintro e w3 ⟨rfl,U⟩;have q:=zh U;clear U;obtain⟨b0,b1,b2,b3,b4⟩:=Zi (x:=((.slice i b.length l,Yc (Ya F) a.length v,.slice p d.length u),⟨m,b,a,d,n⟩)) (s.out.2.1.keep q.out);dsimp only at b0 b1 b2 b3 b4;have u3:=s.out.2.2.2.1 _ (j.out.keep q.out).below;have v3:w3.cell? ⟨2,1,none⟩=Ya (txt (ZcY 1)):=Zey (k:=1) s.out.2.2.2.2 (j.out.keep q.out).below rfl;have AD:=zh (Zdp o w3 c G t Q (ZcY 1) (Zak [124] b) (j.out.keep q.out) (by have:=s.out.2.2.1;omega)))
  |(go_at_call 36;(refine AD.out.mono ?_);rintro e w4 ⟨rfl,X,W⟩;have R:=zh (zi X W);clear X W))
 all_goals
  go_wp2_with fail;go_end0;exact⟨rfl,R.out.1,(((Fr.of_below c (N▸s.out.1)).trans (Fr.of_below c (Zn g))).trans (Fr.of_below c q.out)).trans R.out.2⟩
end
section
open Go.RowKit
theorem Zg1 (b:Yh) (ns:List Nd) (c:Nat) (f:ZaI b 2 Zck):ZcZ 68 b ns c Zez ZaT:=by
 intro w d t i x h l hx e m;obtain⟨a,g,r,hn,j,k⟩:=e;have:g=0\/g=1\/g=2:=by omega
 rcases this with rfl|rfl|rfl
 ·exact Zny b w d c t i x h hx f r hn a (by omega)
 ·exact Znz b w d c t i x h hx f r hn a (by omega)
 ·exact ZnA b w d c t i x h hx f r hn a (by omega)
def ZeU:List Txt:=[Zax 0,Zax 1,Zax 2,Zax 3,Zax 4]
theorem ZoM {a W:Yh} (h:ZaI a 1 ZeU) (b:Below a.heap.size a W) (k:Nat) (hk:k<=4):W.cell? ⟨1,k,none⟩=Ya (txt (Zax k)):=by
 refine Zey h b ?_;have:k=0\/k=1\/k=2\/k=3\/k=4:=by omega
 rcases this with rfl|rfl|rfl|rfl|rfl<;>rfl
theorem ZfS {c W:Yh} {b i h:Nat} {d f:Addr} {e:List Txt} {a:List Int} {q r:Yi} {t:Yi} {s j:Txt} {p:Nat} (hk:Zh W b 37 #[q,Yc (Ya d) e.length i,Yc (Ya f) a.length h,t,r]) (g:Below c.heap.size c W)
  (o:ZM c c.heap.size 1 (Ya d) e.length (e.map txt)) (v:ZM c c.heap.size 1 (Ya f) a.length (a.map (Value.int .i64))) (u:e[0]? = Ya s) (n:e[1]? = Ya j) (m:a[0]? = Ya (p:Int)) (y:ZaI c 1 ZeU) (w:p<=4) :
  (W.cell? ⟨b,1,none⟩=Ya (Yc (Ya d) e.length i)/\W.cell? ⟨b,2,none⟩=Ya (Yc (Ya f) a.length h)/\W.cell? d=Ya (txt s)/\W.cell? (d.add 1)=Ya (txt j)/\W.cell? ⟨d.block,d.off+1,none⟩=Ya (txt j)/\W.cell? f=Ya (.int .i64 (p:Int))/\W.cell? ⟨1,p,none⟩=Ya (txt (Zax p)))/\Zh W b 37 #[q,Yc (Ya d) e.length i,Yc (Ya f) a.length h,t,r]/\Below c.heap.size c W:=by
 have k:=hk.blk.cell 1;have l:=hk.blk.cell 2;simp only[List.getElem?_toArray,List.getElem?_cons_zero,List.getElem?_cons_succ]at k l;have z:=(List.getElem?_eq_some_iff.1 n).1;have e1:=Zx o g n z;exact⟨⟨k,l,Zx o g u (by omega),e1,e1,ZaM v g m (List.getElem?_eq_some_iff.1 m).1,ZoM y g p w⟩,hk,g⟩
def Zb0 (ns:List Nd) (l:List Int):Txt:=(l.map fun k=>ZaT (Za ns k)).flatten
theorem ZgX {ns:List Nd} {l:List Int} {i:Nat} {k:Int} (h:l[i]? = Ya k):Zb0 ns (l.take (i+1))=Zb0 ns (l.take i)++ZaT (Za ns k):=by unfold Zb0;rw[List.take_add_one,h,List.map_append,List.flatten_append];simp
theorem Zij {ns:List Nd} {l:List Int} (i:Nat):(Zb0 ns (l.take i)).length<=(Zb0 ns l).length:=by
 have e:Zb0 ns l=Zb0 ns (l.take i)++Zb0 ns (l.drop i):=by unfold Zb0;rw[<-List.flatten_append,<-List.map_append,List.take_append_drop]
 rw[e,Yj];omega
end
end Go.Proofs.YtfbepcelkijgkaaGreatDoor
