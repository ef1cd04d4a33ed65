import Derived.Deep.LoopGhost
import Derived.Test.YtfbepcelkijgkaaGreatDoorQAA
import Derived.Test.YtfbepcelkijgkaaGreatDoorQAE
set_option maxRecDepth 100000
set_option maxHeartbeats 8000000
open Option renaming some → Ya, none → Yb
open Go.Value renaming slice → Yc, int → Yd, pointer → Ye
open Go.IntKind renaming i64 → Yf
open Go renaming World → Yh, Value → Yi
namespace Go.Proofs.YtfbepcelkijgkaaGreatDoor
section
open Go.RowKit
def Stb (P:Yh->Prop):Prop:=∀a b:Yh,Below a.heap.size a b->P a->P b
theorem ZT (p:Addr) (x:Yi):Stb fun w=>w.cell? p=Ya x:=fun _ _ a h=>(a.cell (World.block_lt_of_cell? _ _ h)).trans h
theorem Zae {P Q:Yh->Prop} (b:Stb P) (hq:Stb Q):Stb fun w=>P w/\Q w:=fun _ _ a h=>⟨b _ _ a h.1,hq _ _ a h.2⟩
theorem Zco (a:Yh):Stb fun w=>Below a.heap.size a w:=fun _ _ b h=>h.trans (b.mono h.size)
theorem Za {A:Prop} {a w':Yh} (h:A/\Below a.heap.size a w'):Below a.heap.size a w':=h.2
def Zgf (f:FuncId) (cap:Array Yi) (t:Tst) (w:Yh):Prop:=∀(a:Yh) (k:Int),Below w.heap.size w a->Calls Tryz.prog f (#[Yd Yf k]++cap) a fun e b=>e=.returned (.bool (t.f k))/\Below a.heap.size a b
theorem Zcy {f:FuncId} {a:Array Yi} {w:Yh} {v:Yi} (h:Calls Tryz.prog f a w fun e w'=>e=.returned v/\w=w'):Calls Tryz.prog f a w fun e w2=>e=.returned v/\Below w.heap.size w w2:=h.mono fun _ _ q=>⟨q.1,q.2▸Below.refl _ _⟩
theorem Zlg {w:Yh} {t:Tst} {u:Yi} (h:ZaY w t u):∃f cap,u=.func (.func f) #[] cap/\Zgf f cap t w:=by
 cases t with
 |is i=>
  obtain⟨b,A,c,rfl,e,g⟩:=h;exact⟨_,_,rfl,fun a k d=>Zcy (Zml a b A _ c i k (e.keep d) (g.below d))⟩
 |stmt=>exact⟨_,_,h,fun a k _=>Zcy (Zlf a k)⟩
 |expr=>exact⟨_,_,h,fun a k _=>Zcy (Zh4 a k)⟩
 |arg=>exact⟨_,_,h,fun a k _=>Zcy (Zmb a k)⟩
theorem ZqS (w:Yh) (d:Nat) (s:List Int) (b1 h:Nat) (A:Option Addr) (c:Nat) (ns:List Nd) (k:Nat) (l:Blk w b1 #[.func (.func 109) #[] #[Ye (Ya ⟨d,0,Yb⟩)]]) (g:Blk w h #[Yc A ns.length c]) (L:Zi w (Yc A ns.length c) ns) (hc:Zgf 109 #[Ye (Ya ⟨d,0,Yb⟩)] (.is s) w) (hk:k<ns.length) :
  Calls Tryz.prog 112 #[Yd Yf k,Ye (Ya ⟨b1,0,Yb⟩),Ye (Ya ⟨h,0,Yb⟩)] w fun e w'=>e=.returned (.bool (!Tst.f (.is s) (Zp ns k)))/\Below w.heap.size w w':=by
 obtain⟨N,P,D,G,H,I,u,v,J⟩:=L;injection G with e1 _ e2;subst e1 e2;obtain⟨n,C⟩:∃n,n=ns.length:=⟨_,rfl⟩
 obtain⟨x,hx⟩:∃x,D[k]? = Ya x:=⟨_,Ym (by rw[show D.length=ns.length by rw[<-u,List.length_map]];exact hk)⟩
 have p:ns[k]? = Ya x.2:=by rw[<-u,List.getElem?_map,hx];rfl
 rw[<-C]at v hk g;obtain⟨b,rfl,z,_⟩:=Zan v (Below.refl _ _) hx (by omega);have o:Zp ns k=x.2.kind:=by unfold Zp Zf;rw[Int.toNat_natCast,p];rfl
 rw[o];have cl:∀w':Yh,Below w.heap.size w w'->Calls Tryz.prog 109 #[Yd Yf x.2.kind,Ye (Ya ⟨d,0,Yb⟩)] w' (fun e M=>e=.returned (.bool (Tst.f (.is s) x.2.kind))/\Below w'.heap.size w' M):=fun w' q=>hc w' x.2.kind q;have R:(k:Int)<(n:Int):=by omega
 have i2:(0:Int)<=(k:Int):=by omega
 have i:w.cell? ⟨b1,0,Yb⟩=Ya (.func (.func 109) #[] #[Ye (Ya ⟨d,0,Yb⟩)]):=l.cell 0;have j:w.cell? ⟨h,0,Yb⟩=Ya (Yc (Ya b) n c):=g.cell 0;generalize x.2.kind=r at *;generalize Tst.f (.is s) r=O at *;have E:=zh cl;clear cl hc o p hx hk H I u v J l g C;have t:=zh (show Stb (fun w'=>(w'.cell? ⟨b1,0,Yb⟩=Ya (.func (.func 109) #[] #[Ye (Ya ⟨d,0,Yb⟩)])/\(w'.cell? ⟨h,0,Yb⟩=Ya (Yc (Ya b) n c)/\w'.cell? (b.add (k*5))=Ya (Yd Yf r)))/\Below w.heap.size w w')from Zae (Zae (ZT _ _) (Zae (ZT _ _) (ZT _ _))) (Zco w));go_enter Tryz.func112,Tryz.ntmps112;go_upto_region 1 with fail;have y:((w.drew.cell? ⟨b1,0,Yb⟩=Ya (.func (.func 109) #[] #[Ye (Ya ⟨d,0,Yb⟩)])/\(w.drew.cell? ⟨h,0,Yb⟩=Ya (Yc (Ya b) n c)/\w.drew.cell? (b.add (k*5))=Ya (Yd Yf r)))/\Below w.heap.size w w.drew):=⟨⟨i,j,z⟩,ZaZ w⟩
 clear i j z;refine wp_region_noPanic ?_;refine wp_region_held_drew (S:=(fun w'=>(w'.cell? ⟨b1,0,Yb⟩=Ya (.func (.func 109) #[] #[Ye (Ya ⟨d,0,Yb⟩)])/\(w'.cell? ⟨h,0,Yb⟩=Ya (Yc (Ya b) n c)/\w'.cell? (b.add (k*5))=Ya (Yd Yf r)))/\Below w.heap.size w w')) (by kernel_rfl) y (fun a=>?_);clear y;refine tk 0 rfl ?_;refine tk 1 rfl ?_;refine tk 2 rfl ?_;refine tk 3 rfl ?_;refine tk 4 rfl ?_;refine tk 5 rfl ?_;(try simp only[cl,Act.put]);refine rd 6 rfl fun K B=>?_;go_simp;(go_at_call 109;(with_reducible refine(E.out _ (Za (by with_reducible assumption))).mono ?_);rintro Q T ⟨rfl,q⟩);go_wp2_with fail;refine B.out _ _ (t.out _ _ q (by with_reducible assumption)) (fun m=>?_);clear B K a q;have a:=m;clear m;(try simp only[cl,Act.put]);refine tk 7 rfl ?_;refine tk 8 rfl ?_;(try simp only[cl,Act.put]);refine wpAnyH_done (by kernel_rfl) ?_ _;refine NoPanic.normal ?_;have F:=zh (Za a);clear a;go_wp2_with fail;go_ret;exact⟨rfl,F.out⟩
theorem Zn6 (w:Yh) (b1 g:Nat) (A:Option Addr) (c:Nat) (ns:List Nd) (k:Nat) (j:Blk w b1 #[.func (.func 85) #[] #[]]) (d:Blk w g #[Yc A ns.length c]) (I:Zi w (Yc A ns.length c) ns) (hc:Zgf 85 #[] (.stmt) w) (hk:k<ns.length) :
  Calls Tryz.prog 112 #[Yd Yf k,Ye (Ya ⟨b1,0,Yb⟩),Ye (Ya ⟨g,0,Yb⟩)] w fun e w'=>e=.returned (.bool (!Tst.f (.stmt) (Zp ns k)))/\Below w.heap.size w w':=by
 obtain⟨L,N,B,E,F,G,s,t,H⟩:=I;injection E with e1 _ e2;subst e1 e2;obtain⟨n,z⟩:∃n,n=ns.length:=⟨_,rfl⟩
 obtain⟨x,hx⟩:∃x,B[k]? = Ya x:=⟨_,Ym (by rw[show B.length=ns.length by rw[<-s,List.length_map]];exact hk)⟩
 have o:ns[k]? = Ya x.2:=by rw[<-s,List.getElem?_map,hx];rfl
 rw[<-z]at t hk d;obtain⟨b,rfl,v,_⟩:=Zan t (Below.refl _ _) hx (by omega);have m:Zp ns k=x.2.kind:=by unfold Zp Zf;rw[Int.toNat_natCast,o];rfl
 rw[m];have cl:∀w':Yh,Below w.heap.size w w'->Calls Tryz.prog 85 #[Yd Yf x.2.kind] w' (fun e J=>e=.returned (.bool (Tst.f (.stmt) x.2.kind))/\Below w'.heap.size w' J):=fun w' p=>hc w' x.2.kind p;have P:(k:Int)<(n:Int):=by omega
 have i2:(0:Int)<=(k:Int):=by omega
 have h:w.cell? ⟨b1,0,Yb⟩=Ya (.func (.func 85) #[] #[]):=j.cell 0;have i:w.cell? ⟨g,0,Yb⟩=Ya (Yc (Ya b) n c):=d.cell 0;generalize x.2.kind=q at *;generalize Tst.f (.stmt) q=M at *;have C:=zh cl;clear cl hc m o hx hk F G s t H j d z;have r:=zh (show Stb (fun w'=>(w'.cell? ⟨b1,0,Yb⟩=Ya (.func (.func 85) #[] #[])/\(w'.cell? ⟨g,0,Yb⟩=Ya (Yc (Ya b) n c)/\w'.cell? (b.add (k*5))=Ya (Yd Yf q)))/\Below w.heap.size w w')from Zae (Zae (ZT _ _) (Zae (ZT _ _) (ZT _ _))) (Zco w));go_enter Tryz.func112,Tryz.ntmps112;go_upto_region 1 with fail;have u:((w.drew.cell? ⟨b1,0,Yb⟩=Ya (.func (.func 85) #[] #[])/\(w.drew.cell? ⟨g,0,Yb⟩=Ya (Yc (Ya b) n c)/\w.drew.cell? (b.add (k*5))=Ya (Yd Yf q)))/\Below w.heap.size w w.drew):=⟨⟨h,i,v⟩,ZaZ w⟩
 clear h i v;refine wp_region_noPanic ?_;refine wp_region_held_drew (S:=(fun w'=>(w'.cell? ⟨b1,0,Yb⟩=Ya (.func (.func 85) #[] #[])/\(w'.cell? ⟨g,0,Yb⟩=Ya (Yc (Ya b) n c)/\w'.cell? (b.add (k*5))=Ya (Yd Yf q)))/\Below w.heap.size w w')) (by kernel_rfl) u (fun a=>?_);clear u;refine tk 0 rfl ?_;refine tk 1 rfl ?_;refine tk 2 rfl ?_;refine tk 3 rfl ?_;refine tk 4 rfl ?_;refine tk 5 rfl ?_;(try simp only[cl,Act.put]);refine rd 6 rfl fun K y=>?_;go_simp;(go_at_call 85;(with_reducible refine(C.out _ (Za (by with_reducible assumption))).mono ?_);rintro O Q ⟨rfl,p⟩);go_wp2_with fail;refine y.out _ _ (r.out _ _ p (by with_reducible assumption)) (fun l=>?_);clear y K a p;have a:=l;clear l;(try simp only[cl,Act.put]);refine tk 7 rfl ?_;refine tk 8 rfl ?_;(try simp only[cl,Act.put]);refine wpAnyH_done (by kernel_rfl) ?_ _;refine NoPanic.normal ?_;have D:=zh (Za a);clear a;go_wp2_with fail;go_ret;exact⟨rfl,D.out⟩
theorem Zn5 (w:Yh) (b1 g:Nat) (A:Option Addr) (c:Nat) (ns:List Nd) (k:Nat) (j:Blk w b1 #[.func (.func 86) #[] #[]]) (d:Blk w g #[Yc A ns.length c]) (I:Zi w (Yc A ns.length c) ns) (hc:Zgf 86 #[] (.expr) w) (hk:k<ns.length) :
  Calls Tryz.prog 112 #[Yd Yf k,Ye (Ya ⟨b1,0,Yb⟩),Ye (Ya ⟨g,0,Yb⟩)] w fun e w'=>e=.returned (.bool (!Tst.f (.expr) (Zp ns k)))/\Below w.heap.size w w':=by
 obtain⟨L,N,B,E,F,G,s,t,H⟩:=I;injection E with e1 _ e2;subst e1 e2;obtain⟨n,z⟩:∃n,n=ns.length:=⟨_,rfl⟩
 obtain⟨x,hx⟩:∃x,B[k]? = Ya x:=⟨_,Ym (by rw[show B.length=ns.length by rw[<-s,List.length_map]];exact hk)⟩
 have o:ns[k]? = Ya x.2:=by rw[<-s,List.getElem?_map,hx];rfl
 rw[<-z]at t hk d;obtain⟨b,rfl,v,_⟩:=Zan t (Below.refl _ _) hx (by omega);have m:Zp ns k=x.2.kind:=by unfold Zp Zf;rw[Int.toNat_natCast,o];rfl
 rw[m];have cl:∀w':Yh,Below w.heap.size w w'->Calls Tryz.prog 86 #[Yd Yf x.2.kind] w' (fun e J=>e=.returned (.bool (Tst.f (.expr) x.2.kind))/\Below w'.heap.size w' J):=fun w' p=>hc w' x.2.kind p;have P:(k:Int)<(n:Int):=by omega
 have i2:(0:Int)<=(k:Int):=by omega
 have h:w.cell? ⟨b1,0,Yb⟩=Ya (.func (.func 86) #[] #[]):=j.cell 0;have i:w.cell? ⟨g,0,Yb⟩=Ya (Yc (Ya b) n c):=d.cell 0;generalize x.2.kind=q at *;generalize Tst.f (.expr) q=M at *;have C:=zh cl;clear cl hc m o hx hk F G s t H j d z;have r:=zh (show Stb (fun w'=>(w'.cell? ⟨b1,0,Yb⟩=Ya (.func (.func 86) #[] #[])/\(w'.cell? ⟨g,0,Yb⟩=Ya (Yc (Ya b) n c)/\w'.cell? (b.add (k*5))=Ya (Yd Yf q)))/\Below w.heap.size w w')from Zae (Zae (ZT _ _) (Zae (ZT _ _) (ZT _ _))) (Zco w));go_enter Tryz.func112,Tryz.ntmps112;go_upto_region 1 with fail;have u:((w.drew.cell? ⟨b1,0,Yb⟩=Ya (.func (.func 86) #[] #[])/\(w.drew.cell? ⟨g,0,Yb⟩=Ya (Yc (Ya b) n c)/\w.drew.cell? (b.add (k*5))=Ya (Yd Yf q)))/\Below w.heap.size w w.drew):=⟨⟨h,i,v⟩,ZaZ w⟩
 clear h i v;refine wp_region_noPanic ?_;refine wp_region_held_drew (S:=(fun w'=>(w'.cell? ⟨b1,0,Yb⟩=Ya (.func (.func 86) #[] #[])/\(w'.cell? ⟨g,0,Yb⟩=Ya (Yc (Ya b) n c)/\w'.cell? (b.add (k*5))=Ya (Yd Yf q)))/\Below w.heap.size w w')) (by kernel_rfl) u (fun a=>?_);clear u;refine tk 0 rfl ?_;refine tk 1 rfl ?_;refine tk 2 rfl ?_;refine tk 3 rfl ?_;refine tk 4 rfl ?_;refine tk 5 rfl ?_;(try simp only[cl,Act.put]);refine rd 6 rfl fun K y=>?_;go_simp;(go_at_call 86;(with_reducible refine(C.out _ (Za (by with_reducible assumption))).mono ?_);rintro O Q ⟨rfl,p⟩);go_wp2_with fail;refine y.out _ _ (r.out _ _ p (by with_reducible assumption)) (fun l=>?_);clear y K a p;have a:=l;clear l;(try simp only[cl,Act.put]);refine tk 7 rfl ?_;refine tk 8 rfl ?_;(try simp only[cl,Act.put]);refine wpAnyH_done (by kernel_rfl) ?_ _;refine NoPanic.normal ?_;have D:=zh (Za a);clear a;go_wp2_with fail;go_ret;exact⟨rfl,D.out⟩
theorem ZpP (w:Yh) (b1 g:Nat) (A:Option Addr) (c:Nat) (ns:List Nd) (k:Nat) (j:Blk w b1 #[.func (.func 88) #[] #[]]) (d:Blk w g #[Yc A ns.length c]) (I:Zi w (Yc A ns.length c) ns) (hc:Zgf 88 #[] (.arg) w) (hk:k<ns.length) :
  Calls Tryz.prog 112 #[Yd Yf k,Ye (Ya ⟨b1,0,Yb⟩),Ye (Ya ⟨g,0,Yb⟩)] w fun e w'=>e=.returned (.bool (!Tst.f (.arg) (Zp ns k)))/\Below w.heap.size w w':=by
 obtain⟨L,N,B,E,F,G,s,t,H⟩:=I;injection E with e1 _ e2;subst e1 e2;obtain⟨n,z⟩:∃n,n=ns.length:=⟨_,rfl⟩
 obtain⟨x,hx⟩:∃x,B[k]? = Ya x:=⟨_,Ym (by rw[show B.length=ns.length by rw[<-s,List.length_map]];exact hk)⟩
 have o:ns[k]? = Ya x.2:=by rw[<-s,List.getElem?_map,hx];rfl
 rw[<-z]at t hk d;obtain⟨b,rfl,v,_⟩:=Zan t (Below.refl _ _) hx (by omega);have m:Zp ns k=x.2.kind:=by unfold Zp Zf;rw[Int.toNat_natCast,o];rfl
 rw[m];have cl:∀w':Yh,Below w.heap.size w w'->Calls Tryz.prog 88 #[Yd Yf x.2.kind] w' (fun e J=>e=.returned (.bool (Tst.f (.arg) x.2.kind))/\Below w'.heap.size w' J):=fun w' p=>hc w' x.2.kind p;have P:(k:Int)<(n:Int):=by omega
 have i2:(0:Int)<=(k:Int):=by omega
 have h:w.cell? ⟨b1,0,Yb⟩=Ya (.func (.func 88) #[] #[]):=j.cell 0;have i:w.cell? ⟨g,0,Yb⟩=Ya (Yc (Ya b) n c):=d.cell 0;generalize x.2.kind=q at *;generalize Tst.f (.arg) q=M at *;have C:=zh cl;clear cl hc m o hx hk F G s t H j d z;have r:=zh (show Stb (fun w'=>(w'.cell? ⟨b1,0,Yb⟩=Ya (.func (.func 88) #[] #[])/\(w'.cell? ⟨g,0,Yb⟩=Ya (Yc (Ya b) n c)/\w'.cell? (b.add (k*5))=Ya (Yd Yf q)))/\Below w.heap.size w w')from Zae (Zae (ZT _ _) (Zae (ZT _ _) (ZT _ _))) (Zco w));go_enter Tryz.func112,Tryz.ntmps112;go_upto_region 1 with fail;have u:((w.drew.cell? ⟨b1,0,Yb⟩=Ya (.func (.func 88) #[] #[])/\(w.drew.cell? ⟨g,0,Yb⟩=Ya (Yc (Ya b) n c)/\w.drew.cell? (b.add (k*5))=Ya (Yd Yf q)))/\Below w.heap.size w w.drew):=⟨⟨h,i,v⟩,ZaZ w⟩
 clear h i v;refine wp_region_noPanic ?_;refine wp_region_held_drew (S:=(fun w'=>(w'.cell? ⟨b1,0,Yb⟩=Ya (.func (.func 88) #[] #[])/\(w'.cell? ⟨g,0,Yb⟩=Ya (Yc (Ya b) n c)/\w'.cell? (b.add (k*5))=Ya (Yd Yf q)))/\Below w.heap.size w w')) (by kernel_rfl) u (fun a=>?_);clear u;refine tk 0 rfl ?_;refine tk 1 rfl ?_;refine tk 2 rfl ?_;refine tk 3 rfl ?_;refine tk 4 rfl ?_;refine tk 5 rfl ?_;(try simp only[cl,Act.put]);refine rd 6 rfl fun K y=>?_;go_simp;(go_at_call 88;(with_reducible refine(C.out _ (Za (by with_reducible assumption))).mono ?_);rintro O Q ⟨rfl,p⟩);go_wp2_with fail;refine y.out _ _ (r.out _ _ p (by with_reducible assumption)) (fun l=>?_);clear y K a p;have a:=l;clear l;(try simp only[cl,Act.put]);refine tk 7 rfl ?_;refine tk 8 rfl ?_;(try simp only[cl,Act.put]);refine wpAnyH_done (by kernel_rfl) ?_ _;refine NoPanic.normal ?_;have D:=zh (Za a);clear a;go_wp2_with fail;go_ret;exact⟨rfl,D.out⟩
end
section
open Go.RowKit
def Zaw (a:List Int) (n:Nat):Prop:=∀k∈a,0<=k/\k<n
theorem ZpO (w:Yh) (t:Tst) (u:Yi) (b1 d:Nat) (A:Option Addr) (c:Nat) (ns:List Nd) (r:ZaY w t u) (m:Blk w b1 #[u]) (n:Blk w d #[Yc A ns.length c]) (q:Zi w (Yc A ns.length c) ns) (w':Yh) (i:Below w.heap.size w w') (k:Int) (hk:0<=k/\k<ns.length) :
  Calls Tryz.prog 112 #[Yd Yf k,Ye (Ya ⟨b1,0,Yb⟩),Ye (Ya ⟨d,0,Yb⟩)] w' fun e w2=>e=.returned (.bool (!t.f (Zp ns k)))/\Below w'.heap.size w' w2:=by
 obtain⟨j,rfl⟩:∃j:Nat,k=j:=⟨k.toNat,by omega⟩
 have a:=r.below i;have hc:=Zlg a;obtain⟨f,o,e,hc⟩:=hc;have g:=m.keep i;rw[e]at g;have h:=n.keep i;have N:=q.below i;have l:j<ns.length:=by omega
 cases t with
 |is s=>
  obtain⟨b,v,y,p,z,B⟩:=a;rw[p]at e;injection e with e1 e2 e3;injection e1 with e1;subst e1 e3;exact ZqS w' b s b1 d A c ns j g h N hc l
 |stmt=>
  rw[show u=_ from a]at e;injection e with e1 e2 e3;injection e1 with e1;subst e1 e3;exact Zn6 w' b1 d A c ns j g h N hc l
 |expr=>
  rw[show u=_ from a]at e;injection e with e1 e2 e3;injection e1 with e1;subst e1 e3;exact Zn5 w' b1 d A c ns j g h N hc l
 |arg=>
  rw[show u=_ from a]at e;injection e with e1 e2 e3;injection e1 with e1;subst e1 e3;exact ZpP w' b1 d A c ns j g h N hc l
theorem ZpQ {l:List Int} {f:Int->Bool} {k:Nat} {x:Int} (hk:l[k]? = Ya x) (h:(l.take k).any f=false):(l.take (k+1)).any f=f x:=by rw[List.take_add_one,hk,List.any_append,h,Bool.false_or];simp
theorem Zl2 (w:Yh) (v:Yi) (l:List Int) (f:Int->Bool) (b1 D:Nat) (h:ZaX w v l) (G:∀(w':Yh),Below w.heap.size w w'->∀k∈l,Calls Tryz.prog 112 #[Yd Yf k,Ye (Ya ⟨b1,0,Yb⟩),Ye (Ya ⟨D,0,Yb⟩)] w' fun e w2=>e=.returned (.bool (f k))/\Below w'.heap.size w' w2) :
  Calls Tryz.prog 129 #[v,.func (.func 112) #[] #[Ye (Ya ⟨b1,0,Yb⟩),Ye (Ya ⟨D,0,Yb⟩)]] w fun e w'=>(∃z:Int,e=.returned (Yd Yf z)/\decide (0<=z)=l.any f)/\Below w.heap.size w w':=by
 obtain⟨A,M,rfl,E,F,t⟩:=h;obtain⟨n,y⟩:∃n,n=l.length:=⟨_,rfl⟩
 have p:n<=9223372036854775807:=by unfold maxLen at F;omega
 rw[<-y]at E t⊢;have s:=zh (zi y (zi p G));have I:=zh t;clear y E F t p G;go_enter Tryz.func129,Tryz.ntmps129;go_wp2_with fail;go_loopg [8] n (fun g J wr=>Below w.heap.size w wr/\∃k:Nat,J=Yd Yf k/\k<=n/\g=n-k/\(l.take k).any f=false)
 case atStart=>exact⟨Below.refl _ _,0,rfl,Nat.zero_le _,rfl,rfl⟩
 case round=>
  obtain⟨i,k,rfl,hk,u,a⟩:=hrel;by_cases d:k=n
  ·have e:l.take k=l:=by rw[d,s.out.1];exact List.take_length
   rw[e]at a;have j:=zh (zi (show decide ((0:Int)<=-1)=l.any f from by rw[a];rfl) i);subst d;clear hk u a e i;go_wp2_with fail;go_ret;exact⟨⟨_,rfl,j.out.1⟩,j.out.2⟩
  ·have o:k<n:=by omega
   obtain⟨x,hx⟩:∃x,l[k]? = Ya x:=⟨_,Ym (by have:=s.out.1;omega)⟩
   obtain⟨L,rfl,N⟩:=ints_at I.out i hx (by omega);have cl:=s.out.2.2 wr i x (List.mem_of_getElem? hx);have r:=ZpQ (f:=f) hx a
   have m:f x=true->decide ((0:Int)<=(k:Int))=l.any f:=fun q=>by
    rw[List.any_eq_true.2 ⟨x,List.mem_of_getElem? hx,q⟩];exact decide_eq_true (by omega)
   have O:(k:Int)<(n:Int):=by omega
   have i2:(0:Int)<=(k:Int):=by omega
   have P:IntKind.i64.wrap ((k:Int)+1)=(k:Int)+1:=IntWalk.i64_in _ (by have:=s.out.2.1;omega);generalize f x=H at *;have b:=zh (zi o (zi u i));have C:=zh (zi r m);have B:=zh cl;clear r m hx d o hk u a i cl;cases H
   ·go_wp2_with (go_at_call 112;(with_reducible refine B.out.mono ?_);rintro e K ⟨rfl,c⟩);go_roundg (n-(k+1))
    case measure=>have:=b.out.1;have:=b.out.2.1;omega
    case rel=>exact⟨b.out.2.2.trans (c.mono b.out.2.2.size),k+1,by push_cast;rfl,by have:=b.out.1;omega,rfl,C.out.1⟩
   ·go_wp2_with (go_at_call 112;(with_reducible refine B.out.mono ?_);rintro e K ⟨rfl,c⟩);go_ret;exact⟨⟨_,rfl,C.out.2 (by first|rfl|trivial)⟩,b.out.2.2.trans (c.mono b.out.2.2.size)⟩
theorem ZnU (w:Yh) (v:Yi) (l:List Int) (f:Int->Bool) (b1 a:Nat) (h:ZaX w v l) (d:∀(w':Yh),Below w.heap.size w w'->∀k∈l,Calls Tryz.prog 112 #[Yd Yf k,Ye (Ya ⟨b1,0,Yb⟩),Ye (Ya ⟨a,0,Yb⟩)] w' fun e w2=>e=.returned (.bool (f k))/\Below w'.heap.size w' w2) :
  Calls Tryz.prog 111 #[v,.func (.func 112) #[] #[Ye (Ya ⟨b1,0,Yb⟩),Ye (Ya ⟨a,0,Yb⟩)]] w fun e w'=>e=.returned (.bool (l.any f))/\Below w.heap.size w w':=by
 have i:=Zl2 w v l f b1 a h d;clear h d;generalize l.any f=B at *;have j:=zh i;clear i;go_enter Tryz.func111,Tryz.ntmps111;go_wp2_with (go_at_call 129;(with_reducible refine j.out.mono ?_);rintro e m ⟨⟨z,rfl,g⟩,c⟩;have b:=zh (zi g c);clear g c);go_ret;exact⟨by rw[<-b.out.1];rfl,b.out.2⟩
theorem ZqT {ns:List Nd} {a:List Int} {f:Int->Bool}:(!a.any fun k=>!f (Zp ns k))=Zam ns a f:=by unfold Zam;rw[List.all_eq_not_any_not]
theorem Zl7 (w:Yh) (v p u:Yi) (ns:List Nd) (d:List Int) (t:Tst) (j:Zi w v ns) (z:ZaX w p d) (m:ZaY w t u) (hk:Zaw d ns.length) :
  Calls Tryz.prog 82 #[v,p,u] w fun e w'=>e=.returned (.bool (Zam ns d t.f))/\Below w.heap.size w w':=by
 have C:∀(y:Fn) (first b:Array Yi) (w:Yh),(Instr.makeFunc y first b).run Tryz.prog w=.ok (.func y first b) w:=fun _ _ _ _=>rfl;obtain⟨A,c,rfl⟩:∃A c,v=Yc A ns.length c:=by obtain⟨A,c,_,e,_⟩:=j;exact⟨A,c,e⟩
 have i:=below_alloc1 w (.cells #[Yc A ns.length c] 22);have a2:=below_alloc1 (w.alloc (.cells #[Yc A ns.length c] 22)) (.cells #[u] 64);have a:=i.trans (a2.mono i.size);have q:=(Blk.start w #[Yc A ns.length c] 22).keep a2;have g:=Blk.start (w.alloc (.cells #[Yc A ns.length c] 22)) #[u] 64;rw[World.size_alloc]at g;have s:=ZnU _ p d (fun k=>!t.f (Zp ns k)) (w.heap.size+1) w.heap.size (z.below a) (fun w' l k hm=>ZpO _ t u (w.heap.size+1) w.heap.size A c ns (m.below a) g q (j.below a) w' l k (hk k hm));rw[<-ZqT];generalize d.any (fun k=>!t.f (Zp ns k))=B at *;have h:=zh s;have r:=zh a;clear s a i a2 g q j z hk;obtain⟨f,b,o,_⟩:=Zlg m;subst o;clear m;generalize ns.length=n at *;go_enter Tryz.func82,Tryz.ntmps82;go_wp2_with (go_at_call 111;(with_reducible refine h.out.mono ?_);rintro e D ⟨rfl,l⟩);go_ret;exact⟨rfl,r.out.trans (l.mono r.out.size)⟩
end
end Go.Proofs.YtfbepcelkijgkaaGreatDoor
