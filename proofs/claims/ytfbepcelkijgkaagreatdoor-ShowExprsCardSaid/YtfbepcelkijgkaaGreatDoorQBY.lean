import Derived.Lib.BufferRead
import Derived.Lib.LaidTab
import Derived.Test.YtfbepcelkijgkaaGreatDoorQAI
import Derived.Test.YtfbepcelkijgkaaGreatDoorQAJ
import Derived.Test.YtfbepcelkijgkaaGreatDoorQAP
import Derived.Test.YtfbepcelkijgkaaGreatDoorQBV
import Derived.Test.YtfbepcelkijgkaaGreatDoorQBW
import Derived.Test.YtfbepcelkijgkaaGreatDoorQBX
set_option maxRecDepth 100000
set_option maxHeartbeats 8000000
open Option renaming some → Ya
open Go.Value renaming slice → Yc
open Go renaming World → Yh
namespace Go.Proofs.YtfbepcelkijgkaaGreatDoor
section
open Go.RowKit
theorem ZoD (b:Yh) (ns:List Nd) (T:PTabs b) (f:Nat) (o:f<=1500):ZcF 18 b ns 0 (ZgY ns f) (ZeB ns f):=by
 intro w g t n x h i hx a j;rcases a with⟨hk,⟨s,d⟩,a⟩|⟨hk,⟨s,d⟩,l,k,c,e,a⟩
 ·exact Zm6 b w g t n ns f x h i hx hk s d a j
 ·obtain⟨m,rfl,hm,a⟩:=Zeh a;exact Zrg b w g t n ns f x h i hx T.kinds T.names T.ten _ (Zhu b ns T f 1 (by omega)) hk s d l m c e hm a j
theorem Zjt {w:Yh} {a:Nat} {t:Txt} {v:Value} (h:w.ownsRow a 5 1 v t.length (u8s t)):(convert 43 9 v).run Tryz.prog w=.ok (txt t) w:=by
 obtain⟨_,⟨rfl,f⟩|⟨g,b,d,rfl,_,e,_,_,_,c⟩⟩:=h
 ·obtain rfl:t=[]:=List.length_eq_zero_iff.mp f;exact Lib.run_convert_nil_bytes w _ _ 5 0 Tryz.underlying43 Tryz.underlying5 Tryz.underlying9
 ·refine run_convert_bytes_back w _ _ 5 ⟨g,0,none⟩ b t Tryz.underlying43 Tryz.underlying5 Tryz.underlying9 (Lib.bytes_of_row e ?_);rw[<-Zgl];simpa using c
end
section
open Go.RowKit
theorem Zqp (w:Yh) (v:Value) (ns:List Nd) (s:Zi w v ns) (hk:ZaI w 3 ZB) (T:PTabs w) (t:ZcB ns=true) (m:(ZiT ns).length+10000<=140737488355328) :
  Calls Tryz.prog 9 #[v] w fun e w'=>e=.returned (txt (ZiT ns))/\Below w.heap.size w w':=by
 have X:=zh (ZjM w v ns s hk t);obtain⟨An,q,rs,rfl,h⟩:=id s;have b:=zh h;clear h;have R:=ZfT t;have K:ZiT ns=Zb1 0 ((Zf ns 0).kids.map fun k=>ZeB ns ns.length (Zf ns k)):=by unfold ZiT;rw[t];rfl
 rw[K]at m⊢;have z:=zh (Zm8 R);have f:=R.some_;have a:=R.len;obtain⟨d,hd⟩:∃d,ns[0]? = Ya d:=⟨_,Ym f⟩
 have L:Zf ns 0=d:=ZbP (k:=0) hd;rw[L]at m z⊢;obtain⟨r,c⟩:∃r,rs[0]? = Ya r:=⟨_,Ym (by have:=congrArg List.length b.out.2.2.1;rw[List.length_map]at this;omega)⟩
 obtain rfl:r.2=d:=by
  have:ns[0]? = Ya r.2:=by rw[<-b.out.2.2.1,List.getElem?_map,c];rfl
  exact Option.some.inj (this.symm.trans hd)
 obtain⟨⟨vw,vu,vk⟩,kd,ws,S,ks,ps⟩:=r;obtain⟨Q,P,i⟩:=b.out.2.2.2.2 _ (List.mem_of_getElem? c);dsimp only at Q P i m z⊢;obtain⟨Aw,cw,rfl,_⟩:=Q;obtain⟨Au,cu,rfl,_⟩:=P;obtain⟨V,Z,rfl,j,l,M⟩:=i;have i1:(0:Int)<(ns.length:Int):=by omega
 have p:=zh (zi s (zi c (zi M (zi l j))));have y:=zh (zi T (zi m (zi f a)));clear t R K m T hk s hd L c j l M f a;go_enter Tryz.func9,Tryz.ntmps9;go_upto_region 3 with(go_at_call 16;(with_reducible refine X.out.mono ?_);rintro e o ⟨rfl,N⟩;have u:=zh N;clear N)
 go_upto_region 4 with fail;have a2:=below_alloc1 o (.cells #[Yc none 0 0,.int .i64 0,Yc An ns.length q] 47);have F:Zk _ _ _ _:=Zk.start o #[Yc none 0 0,.int .i64 0,Yc An ns.length q] 47;generalize ac:o.alloc (.cells #[Yc none 0 0,.int .i64 0,Yc An ns.length q] 47)=U at *;have H:=zh (show PrS w U o.heap.size [] 0 (Yc An ns.length q)from⟨⟨_,F,⟨rfl,.inl ⟨rfl,rfl⟩⟩⟩,u.out.trans (a2.mono u.out.size),u.out.size⟩);clear a2 F;obtain⟨I,rfl,A,B,C,D,E⟩:=Zan b.out.2.2.2.1 H.out.below p.out.2.1 (by omega);have ea:I.add (0*5)=I:=by unfold Addr.add;simp
 rw[ea]at A B C D E;dsimp only at A B C D E;have W:=zh (ZjC _ Zln w U o.heap.size 0 [] _ ns V Z ks _ _ H.out p.out.1 (by omega) p.out.2.2.1 (by have:=p.out.2.2.2;omega) z.out (ZoD w ns y.out.1 ns.length y.out.2.2.2) (by have:=y.out.2.1;simpa using this));go_upto_region 5 with(go_at_call 17;(refine W.out.mono ?_);rintro e w3 ⟨rfl,O,hf⟩;have G:=zh O;clear O hf)
 obtain⟨v3,n,g⟩:=G.out.box;have J:=n.blk.cell 0;simp only[List.getElem?_toArray,List.getElem?_cons_zero]at J;have cv:=Zjt g;obtain⟨A3,Y,rfl⟩:=Zbj g;rw[List.nil_append]at cv J;clear n g A B C D E;go_wp2_with fail;go_ret;exact⟨rfl,G.out.below⟩
theorem Zl0 (w:Yh):Calls Tryz.prog 9 #[Yc none 0 0] w fun e w'=>e=.returned (txt [])/\Below w.heap.size w w':=by have c:=zh (Zo6 w);go_enter Tryz.func9,Tryz.ntmps9;go_wp2_with (go_at_call 16;(with_reducible refine c.out.mono ?_);rintro e d ⟨rfl,a⟩;have b:=zh a;clear a);go_ret;exact⟨rfl,b.out⟩
end
section
open Go.RowKit
theorem Zld (w:Yh) (v:Value) (ns:List Nd) (i:Nat) (d:Nd) (m:Zi w v ns) (hk:ZaI w 3 ZB) (T:PTabs w) (o:ZcB ns=true) (hd:ns[i]? = Ya d) (u:ZF d.kind=true) (z:(ZH ns ns.length d).length+10000<=140737488355328) :
  Calls Tryz.prog 12 #[v,.int .i64 i] w fun e w'=>e=.returned (txt (ZH ns ns.length d))/\Below w.heap.size w w':=by
 have L:=zh (ZjM w v ns m hk o);obtain⟨An,l,U,rfl,g⟩:=id m;have a:=zh g;clear g;have R:=ZfT o;have K:=zh (Zdr R ns.length i d hd (by omega) u);have y:=(List.getElem?_eq_some_iff.1 hd).1;have f:=R.len;obtain⟨r,c⟩:∃r,U[i]? = Ya r:=⟨_,Ym (by have:=congrArg List.length a.out.2.2.1;rw[List.length_map]at this;omega)⟩
 obtain rfl:r.2=d:=by
  have:ns[i]? = Ya r.2:=by rw[<-a.out.2.2.1,List.getElem?_map,c];rfl
  exact Option.some.inj (this.symm.trans hd)
 have hx:=a.out.2.2.2.2 _ (List.mem_of_getElem? c);have J:=zh (Zku w ns T.ten T.signs ns.length);have i0:(0:Int)<=(i:Int):=by omega
 have Q:¬((i:Int)<0):=by omega
 have Y:(i:Int)<(ns.length:Int):=by omega
 have S:¬((ns.length:Int)<=(i:Int)):=by omega
 have k:=zh (zi m (zi c (zi hx (zi z y))));clear o R T hk m hd c z y f u hx;go_enter Tryz.func12,Tryz.ntmps12;go_upto_region 3 with(go_at_call 16;(with_reducible refine L.out.mono ?_);rintro e j ⟨rfl,t⟩;have n:=zh t;clear t)
 go_upto_region 4 with fail;have a2:=below_alloc1 j (.cells #[Yc none 0 0,.int .i64 0,Yc An ns.length l] 47);have p:Zk _ _ _ _:=Zk.start j #[Yc none 0 0,.int .i64 0,Yc An ns.length l] 47;generalize P:j.alloc (.cells #[Yc none 0 0,.int .i64 0,Yc An ns.length l] 47)=H at *;have s:=zh (show PrS w H j.heap.size [] 0 (Yc An ns.length l)from⟨⟨_,p,⟨rfl,.inl ⟨rfl,rfl⟩⟩⟩,n.out.trans (a2.mono n.out.size),n.out.size⟩);clear a2 p;obtain⟨W,rfl,B,C,D,E,F⟩:=Zan a.out.2.2.2.1 s.out.below k.out.2.1 (by omega);have I:=zh (J.out H j.heap.size 0 [] _ r s.out k.out.1 k.out.2.2.1 K.out (by have:=k.out.2.2.2.1;simp only[Yl];omega));obtain⟨⟨vw,vu,vk⟩,Z,ws,G,ks,ps⟩:=r;dsimp only at B C D E F;go_upto_region 5 with(go_at_call 23;(refine I.out.mono ?_);rintro e w3 ⟨rfl,A,O⟩;have q:=zh A;clear A O)
 obtain⟨v3,h,b⟩:=q.out.box;have M:=h.blk.cell 0;simp only[List.getElem?_toArray,List.getElem?_cons_zero]at M;rw[List.nil_append]at b;have X:=Zjt b;obtain⟨V,N,rfl⟩:=Zbj b;clear h b B C D E F;go_wp2_with fail;go_ret;exact⟨rfl,q.out.below⟩
end
section
open Go.RowKit
structure ShoTabs (W:Yh):Prop where
 keys:ZaI W 3 ZB
 p:PTabs W
theorem PTabs.below {w w':Yh} (h:PTabs w) (a:Below w.heap.size w w'):PTabs w':=⟨h.kinds.below a,h.names.below a,h.signs.below a,fun c b=>h.ten c (a.trans (b.mono a.size))⟩
theorem ShoTabs.below {w w':Yh} (h:ShoTabs w) (a:Below w.heap.size w w'):ShoTabs w':=⟨h.keys.below a,h.p.below a⟩
theorem Tryz.gKinds:Tryz.prog.globalNamed "ballcock/show.kinds"=Ya 1:=by kernel_rfl
theorem Tryz.gKindsType:(Tryz.prog.globals[1]?).map (·.type)=Ya 90:=by kernel_rfl
theorem Tryz.gNamesW:Tryz.prog.globalNamed "ballcock/show.namesWords"=Ya 2:=by kernel_rfl
theorem Tryz.gNamesWType:(Tryz.prog.globals[2]?).map (·.type)=Ya 101:=by kernel_rfl
theorem Tryz.gShoSigns:Tryz.prog.globalNamed "ballcock/show.signs"=Ya 0:=by kernel_rfl
theorem Tryz.gShoSignsType:(Tryz.prog.globals[0]?).map (·.type)=Ya 82:=by kernel_rfl
theorem Tryz.gTen:Tryz.prog.globalNamed "internal/strconv.uint64pow10"=Ya 4:=by kernel_rfl
theorem Tryz.gTenType:(Tryz.prog.globals[4]?).map (·.type)=Ya 146:=by kernel_rfl
theorem Zqu {W:Yh} (h:laidMetH Tryz.prog [("math/bits.deBruijn32tab",Rows.laid_math_bits_deBruijn32tab),("math/bits.deBruijn64tab",Rows.laid_math_bits_deBruijn64tab),("internal/strconv.uint64pow10",Rows.laid_internal_strconv_uint64pow10),("ballcock/lex.keywords",Rows.laid_ballcock_lex_keywords),("ballcock/show.signs",Rows.laid_ballcock_show_signs),("ballcock/show.kinds",Rows.laid_ballcock_show_kinds),("ballcock/show.namesWords",Rows.laid_ballcock_show_namesWords)] W):ShoTabs W:=by
 rw[MakeChecks.laidMetH_plain _ _ _ (by kernel_rfl)]at h;have a:=laidMet.tail (laidMet.tail h);have b:=laidMet.tail a;have c:=laidMet.tail b;have d:=laidMet.tail c;have e:=laidMet.tail d
 exact⟨ZeM (zs:=ZB) Tryz.gKeys Tryz.gKeysType Tryz.underlying130 Tryz.underlying9 Tryz.cellsS (by kernel_rfl) b,
  ZeM (zs:=ZeC) Tryz.gKinds Tryz.gKindsType Tryz.underlying90 Tryz.underlying9 Tryz.cellsS (by kernel_rfl) d,
  ZeM (zs:=Zb2) (rest:=[]) Tryz.gNamesW Tryz.gNamesWType Tryz.underlying101 Tryz.underlying9 Tryz.cellsS (by kernel_rfl) e,
  ZeM (zs:=Ze7) Tryz.gShoSigns Tryz.gShoSignsType Tryz.underlying82 Tryz.underlying9 Tryz.cellsS (by kernel_rfl) c,
  Lib.tabBelow_of_tabIs (Lib.tabIs_of_head (zs:=Lib.pow10Tab) Tryz.gTen Tryz.gTenType Tryz.underlying146 Tryz.underlying112 (by kernel_rfl) (by kernel_rfl) a)⟩
def ns8:List Nd:=[⟨0,[],[],[1],0⟩,⟨4,[[109,97,105,110]],[],[2],0⟩,⟨7,[],[],[3],0⟩,⟨19,[],[],[],0⟩]
def Zsr:Txt:=[102,110,32,109,97,105,110,40,41,32,123,10,32,32,101,120,105,116,59,10,125,10]
theorem ZqO:ZiT ns8=Zsr:=by decide +kernel
theorem Zqt (w:Yh) (l:List Txt) (ty:TypeId) (h:l.length<=maxLen) (a:∀s∈l,s.length<=maxLen):Zdc (w.alloc (.cells (l.map txt).toArray ty)) (Yc (Ya ⟨w.heap.size,0,none⟩) l.length l.length) l:=
 ⟨_,_,rfl,Nat.le_refl _,h,by simpa using Zhm w (l.map txt) ty,a⟩
end
end Go.Proofs.YtfbepcelkijgkaaGreatDoor
