import Derived.Test.YtkgkmdhpnhmcpaaGreatDoorQBD
import Derived.Test.YtkgkmdhpnhmcpaaGreatDoorQBI
import Derived.Test.YtkgkmdhpnhmcpaaGreatDoorQBT
set_option maxRecDepth 100000
set_option maxHeartbeats 8000000
namespace Go.Proofs.YtkgkmdhpnhmcpaaGreatDoor
section
open Go.RowKit Go.Maps
def st0:Bk:=⟨[ZL,Zw,ZO],[ZL.name,Zw.name,ZO.name].reverse,[]⟩
def Zah (ns:List Nd):Bk:=(ZM ns (Zu ns 0).kids 1).foldl (ZaU ns) st0
theorem Zhr (ns:List Nd) (b:Bk) (n:Nd):(ZaU ns b n).ps.length<=b.ps.length+1/\(ZaU ns b n).ds.length<=b.ds.length+1/\(ZaU ns b n).taken.length=b.taken.length+1:=by
 unfold ZaU
 dsimp only
 split
 ·exact ⟨by simp,Nat.le_succ _,by simp⟩
 ·exact ⟨Nat.le_succ _,by simp,by simp⟩
theorem fold_size (ns:List Nd):∀ (l:List Nd) (b:Bk),(l.foldl (ZaU ns) b).ps.length<=b.ps.length+l.length/\(l.foldl (ZaU ns) b).ds.length<=b.ds.length+l.length/\(l.foldl (ZaU ns) b).taken.length=b.taken.length+l.length
 | [],b=>⟨Nat.le_refl _,Nat.le_refl _,rfl⟩
 | x::r,b=>by
  have h1:=Zhr ns b x
  have h2:=fold_size ns r (ZaU ns b x)
  rw [List.foldl_cons,List.length_cons]
  omega
theorem ZiO:Zbx 22:=Zce Tryz.func22 (by kernel_rfl) rfl
structure TreeOk (ns:List Nd):Prop where
 right:ZbJ ns=true
 some_:0<ns.length
 kids:Zej (Zu ns 0).kids ns.length
 few:(Zu ns 0).kids.length<=900
 pro:∀ j∈(Zu ns 0).kids,(Zu ns j).kind=1->ProtoOk ns (Zu ns j)/\SzP (ZaJ ns (Zu ns j)).pro
theorem BookS.less {w:World} {B B' bk bm:Nat} {ps:List Pro} {al:List Nat} (h:BookS B w bk bm ps al) (hb:B'<=B):BookS B' w bk bm ps al:=by
 obtain ⟨⟨vn,h1,h2⟩,h3,h4,h5,h6⟩:=h
 refine ⟨⟨vn,h1,ZF h2 hb⟩,h3,h4,fun i p a hp ha=>?_,Nat.le_trans hb h6.1,Nat.le_trans hb h6.2⟩
 obtain ⟨u1,u2,u3,u4,u5⟩:=h5 i p a hp ha
 exact ⟨u1,u2,u3,u4.less hb,Nat.le_trans hb u5⟩
theorem ZcY (w:World) (v:Value) (ns:List Nd) (hN:Zn w v ns) (ht:ZZ w 0 Zh) (hT:TreeOk ns) :
  Calls Tryz.prog 8 #[v] w fun e w'=>∃ bk bm al vd,e=.returned (.tuple #[.pointer (some ⟨bk,0,none⟩),vd])/\BookS w.heap.size w' bk bm (Zah ns).ps al/\w'.ownsRow w.heap.size 40 3 vd (Zah ns).ds.length (Zt dgC (Zah ns).ds)/\Below w.heap.size w w':=by
 have hNN:=hN
 obtain ⟨Al,cl_,rs,rfl,hl1,hl2,hm,hR,hNd⟩:=hN
 have hrl:rs.length=ns.length:=by rw [<- hm,List.length_map]
 have a1:=below_alloc1 w (.cells #[.slice Al ns.length cl_] 28)
 have B1:=Zd.start w #[.slice Al ns.length cl_] 28
 have RT:=zh (Zih Zhw _ _ ns (hNN.below a1) (ht.below a1))
 rw [hT.right] at RT
 have HH:=zh (zi a1 (zi B1 (zi hNN (zi hrl (zi hm (zi hR (zi hNd (zi hT (zi hl1 hl2)))))))))
 have l0:=B1.blk.cell 0
 simp only [List.getElem?_toArray,List.getElem?_cons_zero] at l0
 have hmf:∀ (fn:Fn) (first cap:Array Value) (w:World),(Instr.makeFunc fn first cap).run Tryz.prog w=.ok (.func fn first cap) w:=fun _ _ _ _=>rfl
 have hsf:=stF
 clear a1 B1 hNN hrl hm hR hNd hT hl1 hl2 ht
 go_enter Tryz.func8,Tryz.ntmps8
 go_upto_region 3 with (go_at_call 18;(refine RT.out.mono ?_);rintro e w1 ⟨rfl,hb1⟩;have H1:=zh (HH.out.1.trans (hb1.mono HH.out.1.size));have L1:=zh (HH.out.2.1.keep hb1);clear hb1)
 go_upto_region 4 with (go_at_call 19;(refine (ZdM _).mono ?_);rintro e w2 ⟨bk,bm,al0,rfl,hbk,hb2⟩;have H2:=zh (zi (hbk.less H1.out.size) (zi (H1.out.trans (hb2.mono H1.out.size)) (L1.out.keep hb2)));clear hbk hb2)
 have a3:=below_alloc1 w2 (.cells #[.pointer (some ⟨bk,0,none⟩)] 32)
 have B3:=Zd.start w2 #[.pointer (some ⟨bk,0,none⟩)] 32
 have lbm:=H2.out.1.map.lt
 generalize hbb:w2.heap.size=bb at B3 lbm
 have H3:=zh (zi (H2.out.1.keep a3) (zi (H2.out.2.1.trans (a3.mono H2.out.2.1.size)) (zi (H2.out.2.2.keep a3) (zi B3 lbm))))
 have HBB:=zh hbb
 clear a3 lbm
 generalize w2.alloc (.cells #[.pointer (some ⟨bk,0,none⟩)] 32)=W3 at *
 (try rw [hbb])
 clear hbb
 obtain ⟨vn,k1,k2⟩:=H3.out.1.box
 have c0:=k1.blk.cell 0
 have b0:=B3.blk.cell 0
 simp only [List.getElem?_toArray,List.getElem?_cons_zero] at c0 b0
 have KS:=Zfa (l:=[ZL,Zw,ZO].map (·.name)) (by simpa using k2) (by decide)
 have TY:=Zhu W3 vn _ KS (by decide)
 obtain ⟨An,cn,rfl⟩:=Zl k2
 unfold tkF at TY
 have TK:=zh TY
 clear k1 k2 KS TY B3
 go_upto_region 5 with (go_at_call 20;(refine TK.out.mono ?_);rintro e w4 ⟨bx,bf,rfl,hfr,htx,hg1,hg2,hb4⟩;have H4:=zh (zi hfr (zi htx (zi hg1 (zi hg2 hb4))));clear hfr htx hg1 hg2 hb4)
 have a5:=below_alloc1 w4 (.cells #[.func (.func 42) #[] #[.pointer (some ⟨bx,0,none⟩)]] 59)
 have B5:=Zd.start w4 #[.func (.func 42) #[] #[.pointer (some ⟨bx,0,none⟩)]] 59
 have b35:=H4.out.2.2.2.2.trans (a5.mono H4.out.2.2.2.2.size)
 generalize hub:w4.heap.size=ub at B5
 have H5:=zh (zi (H4.out.1.keep a5) (zi (H4.out.2.1.keep a5) (zi B5 b35)))
 clear a5 b35
 generalize w4.alloc (.cells #[.func (.func 42) #[] #[.pointer (some ⟨bx,0,none⟩)]] 59)=W5 at *
 (try rw [hub])
 clear hub c0 b0 B5
 go_upto_region 6 with fail
 have a6:=below_alloc1 W5 (.cells #[.slice none 0 0] 33)
 have B6:=Zd.start W5 #[.slice none 0 0] 33
 have b36:=H5.out.2.2.2.trans (a6.mono H5.out.2.2.2.size)
 have b06:=H3.out.2.1.trans (b36.mono H3.out.2.1.size)
 have gW:w.heap.size<=W5.heap.size:=Nat.le_trans H3.out.2.1.size H5.out.2.2.2.size
 generalize hgb:W5.heap.size=gb at B6 gW
 have NW:=zh (show NwS w.heap.size _ w.heap.size ub gb bb bk bm bx bf (.slice Al ns.length cl_) st0 al0 from
  ⟨H3.out.2.2.1.keep b36,H5.out.2.2.1.keep a6,⟨_,B6,World.ownsRow_nil _ _ _ _⟩,H3.out.2.2.2.1.keep b36,H3.out.1.keep b36,H5.out.1.keep a6,H5.out.2.1.keep a6,(by have:=H3.out.2.2.2.2;have:=H4.out.2.2.2.1;have:=H3.out.2.2.2.1.lt;omega),⟨gW,Nat.le_trans H3.out.2.1.size H4.out.2.2.2.1⟩,(by decide)⟩)
 have HB6:=zh b06
 clear a6 B6 b36 b06 gW
 generalize W5.alloc (.cells #[.slice none 0 0] 33)=W6 at *
 (try rw [hgb])
 clear hgb
 obtain ⟨⟨⟨xw,xu,xk⟩,kd,ws,nums,ks,pos⟩,hx0⟩:∃ x,rs[0]? = some x:=⟨_,List.getElem?_eq_getElem (by rw [HH.out.2.2.2.1];exact HH.out.2.2.2.2.2.2.2.1.some_)⟩
 have hroot:=Zbr HH.out.2.2.2.2.1 hx0
 rw [show ((0:Nat):Int)=0 from rfl] at hroot
 obtain ⟨ad,rfl,n0,n1,n2,n3,n4⟩:=ZS HH.out.2.2.2.2.2.1 (Below.refl _ _) hx0 HH.out.2.2.2.2.2.2.2.1.some_
 have hxd:=HH.out.2.2.2.2.2.2.1 _ (List.mem_of_getElem? hx0)
 obtain ⟨⟨Aw,cw,e1,_⟩,⟨Au,cu,e2,_⟩,⟨Ak,ck,e3,_⟩⟩:=id hxd
 dsimp only at e1 e2 e3 n0 n1 n2 n3 n4
 subst e1 e2 e3
 have z0:∀ a:Addr,a.add (0*5)=a:=fun a=>by simp [Addr.add]
 rw [z0] at n0 n1 n2 n3 n4
 have adl:ad.block<w.heap.size:=World.block_lt_of_cell? _ _ n0
 have hpl:(0:Int)<(ns.length:Int):=by have:=HH.out.2.2.2.2.2.2.2.1.some_;omega
 have hpn:0<ns.length:=HH.out.2.2.2.2.2.2.2.1.some_
 have SO:=zh (fun (V':World) (hb:Below w.heap.size w V') (hl:Zd V' w.heap.size 28 #[.slice (some ad) ns.length cl_])=>(show (((((V'.cell? ⟨w.heap.size,0,none⟩=some (.slice (some ad) ns.length cl_)/\V'.cell? ad=some (.int .i64 kd))/\V'.cell? ⟨ad.block,ad.off+1,none⟩=some (.slice Aw ws.length cw))/\V'.cell? ⟨ad.block,ad.off+2,none⟩=some (.slice Au nums.length cu))/\V'.cell? ⟨ad.block,ad.off+3,none⟩=some (.slice Ak ks.length ck))/\V'.cell? ⟨ad.block,ad.off+4,none⟩=some (.int .i64 pos)) from ⟨⟨⟨⟨⟨hl.blk.cell 0,(hb.cell adl).trans n0⟩,(hb.cell (p:=⟨ad.block,ad.off+1,none⟩) adl).trans n1⟩,(hb.cell (p:=⟨ad.block,ad.off+2,none⟩) adl).trans n2⟩,(hb.cell (p:=⟨ad.block,ad.off+3,none⟩) adl).trans n3⟩,(hb.cell (p:=⟨ad.block,ad.off+4,none⟩) adl).trans n4⟩))
 have EA:=zh (show Calls Tryz.prog 21 #[.slice (some ad) ns.length cl_,.agg #[.int .i64 kd,.slice Aw ws.length cw,.slice Au nums.length cu,.slice Ak ks.length ck,.int .i64 pos],.int .i64 1,.func (.func 22) #[] #[.pointer (some ⟨w.heap.size,0,none⟩),.pointer (some ⟨ub,0,none⟩),.pointer (some ⟨gb,0,none⟩),.pointer (some ⟨bb,0,none⟩)]] W6.drew _ from by
  have:=ZcA 22 #[.pointer (some ⟨w.heap.size,0,none⟩),.pointer (some ⟨ub,0,none⟩),.pointer (some ⟨gb,0,none⟩),.pointer (some ⟨bb,0,none⟩)] ZiO w W6.drew (some ad) cl_ rs ((.slice Aw ws.length cw,.slice Au nums.length cu,.slice Ak ks.length ck),⟨kd,ws,nums,ks,pos⟩) 1
   (fun k wr=>∃ al,NwS w.heap.size wr w.heap.size ub gb bb bk bm bx bf (.slice (some ad) ns.length cl_) ((ZM ns (ks.take k) 1).foldl (ZaU ns) st0) al)
   (by rw [HH.out.2.2.2.1];exact HH.out.2.2.2.2.2.1) HH.out.2.2.2.2.2.2.1 (by rw [HH.out.2.2.2.1];have:=HH.out.2.2.2.2.2.2.2.2.1;have:=HH.out.2.2.2.2.2.2.2.2.2;omega) hxd (by rw [HH.out.2.2.2.1];have:=HH.out.2.2.2.2.2.2.2.1.kids;rw [hroot] at this;exact this) HB6.out.drew
   ⟨al0,NW.out.keep (Zo W6)⟩
   (fun k w1 w2 h hb=>by obtain ⟨al,h⟩:=h;exact ⟨al,h.keep hb⟩)
   (fun i j y wr hi hy hbw hr=>by
    have hnd:=Zbr HH.out.2.2.2.2.1 hy
    dsimp only at hi
    have tk_:=Zch ns ks 1 i j hi
    rw [hnd] at tk_
    have hjm:(j:Int)∈ks:=List.mem_of_getElem? hi
    have hjr:(j:Int)∈(Zu ns 0).kids:=by rw [hroot];exact hjm
    obtain ⟨al,hr⟩:=hr
    refine ⟨fun hk2=>?_,fun hk2=>?_⟩
    ·obtain ⟨p1,p2⟩:=HH.out.2.2.2.2.2.2.2.1.pro j hjr (by rw [hnd];exact hk2)
     rw [hnd] at p1 p2
     have lk:(ZM ns (ks.take i) 1).length<=900:=Nat.le_trans (ZbP _ _ _) (Nat.le_trans (by rw [List.length_take];exact Nat.min_le_right _ _) (by have:=HH.out.2.2.2.2.2.2.2.1.few;rw [hroot] at this;exact this))
     obtain ⟨f1,f2,f3⟩:=fold_size ns (ZM ns (ks.take i) 1) st0
     have s1:st0.ps.length=3:=rfl
     have s2:st0.ds.length=0:=rfl
     have s3:st0.taken.length=3:=rfl
     refine (Zh9 wr w.heap.size w.heap.size ub gb bb bk bm bx bf _ _ al ns y hr (HH.out.2.2.1.below hbw) ((HH.out.2.2.2.2.2.2.1 y (List.mem_of_getElem? hy)).below hbw) p1 p2 hbw.size (by omega) (by omega) (by omega)).mono ?_
     rintro e w' ⟨he,⟨al',hn⟩,hbb⟩
     refine ⟨he,hbw.trans hbb,al',?_⟩
     rw [tk_,if_pos hk2,List.foldl_append]
     exact hn
    ·rw [tk_,if_neg hk2,List.append_nil]
     exact ⟨al,hr⟩)
  rw [HH.out.2.2.2.1] at this
  exact this)
 have HRT:=zh hroot
 clear n0 n1 n2 n3 n4 hxd hroot adl hx0 l0
 refine wp_region_noPanic ?_
 refine wp_region_held_drew (S:=fun V'=>(((((V'.cell? ⟨w.heap.size,0,none⟩=some (.slice (some ad) ns.length cl_)/\V'.cell? ad=some (.int .i64 kd))/\V'.cell? ⟨ad.block,ad.off+1,none⟩=some (.slice Aw ws.length cw))/\V'.cell? ⟨ad.block,ad.off+2,none⟩=some (.slice Au nums.length cu))/\V'.cell? ⟨ad.block,ad.off+3,none⟩=some (.slice Ak ks.length ck))/\V'.cell? ⟨ad.block,ad.off+4,none⟩=some (.int .i64 pos))) (by kernel_rfl) (SO.out _ HB6.out.drew NW.out.l) (fun hHeld=>?_)
 refine tk 0 rfl ?_
 refine tk 1 rfl ?_
 refine tk 2 rfl ?_
 refine tk 3 rfl ?_
 refine tk 4 rfl ?_
 (try simp only [cl,Act.put])
 refine rd 5 rfl fun K hK=>?_
 go_simp
 (go_at_call 21;(refine EA.out.mono ?_);rintro e w7 ⟨rfl,hb7,⟨al7,hn7⟩⟩)
 go_wp2_with fail
 have H7:=zh (zi hb7 hn7)
 refine hK.out _ _ (SO.out _ hb7 hn7.l) (fun _=>?_)
 clear hK K hb7 hn7
 refine wpAnyH_done (by kernel_rfl) ?_ _
 refine NoPanic.normal ?_
 go_wp2_with fail
 obtain ⟨vd,g1,g2⟩:=H7.out.2.d
 have x0:=g1.blk.cell 0
 have x1:=H7.out.2.b.blk.cell 0
 simp only [List.getElem?_toArray,List.getElem?_cons_zero] at x0 x1
 go_region
 go_wp2_with fail
 have eB:(ZM ns (ks.take ks.length) 1).foldl (ZaU ns) st0=Zah ns:=by rw [List.take_length];unfold Zah;rw [HRT.out]
 have HN7:=H7.out.2
 (try dsimp only at HN7 g2)
 rw [eB] at HN7 g2
 exact bodyPost_ret (v:=.tuple #[.pointer (some ⟨bk,0,none⟩),vd]) (by simp [results,Tryz.results8,go_sem]) rfl ⟨bk,bm,al7,vd,rfl,HN7.book.keep (Zo w7),g2,H7.out.1.drew⟩
end
section
open Go.RowKit
def szB (p:Pro):Bool:=
 decide (p.name.length<=140737488355328)&&decide (p.states.length<=80)&&decide (p.moves.length<=80)&&p.moves.all (fun m=>decide (m.outs.length<=80))&&p.states.all (fun s=>decide (s.name.length<=140737488355328))&&p.moves.all (fun m=>decide (m.op.length<=140737488355328)&&m.outs.all fun o=>decide (o.name.length<=140737488355328))
theorem Ziz {p:Pro} (h:szB p=true):SzP p:=by
 unfold szB at h
 simp only [Bool.and_eq_true,decide_eq_true_eq,List.all_eq_true] at h
 obtain ⟨⟨⟨⟨⟨h1,h2⟩,h3⟩,h4⟩,h5⟩,h6⟩:=h
 exact ⟨h1,h2,h3,h4,h5,h6⟩
def Ze2 (ns:List Nd) (j:Int):Bool:=
 (decide ((Zu ns j).kind≠2)||(decide (1<=(Zu ns j).words.length)&&decide (1<=(Zu ns j).nums.length)))&&(decide ((Zu ns j).kind≠3)||(decide (4<=(Zu ns j).words.length)&&decide ((Zu ns j).words.length % 2=0)&&decide ((Zu ns j).words.length<=1000)))
def inB (ks:List Int) (n:Nat):Bool:=ks.all fun k=>decide (0<=k)&&decide (k<(n:Int))
theorem Ziv {ks:List Int} {n:Nat} (h:inB ks n=true):Zej ks n:=fun k hk=>by
 have:=List.all_eq_true.1 h k hk
 simpa using this
def Ze4 (ns:List Nd) (n:Nd):Bool:=decide (1<=n.words.length)&&decide ((wdK n.words 0).length<=281474976710656)&&inB n.kids ns.length&&decide (n.kids.length<=1000)&&n.kids.all (Ze2 ns)
theorem Zif {ns:List Nd} {n:Nd} (h:Ze4 ns n=true):ProtoOk ns n:=by
 unfold Ze4 at h
 simp only [Bool.and_eq_true,decide_eq_true_eq,List.all_eq_true] at h
 obtain ⟨⟨⟨⟨h1,h2⟩,h3⟩,h4⟩,h5⟩:=h
 refine ⟨?_,Ziv h3,h4,fun j hj hk=>?_,fun j hj hk=>?_⟩
 ·cases q:n.words with
  | nil=>rw [q] at h1;simp at h1
  | cons a r=>
   rw [q] at h2
   exact ⟨a,r,rfl,h2⟩
 ·have:=h5 j hj
  unfold Ze2 at this
  simp only [Bool.and_eq_true,Bool.or_eq_true,decide_eq_true_eq] at this
  rcases this.1 with z | ⟨z1,z2⟩
  ·exact absurd hk z
  ·obtain ⟨a,r,e1⟩:=List.exists_cons_of_length_pos z1
   obtain ⟨b,q,e2⟩:=List.exists_cons_of_length_pos z2
   exact ⟨a,r,b,q,e1,e2⟩
 ·have:=h5 j hj
  unfold Ze2 at this
  simp only [Bool.and_eq_true,Bool.or_eq_true,decide_eq_true_eq] at this
  rcases this.2 with z | ⟨⟨z1,z2⟩,z3⟩
  ·exact absurd hk z
  ·exact ⟨z1,z2,z3⟩
def ZgG (ns:List Nd):Bool:=
 ZbJ ns&&decide (0<ns.length)&&inB (Zu ns 0).kids ns.length&&decide ((Zu ns 0).kids.length<=900)&&(Zu ns 0).kids.all fun j=>decide ((Zu ns j).kind≠1)||(Ze4 ns (Zu ns j)&&szB (ZaJ ns (Zu ns j)).pro)
theorem ZfW {ns:List Nd} (h:ZgG ns=true):TreeOk ns:=by
 unfold ZgG at h
 simp only [Bool.and_eq_true,decide_eq_true_eq,List.all_eq_true] at h
 obtain ⟨⟨⟨⟨h1,h2⟩,h3⟩,h4⟩,h5⟩:=h
 refine ⟨h1,h2,Ziv h3,h4,fun j hj hk=>?_⟩
 have:=h5 j hj
 simp only [Bool.or_eq_true,Bool.and_eq_true,decide_eq_true_eq] at this
 rcases this with z | ⟨z1,z2⟩
 ·exact absurd hk z
 ·exact ⟨Zif z1,Ziz z2⟩
def exT:List Nd:=[⟨0,[],[],[1],0⟩,⟨1,[[80]],[],[2,3,4],0⟩,⟨2,[[65]],[0],[],0⟩,⟨2,[[90]],[1],[],0⟩,⟨3,[[101,110,100],[65],[111,107],[90]],[],[],0⟩]
theorem Zjh:TreeOk exT:=ZfW (by decide +kernel)
theorem ZcZ:(Zah exT).ps.map (·.name)=[ZL.name,Zw.name,ZO.name,[80]]/\(Zah exT).ds=[]:=by decide +kernel
end
section
open Go.RowKit
theorem Zf2 (w:World) (B bk bm:Nat) (ps:List Pro) (al:List Nat) (h:BookS B w bk bm ps al) (h0:0<ps.length) (h1:ps.length<=1000) :
  Calls Tryz.prog 17 #[.pointer (some ⟨bk,0,none⟩)] w fun e w'=>∃ v,e=.returned v/\w'.ownsRow w.heap.size 9 1 v ps.length (ps.map fun p=>txt p.name)/\Below w.heap.size w w':=by
 obtain ⟨vn,k1,k2⟩:=h.box
 have CL:∃ (g cap:Nat),vn=.slice (some ⟨g,0,none⟩) ps.length cap/\Calls Tryz.prog 36 #[.slice (some ⟨g,0,none⟩) ps.length cap] w fun e w'=>∃ v',e=.returned v'/\w'.ownsRow w.heap.size 9 1 v' ps.length (((ps.map fun p=>(⟨p.name.toArray⟩:ByteArray)).take ps.length).map (Value.string))/\v'≠.slice none 0 0/\Below w.heap.size w w':=by
  obtain ⟨A,c,rfl⟩:=Zl k2
  obtain ⟨r1,r2,r3⟩:=Zac k2
  rcases k2.2 with ⟨q,z⟩ | ⟨g,cap,cur,q,_⟩
  ·omega
  ·injection q with q1 q2 q3
   subst q1 q3
   refine ⟨g,c,rfl,Tryz.slices_Clone_string g 0 ps.length c (ps.map fun p=>(⟨p.name.toArray⟩:ByteArray)) w (by simp) (by omega) fun j hj=>?_⟩
   obtain ⟨ad,ha,_,hc⟩:=r3.2 h0
   injection ha with ha
   subst ha
   have hj':j<ps.length:=by simpa using hj
   rw [show (ps.map fun p=>(⟨p.name.toArray⟩:ByteArray)).getD j ByteArray.empty=⟨ps[j].name.toArray⟩ from by simp [List.getD,hj']]
   have e:=hc j (txt ps[j].name) (by simp [hj'])
   rw [Addr.add_lit] at e
   exact e
 obtain ⟨g,cap,rfl,CL⟩:=CL
 have HC:=zh CL
 have c0:=k1.blk.cell 0
 simp only [List.getElem?_toArray,List.getElem?_cons_zero] at c0
 clear h k1 k2 CL
 go_enter Tryz.func17,Tryz.ntmps17
 go_wp2_with (go_at_call 36;(refine HC.out.mono ?_);rintro e w1 ⟨v',rfl,ho,_,hb⟩)
 refine bodyPost_ret (v:=v') (by simp [results,Tryz.results17,go_sem]) rfl ⟨v',rfl,?_,hb⟩
 rw [List.take_of_length_le (by simp),List.map_map] at ho
 exact ho
end
end Go.Proofs.YtkgkmdhpnhmcpaaGreatDoor
