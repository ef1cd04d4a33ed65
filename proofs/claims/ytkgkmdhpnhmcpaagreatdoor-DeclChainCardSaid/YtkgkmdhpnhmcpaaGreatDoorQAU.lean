import Derived.Test.YtkgkmdhpnhmcpaaGreatDoorQAT
set_option maxRecDepth 100000
set_option maxHeartbeats 8000000
namespace Go.Proofs.YtkgkmdhpnhmcpaaGreatDoor
section
open Go.RowKit
structure ProtoOk (ns:List Nd) (n:Nd):Prop where
 name:∃ s r,n.words=s::r/\s.length<=281474976710656
 kids:Zej n.kids ns.length
 few:n.kids.length<=1000
 st:∀ j∈n.kids,(Zu ns j).kind=2->∃ s sr u ur,(Zu ns j).words=s::sr/\(Zu ns j).nums=u::ur
 op:∀ j∈n.kids,(Zu ns j).kind=3->4<=(Zu ns j).words.length/\(Zu ns j).words.length % 2=0/\(Zu ns j).words.length<=1000
theorem ZbP (ns:List Nd) (ks:List Int) (k:Int):(ZM ns ks k).length<=ks.length:=by
 unfold ZM
 exact Nat.le_trans (List.length_filter_le _ _) (by rw [List.length_map];exact Nat.le_refl _)
theorem Zbr {ns:List Nd} {rs:List (NdV×Nd)} (hm:rs.map (·.2)=ns) {j:Nat} {y:NdV×Nd} (hy:rs[j]? = some y):Zu ns (j:Int)=y.2:=by
 unfold Zu
 rw [<- hm,Int.toNat_natCast,List.getElem?_map,hy]
 rfl
theorem Zc4 {w w':World} {base size n:Nat} {e:TypeId} {v:Value} {xs:List Value} (h:w.ownsRow base e size v n xs) (hs:∀ g,v.ownBlock=some g->w'.heap[g]? = w.heap[g]?):w'.ownsRow base e size v n xs:=by
 refine ⟨h.1,h.2.imp id ?_⟩
 rintro ⟨g,cap,cur,hv,hb,hg,r⟩
 exact ⟨g,cap,cur,hv,hb,(hs g (by rw [hv];rfl)).trans hg,r⟩
theorem Zae.own {w w':World} {B bd base size n:Nat} {e ty:TypeId} {v:Value} {xs:List Value} {cs:Array Value} (k:Zae B bd w w') (hB:w.heap.size<=B) (h:w.ownsRow base e size v n xs) (ht:Zd w bd ty cs) (hne:ty≠e):w'.ownsRow base e size v n xs:=
 Zc4 h fun g hg=>k g (Nat.lt_of_lt_of_le (h.lt g hg).2 hB) (fun q=>ht.off h hne (by rw [<- q];exact hg))
theorem Zae.tblk {w w':World} {B bd b:Nat} {ty:TypeId} {cs:Array Value} (k:Zae B bd w w') (h:Zd w b ty cs) (hb:b<B) (hne:b≠bd):Zd w' b ty cs:=(k b hb hne).trans h
theorem PlcS.keepO {w w':World} {B bd bx bm:Nat} {ss:List Sta} {ty:TypeId} {cs:Array Value} (h:PlcS w bx bm ss) (k:Zae B bd w w') (hB:w.heap.size<=B) (ht:Zd w bd ty cs) (hne:93≠ty):PlcS w' bx bm ss:=
 ⟨k.tblk h.box (Nat.lt_of_lt_of_le h.box.lt hB) (ZaV h.box ht hne),h.map.keepE (k bm (Nat.lt_of_lt_of_le h.map.lt hB) (h.map.not_blk ht))⟩
theorem ZhU:(Tryz.prog.info? 66).map (fun i=>(i.zero,i.size,i.bytes))=some (some (.agg #[.string ⟨#[]⟩,.slice none 0 0,.slice none 0 0,.int .i64 0,.slice none 0 0,.slice none 0 0]),6,120):=by kernel_rfl
theorem Zi9 {w w6:World} {x0 x1 x2 x3 x4 x5:Value} (h:Zd w6 (w.heap.size+1) 66 #[x0,x1,x2,x3,x4,x5]) (hb:Below w.heap.size w w6) (u0 u1 u2 u3 u4 u5:Value) :
  Zd ((((((w6.setCell ⟨w.heap.size+1,0,none⟩ u0).setCell ⟨w.heap.size+1,1,none⟩ u1).setCell ⟨w.heap.size+1,2,none⟩ u2).setCell ⟨w.heap.size+1,3,none⟩ u3).setCell ⟨w.heap.size+1,4,none⟩ u4).setCell ⟨w.heap.size+1,5,none⟩ u5) (w.heap.size+1) 66 #[u0,u1,u2,u3,u4,u5] ∧
  Below w.heap.size w ((((((w6.setCell ⟨w.heap.size+1,0,none⟩ u0).setCell ⟨w.heap.size+1,1,none⟩ u1).setCell ⟨w.heap.size+1,2,none⟩ u2).setCell ⟨w.heap.size+1,3,none⟩ u3).setCell ⟨w.heap.size+1,4,none⟩ u4).setCell ⟨w.heap.size+1,5,none⟩ u5) ∧
  ∀ {base size n:Nat} {e:TypeId} {v:Value} {xs:List Value},w6.ownsRow base e size v n xs->66≠e->((((((w6.setCell ⟨w.heap.size+1,0,none⟩ u0).setCell ⟨w.heap.size+1,1,none⟩ u1).setCell ⟨w.heap.size+1,2,none⟩ u2).setCell ⟨w.heap.size+1,3,none⟩ u3).setCell ⟨w.heap.size+1,4,none⟩ u4).setCell ⟨w.heap.size+1,5,none⟩ u5).ownsRow base e size v n xs:=by
 have le:w.heap.size<=w.heap.size+1:=Nat.le_succ _
 refine ⟨by simpa using ((((((h.set 0 u0).set 1 u1).set 2 u2).set 3 u3).set 4 u4).set 5 u5),(((((hb.setCell (p:=⟨w.heap.size+1,0,none⟩) le u0).setCell (p:=⟨w.heap.size+1,1,none⟩) le u1).setCell (p:=⟨w.heap.size+1,2,none⟩) le u2).setCell (p:=⟨w.heap.size+1,3,none⟩) le u3).setCell (p:=⟨w.heap.size+1,4,none⟩) le u4).setCell (p:=⟨w.heap.size+1,5,none⟩) le u5,fun ho hne=>?_⟩
 have q:=h.off ho hne
 exact Zg (Zg (Zg (Zg (Zg (Zg ho q) q) q) q) q) q
theorem ZiM:Zbx 44:=Zce Tryz.func44 (by kernel_rfl) rfl
theorem ZiN:Zbx 46:=Zce Tryz.func46 (by kernel_rfl) rfl
theorem ZgT (w:World) (v:Value) (ns:List Nd) (x:NdV×Nd) (hN:Zn w v ns) (hx:ZJ w x) (hp:ProtoOk ns x.2) :
  Calls Tryz.prog 23 #[v,ndW x] w fun e w'=>∃ vs vm va vo,e=.returned (.agg #[txt (wdK x.2.words 0),vs,vm,.int .i64 x.2.pos,va,vo])/\ZN w' w.heap.size vs vm (ZaJ ns x.2).pro/\ZH w' va (ZaJ ns x.2).sts/\ZH w' vo (ZaJ ns x.2).ops/\Below w.heap.size w w':=by
 obtain ⟨⟨xw,xu,xk⟩,kd,ws,nums,ks,pos⟩:=x
 obtain ⟨Al,cl_,rs,rfl,hl1,hl2,hm,hR,hNd⟩:=hN
 have hrl:rs.length=ns.length:=by rw [<- hm,List.length_map]
 obtain ⟨s,sr,hws,hsl⟩:=hp.name
 have hxx:=hx
 obtain ⟨⟨Aw,cw,e1,_,_,hW,_⟩,⟨Au,cu,e2,_⟩,⟨Ak,ck,e3,_⟩⟩:=hx
 dsimp only at hws e1 e2 e3 hp hW ⊢
 subst hws e1 e2 e3
 have a1:=below_alloc1 w (.cells #[.int .i64 kd,.slice Aw (s::sr).length cw,.slice Au nums.length cu,.slice Ak ks.length ck,.int .i64 pos] 27)
 have a2:=below_alloc1 (w.alloc (.cells #[.int .i64 kd,.slice Aw (s::sr).length cw,.slice Au nums.length cu,.slice Ak ks.length ck,.int .i64 pos] 27)) (.cells #[.string ⟨#[]⟩,.slice none 0 0,.slice none 0 0,.int .i64 0,.slice none 0 0,.slice none 0 0] 66)
 have a12:=a1.trans (a2.mono a1.size)
 have B1:=(Zd.start w #[.int .i64 kd,.slice Aw (s::sr).length cw,.slice Au nums.length cu,.slice Ak ks.length ck,.int .i64 pos] 27).keep a2
 have B2:=Zd.start (w.alloc (.cells #[.int .i64 kd,.slice Aw (s::sr).length cw,.slice Au nums.length cu,.slice Ak ks.length ck,.int .i64 pos] 27)) #[.string ⟨#[]⟩,.slice none 0 0,.slice none 0 0,.int .i64 0,.slice none 0 0,.slice none 0 0] 66
 rw [World.size_alloc] at B2
 obtain ⟨aw,rfl,q0⟩:=Zba hW a12 (k:=0) rfl (by simp)
 have z0:∀ a:Addr,a.add 0=a:=fun a=>by simp [Addr.add]
 rw [z0] at q0
 have SC:=zh (fun (V:World)=>Zbg s V hsl)
 have HH:=zh (zi a12 (zi B1 (zi B2 (zi hrl (zi hm (zi hR (zi hNd (zi hxx hp))))))))
 have HL:=zh (zi hl1 hl2)
 clear a1 a2 a12 hrl hm hR hNd hxx hp hl1 hl2 hW
 go_enter Tryz.func23,Tryz.ntmps23
 go_upto_region 1 with fail
 generalize (w.alloc (.cells #[.int .i64 kd,.slice (some aw) (s::sr).length cw,.slice Au nums.length cu,.slice Ak ks.length ck,.int .i64 pos] 27)).alloc (.cells #[.string ⟨#[]⟩,.slice none 0 0,.slice none 0 0,.int .i64 0,.slice none 0 0,.slice none 0 0] 66)=W at *
 have SO:=zh (fun (V':World) (hb:Below W.heap.size W V')=>(show (V'.cell? ⟨w.heap.size,1,none⟩=some (.slice (some aw) (s::sr).length cw)/\V'.cell? aw=some (txt s))/\V'.cell? ⟨w.heap.size,4,none⟩=some (.int .i64 pos) from ⟨⟨(B1.keep hb).blk.cell 1,ZaG hb q0⟩,(B1.keep hb).blk.cell 4⟩))
 clear B1 B2
 go_cut [5] from 7 to 15 (fun v5 wx=>∃ b,v5=.pointer (some ⟨b,0,none⟩)/\Zd wx b 66 #[txt s,.slice none 0 0,.slice none 0 0,.int .i64 pos,.slice none 0 0,.slice none 0 0]/\Below W.heap.size W wx/\W.heap.size<=b)
 case first=>
  refine wp_region_noPanic ?_
  refine wp_region_held_drew (S:=fun V'=>(V'.cell? ⟨w.heap.size,1,none⟩=some (.slice (some aw) (s::sr).length cw)/\V'.cell? aw=some (txt s))/\V'.cell? ⟨w.heap.size,4,none⟩=some (.int .i64 pos)) (by kernel_rfl) (SO.out _ (Zo W)) (fun hHeld=>?_)
  refine tk 0 rfl ?_
  refine tk 1 rfl ?_
  refine tk 2 rfl ?_
  refine tk 3 rfl ?_
  refine tk 6 rfl ?_
  refine tk 7 rfl ?_
  (try simp only [cl,Act.put])
  refine wpAnyH_ready (rs:=[4,9]) (by kernel_rfl) (by simp) (AllReadyH.cons (o:=_) rfl (fun K hK=>?_) (AllReadyH.cons (o:=_) rfl (fun K hK=>?_) AllReadyH.nil))
  ·go_simp
   (go_at_call 43;(with_reducible refine (SC.out _).mono ?_);rintro e w1 ⟨rfl,hb1⟩)
   go_wp2_with fail
   have KB:=zh ((Zo W).trans (show Below W.heap.size W.drew w1 from hb1))
   refine hK.out _ _ (SO.out _ KB.out) (fun _=>?_)
   clear hK K hb1
   (try simp only [cl,Act.put])
   refine tk 5 rfl ?_
   refine tk 8 rfl ?_
   (try simp only [cl,Act.put])
   refine rd 9 rfl fun K hK=>?_
   go_simp
   refine hK.out _ _ (SO.out _ (KB.out.trans ((below_alloc1 w1 _).mono KB.out.size))) (fun _=>?_)
   clear hK K
   (try simp only [cl,Act.put])
   refine rd 10 rfl fun K hK=>?_
   have Z:=(Zd.start w1 #[.string ⟨#[]⟩,.slice none 0 0,.slice none 0 0,.int .i64 0,.slice none 0 0,.slice none 0 0] 66)
   have g0:=Z.blk.cell 0
   have y0:=Z.blk.free 0
   have g1:=Z.blk.cell 1
   have y1:=Z.blk.free 1
   have g2:=Z.blk.cell 2
   have y2:=Z.blk.free 2
   have g3:=Z.blk.cell 3
   have y3:=Z.blk.free 3
   have g4:=Z.blk.cell 4
   have y4:=Z.blk.free 4
   have g5:=Z.blk.cell 5
   have y5:=Z.blk.free 5
   simp only [List.getElem?_toArray,List.getElem?_cons_zero,List.getElem?_cons_succ] at g0 g1 g2 g3 g4 g5
   go_simp
   refine hK.out _ _ (SO.out _ (KB.out.trans ((below_alloc1 w1 (.cells #[txt s,.slice none 0 0,.slice none 0 0,.int .i64 pos,.slice none 0 0,.slice none 0 0] 66)).mono KB.out.size))) (fun _=>?_)
   clear hK K
   refine wpAnyH_done (by kernel_rfl) ?_ _
   refine NoPanic.normal ?_
   go_wp2_with fail
   go_meet
   exact ⟨_,rfl,Zd.start w1 _ _,KB.out.trans ((below_alloc1 w1 _).mono KB.out.size),KB.out.size⟩
  ·go_simp
   refine hK.out _ _ (SO.out _ (below_alloc1 W _).drew) (fun _=>?_)
   clear hK K
   (try simp only [cl,Act.put])
   refine rd 4 rfl fun K hK=>?_
   go_simp
   (go_at_call 43;(with_reducible refine (SC.out _).mono ?_);rintro e w1 ⟨rfl,hb1⟩)
   go_wp2_with fail
   have KB:=zh ((below_alloc1 W (.cells #[.string ⟨#[]⟩,.slice none 0 0,.slice none 0 0,.int .i64 0,.slice none 0 0,.slice none 0 0] 66)).drew.trans ((show Below (W.alloc (.cells #[.string ⟨#[]⟩,.slice none 0 0,.slice none 0 0,.int .i64 0,.slice none 0 0,.slice none 0 0] 66)).drew.heap.size (W.alloc (.cells #[.string ⟨#[]⟩,.slice none 0 0,.slice none 0 0,.int .i64 0,.slice none 0 0,.slice none 0 0] 66)).drew w1 from hb1).mono (below_alloc1 W (.cells #[.string ⟨#[]⟩,.slice none 0 0,.slice none 0 0,.int .i64 0,.slice none 0 0,.slice none 0 0] 66)).size))
   have Z:=(show Zd (W.alloc (.cells #[.string ⟨#[]⟩,.slice none 0 0,.slice none 0 0,.int .i64 0,.slice none 0 0,.slice none 0 0] 66)).drew W.heap.size _ _ from Zd.start W #[.string ⟨#[]⟩,.slice none 0 0,.slice none 0 0,.int .i64 0,.slice none 0 0,.slice none 0 0] 66).keep (show Below (W.alloc (.cells #[.string ⟨#[]⟩,.slice none 0 0,.slice none 0 0,.int .i64 0,.slice none 0 0,.slice none 0 0] 66)).drew.heap.size (W.alloc (.cells #[.string ⟨#[]⟩,.slice none 0 0,.slice none 0 0,.int .i64 0,.slice none 0 0,.slice none 0 0] 66)).drew w1 from hb1)
   refine hK.out _ _ (SO.out _ KB.out) (fun _=>?_)
   clear hK K hb1
   (try simp only [cl,Act.put])
   refine tk 5 rfl ?_
   refine tk 8 rfl ?_
   (try simp only [cl,Act.put])
   refine rd 10 rfl fun K hK=>?_
   have g0:=Z.blk.cell 0
   have y0:=Z.blk.free 0
   have g1:=Z.blk.cell 1
   have y1:=Z.blk.free 1
   have g2:=Z.blk.cell 2
   have y2:=Z.blk.free 2
   have g3:=Z.blk.cell 3
   have y3:=Z.blk.free 3
   have g4:=Z.blk.cell 4
   have y4:=Z.blk.free 4
   have g5:=Z.blk.cell 5
   have y5:=Z.blk.free 5
   simp only [List.getElem?_toArray,List.getElem?_cons_zero,List.getElem?_cons_succ] at g0 g1 g2 g3 g4 g5
   go_simp
   have LF:=zh (((((((KB.out).setCell (p:=⟨W.heap.size,0,none⟩) (Nat.le_refl _) (txt s)).setCell (p:=⟨W.heap.size,1,none⟩) (Nat.le_refl _) (.slice none 0 0)).setCell (p:=⟨W.heap.size,2,none⟩) (Nat.le_refl _) (.slice none 0 0)).setCell (p:=⟨W.heap.size,3,none⟩) (Nat.le_refl _) (.int .i64 pos)).setCell (p:=⟨W.heap.size,4,none⟩) (Nat.le_refl _) (.slice none 0 0)).setCell (p:=⟨W.heap.size,5,none⟩) (Nat.le_refl _) (.slice none 0 0))
   refine hK.out _ _ (SO.out _ LF.out) (fun _=>?_)
   clear hK K
   refine wpAnyH_done (by kernel_rfl) ?_ _
   refine NoPanic.normal ?_
   go_wp2_with fail
   go_meet
   exact ⟨_,rfl,by simpa using ((((((Z).set 0 (txt s)).set 1 (.slice none 0 0)).set 2 (.slice none 0 0)).set 3 (.int .i64 pos)).set 4 (.slice none 0 0)).set 5 (.slice none 0 0),LF.out,Nat.le_refl _⟩
 case rest=>
  obtain ⟨bd,rfl,hb,hW1,hge⟩:=hcut
  generalize wc=W2 at *
  have lt0:w.heap.size+1<W.heap.size:=HH.out.2.2.1.lt
  have BW:Below w.heap.size w W2:=HH.out.1.trans (hW1.mono HH.out.1.size)
  have N2:=HH.out.2.1.keep hW1
  have Z2:=HH.out.2.2.1.keep hW1
  have ne1:w.heap.size≠bd:=by omega
  have ne2:w.heap.size+1≠bd:=by omega
  have hmf:∀ (fn:Fn) (first cap:Array Value) (w:World),(Instr.makeFunc fn first cap).run Tryz.prog w=.ok (.func fn first cap) w:=fun _ _ _ _=>rfl
  have E1:=zh (show Calls Tryz.prog 21 #[.slice Al ns.length cl_,.agg #[.int .i64 kd,.slice (some aw) (sr.length+1) cw,.slice Au nums.length cu,.slice Ak ks.length ck,.int .i64 pos],.int .i64 2,.func (.func 44) #[] #[.pointer (some ⟨bd,0,none⟩)]] W2 _ from by
   have:=ZcA 44 #[.pointer (some ⟨bd,0,none⟩)] ZiM w W2 Al cl_ rs ((.slice (some aw) (s::sr).length cw,.slice Au nums.length cu,.slice Ak ks.length ck),⟨kd,s::sr,nums,ks,pos⟩) 2
    (fun k wr=>RdS w.heap.size wr bd s pos ((ZM ns (ks.take k) 2).map stD) ((ZM ns (ks.take k) 2).map (·.pos))/\Zd wr w.heap.size 27 #[.int .i64 kd,.slice (some aw) (s::sr).length cw,.slice Au nums.length cu,.slice Ak ks.length ck,.int .i64 pos]/\Zd wr (w.heap.size+1) 66 #[.string ⟨#[]⟩,.slice none 0 0,.slice none 0 0,.int .i64 0,.slice none 0 0,.slice none 0 0])
    (by rw [HH.out.2.2.2.1];exact HH.out.2.2.2.2.2.1) HH.out.2.2.2.2.2.2.1 (by rw [HH.out.2.2.2.1];have:=HL.out.1;have:=HL.out.2;omega) HH.out.2.2.2.2.2.2.2.1 (by rw [HH.out.2.2.2.1];exact HH.out.2.2.2.2.2.2.2.2.kids) BW
    ⟨⟨⟨_,_,hb,World.ownsRow_nil _ _ _ _,World.ownsRow_nil _ _ _ _⟩,by omega⟩,N2,Z2⟩
    (fun k w1 w2 h hb=>⟨h.1.keep hb,h.2.1.keep hb,h.2.2.keep hb⟩)
    (fun i j y wr hi hy hbw hr=>by
     have hnd:=Zbr HH.out.2.2.2.2.1 hy
     dsimp only at hi
     have tk_:=Zch ns ks 2 i j hi
     rw [hnd] at tk_
     have hjm:(j:Int)∈ks:=List.mem_of_getElem? hi
     refine ⟨fun hk2=>?_,fun hk2=>?_⟩
     ·obtain ⟨s',sr',u',ur',e1,e2⟩:=HH.out.2.2.2.2.2.2.2.2.st j hjm (by rw [hnd];exact hk2)
      rw [hnd] at e1 e2
      have lk:((ZM ns (ks.take i) 2)).length<=1000:=Nat.le_trans (ZbP _ _ _) (Nat.le_trans (by rw [List.length_take];exact Nat.min_le_right _ _) HH.out.2.2.2.2.2.2.2.2.few)
      refine (Zhj wr w.heap.size bd s pos _ _ y s' sr' u' ur' hr.1 ((HH.out.2.2.2.2.2.2.1 y (List.mem_of_getElem? hy)).below hbw) e1 e2 (by rw [List.length_map];exact lk) (by rw [List.length_map];exact lk) hbw.size).mono ?_
      rintro e w' ⟨he,hrd,hk,hbb⟩
      refine ⟨he,hbw.trans hbb,?_,hk.tblk hr.2.1 ne1 (by decide) (by decide),hk.tblk hr.2.2 ne2 (by decide) (by decide)⟩
      rw [tk_,if_pos hk2,List.map_append,List.map_append]
      have est:stD y.2=⟨s',decide (u'=1)⟩:=by unfold stD wdK;rw [e1,e2];rfl
      simp only [List.map_cons,List.map_nil,est]
      exact hrd
     ·rw [tk_,if_neg hk2,List.append_nil]
      exact hr)
   rw [HH.out.2.2.2.1] at this
   exact this)
  have c0:=N2.blk.cell 0
  have c1:=N2.blk.cell 1
  have c2:=N2.blk.cell 2
  have c3:=N2.blk.cell 3
  have c4:=N2.blk.cell 4
  simp only [List.getElem?_toArray,List.getElem?_cons_zero,List.getElem?_cons_succ] at c0 c1 c2 c3 c4
  clear q0 SO N2 Z2 hb hW1
  go_upto_region 3 with (go_at_call 21;(with_reducible refine E1.out.mono ?_);rintro e w3 ⟨rfl,hb3,hr3⟩;have H3:=zh (zi hb3 hr3);clear hb3 hr3)
  obtain ⟨hb3,⟨⟨vs,va,D1,D2,D3⟩,_⟩,N3,Z3⟩:=H3.out
  (try dsimp only at D2 D3)
  rw [List.take_length] at D2 D3
  obtain ⟨As,cs_,rfl⟩:=Zl D2
  obtain ⟨Aa,ca_,rfl⟩:=Zl D3
  have d1:=D1.blk.cell 1
  simp only [List.getElem?_toArray,List.getElem?_cons_zero,List.getElem?_cons_succ] at d1
  have hfew:ks.length<=1000:=HH.out.2.2.2.2.2.2.2.2.few
  have lk2:((ZM ns ks 2).map stD).length<=1000:=by rw [List.length_map];exact Nat.le_trans (ZbP _ _ _) hfew
  have nml:∀ q∈(ZM ns ks 2).map stD,q.name.length<=maxLen:=fun q hq=>by
   obtain ⟨m,hm,rfl⟩:=List.mem_map.1 hq
   obtain ⟨hm1,hm2⟩:=List.mem_filter.1 hm
   obtain ⟨jj,hj1,rfl⟩:=List.mem_map.1 hm1
   obtain ⟨hj2,hj3⟩:=HH.out.2.2.2.2.2.2.2.2.kids jj hj1
   obtain ⟨jn,rfl⟩:=Int.eq_ofNat_of_zero_le hj2
   have hjl:jn<rs.length:=by rw [HH.out.2.2.2.1];omega
   have hy:rs[jn]? = some rs[jn]:=List.getElem?_eq_getElem hjl
   rw [Zbr HH.out.2.2.2.2.1 hy]
   obtain ⟨_,_,_,_,_,_,hwl⟩:=(HH.out.2.2.2.2.2.2.1 _ (List.mem_of_getElem? hy)).1
   unfold stD wdK
   cases hq:(rs[jn].2.words[0]?) with
   | none=>simp
   | some q=>exact hwl q (List.mem_of_getElem? hq)
  generalize hSS:(ZM ns ks 2).map stD=SS at *
  generalize hPS:(ZM ns ks 2).map (·.pos)=PSS at *
  have HSP:=zh (zi hSS hPS)
  clear hSS hPS H3
  have ST:=zh (show ZaD w3 (.slice As SS.length cs_) SS from by
   obtain ⟨a,b',d⟩:=Zac D2
   exact ⟨As,cs_,rfl,a,b',d,nml⟩)
  have PC0:=Zgx w3 _ _ ST.out lk2
  unfold Zb1 at PC0
  have PC:=zh PC0
  clear PC0
  have hsf:=stF
  have HD:=zh (zi hb3 (zi D1 (zi D2 (zi D3 (zi N3 Z3)))))
  clear hb3 D1 D2 D3 N3 Z3 E1 nml c0 c1 c2 c3 c4
  go_upto_region 4 with (go_at_call 45;(with_reducible refine PC.out.mono ?_);rintro e w4 ⟨bx,bm,rfl,hpl,hg1,hg2,hb4⟩;have H4:=zh (zi hpl (zi hg1 (zi hg2 hb4)));clear hpl hg1 hg2 hb4)
  have a5:=below_alloc1 w4 (.cells #[Zb1 bx] 95)
  have P5:=Zd.start w4 #[Zb1 bx] 95
  have L4:Below w.heap.size w w4:=HD.out.1.trans (H4.out.2.2.2.mono HD.out.1.size)
  have k35:Below w3.heap.size w3 (w4.alloc (.cells #[Zb1 bx] 95)):=H4.out.2.2.2.trans (a5.mono H4.out.2.2.2.size)
  have H5:=zh (zi (L4.trans (a5.mono L4.size)) (zi P5 (zi (H4.out.1.keep a5) k35)))
  unfold Zb1 at H5 a5 P5 k35
  generalize hbp:w4.heap.size=bp at *
  generalize w4.alloc (.cells #[.func (.func 75) #[] #[.pointer (some ⟨bx,0,none⟩)]] 95)=W5 at *
  clear hbp a5 P5 k35 L4
  have D5:=HD.out.2.1.keep H5.out.2.2.2
  have N5:=HD.out.2.2.2.2.1.keep H5.out.2.2.2
  have Z5:=HD.out.2.2.2.2.2.keep H5.out.2.2.2
  have E2:=zh (show Calls Tryz.prog 21 #[.slice Al ns.length cl_,.agg #[.int .i64 kd,.slice (some aw) (sr.length+1) cw,.slice Au nums.length cu,.slice Ak ks.length ck,.int .i64 pos],.int .i64 3,.func (.func 46) #[] #[.pointer (some ⟨bd,0,none⟩),.pointer (some ⟨bp,0,none⟩)]] W5 _ from by
   have:=ZcA 46 #[.pointer (some ⟨bd,0,none⟩),.pointer (some ⟨bp,0,none⟩)] ZiN w W5 Al cl_ rs ((.slice (some aw) (s::sr).length cw,.slice Au nums.length cu,.slice Ak ks.length ck),⟨kd,s::sr,nums,ks,pos⟩) 3
    (fun k wr=>(∃ vm vo rs',R2 W5.heap.size wr bd s (.slice As SS.length cs_) (.slice Aa PSS.length ca_) pos vm vo rs' ((ZM ns (ks.take k) 3).map (·.pos))/\rs'.map (·.2)=(ZM ns (ks.take k) 3).map (fun m=>Zem SS m.words))/\Zae W5.heap.size bd W5 wr/\W5.heap.size<=wr.heap.size)
    (by rw [HH.out.2.2.2.1];exact HH.out.2.2.2.2.2.1) HH.out.2.2.2.2.2.2.1 (by rw [HH.out.2.2.2.1];have:=HL.out.1;have:=HL.out.2;omega) HH.out.2.2.2.2.2.2.2.1 (by rw [HH.out.2.2.2.1];exact HH.out.2.2.2.2.2.2.2.2.kids) H5.out.1
    ⟨⟨_,_,[],⟨D5,World.ownsRow_nil _ _ _ _,World.ownsRow_nil _ _ _ _,(fun x hx=>by cases hx)⟩,rfl⟩,(fun _ _ _=>rfl),Nat.le_refl _⟩
    (fun k w1 w2 h hb=>⟨by obtain ⟨vm,vo,rs',h1,h2⟩:=h.1;exact ⟨vm,vo,rs',h1.keep hb,h2⟩,h.2.1.trans (fun b hb1 _=>hb.block b (Nat.lt_of_lt_of_le hb1 h.2.2)),Nat.le_trans h.2.2 hb.size⟩)
    (fun i j y wr hi hy hbw hr=>by
     have hnd:=Zbr HH.out.2.2.2.2.1 hy
     dsimp only at hi
     have tk_:=Zch ns ks 3 i j hi
     rw [hnd] at tk_
     have hjm:(j:Int)∈ks:=List.mem_of_getElem? hi
     refine ⟨fun hk2=>?_,fun hk2=>?_⟩
     ·obtain ⟨q1,q2,q3⟩:=HH.out.2.2.2.2.2.2.2.2.op j hjm (by rw [hnd];exact hk2)
      rw [hnd] at q1 q2 q3
      obtain ⟨⟨vm,vo,rs',r1,r2⟩,r3,r4⟩:=hr
      have lk:((ZM ns (ks.take i) 3)).length<=1000:=Nat.le_trans (ZbP _ _ _) (Nat.le_trans (by rw [List.length_take];exact Nat.min_le_right _ _) hfew)
      have lr:rs'.length<=1000:=by have:=congrArg List.length r2;rw [List.length_map,List.length_map] at this;omega
      refine (Zhk wr W5.heap.size w.heap.size bd bp bx bm s _ _ vm vo pos rs' _ SS y r1 ((HH.out.2.2.2.2.2.2.1 y (List.mem_of_getElem? hy)).below hbw) (H5.out.2.2.1.keepO r3 (Nat.le_refl _) D5 (by decide)) (r3.tblk H5.out.2.1 H5.out.2.1.lt (ZaV H5.out.2.1 D5 (by decide))) q1 q2 q3 lr (by rw [List.length_map];exact lk) r4 H5.out.1.size (by omega)).mono ?_
      rintro e w' ⟨he,⟨vm',vo',rs2,u1,u2⟩,hk,hbb⟩
      refine ⟨he,hbw.trans hbb,⟨vm',vo',rs2,?_,?_⟩,r3.trans hk,?_⟩
      ·rw [tk_,if_pos hk2,List.map_append]
       exact u1
      ·rw [tk_,if_pos hk2,List.map_append,u2,r2]
       rfl
      ·exact Nat.le_trans r4 hbb.size
     ·rw [tk_,if_neg hk2,List.append_nil]
      exact hr)
   rw [HH.out.2.2.2.1] at this
   exact this)
  have c0:=N5.blk.cell 0
  have c1:=N5.blk.cell 1
  have c2:=N5.blk.cell 2
  have c3:=N5.blk.cell 3
  have c4:=N5.blk.cell 4
  simp only [List.getElem?_toArray,List.getElem?_cons_zero,List.getElem?_cons_succ] at c0 c1 c2 c3 c4
  have o5a:=Ze HD.out.2.2.1 H5.out.2.2.2
  have o5b:=Ze HD.out.2.2.2.1 H5.out.2.2.2
  have HV:=zh (zi D5 (zi Z5 (zi o5a o5b)))
  clear D5 N5 Z5 o5a o5b
  go_upto_region 5 with (go_at_call 21;(with_reducible refine E2.out.mono ?_);rintro e w6 ⟨rfl,hb6,hr6⟩;have H6:=zh (zi hb6 hr6);clear hb6 hr6)
  obtain ⟨hb6,⟨vm,vo,rs2,r1,r2⟩,r3,r4⟩:=H6.out
  (try dsimp only at r1 r2)
  rw [List.take_length] at r1 r2
  obtain ⟨Am,cm_,rfl⟩:=Zl r1.mv
  obtain ⟨Ao,co_,rfl⟩:=Zl r1.ops
  have g0:=r1.box.blk.cell 0
  have g1:=r1.box.blk.cell 1
  have g2:=r1.box.blk.cell 2
  have g3:=r1.box.blk.cell 3
  have g4:=r1.box.blk.cell 4
  have g5:=r1.box.blk.cell 5
  have Z6:=r3.tblk HV.out.2.1 HV.out.2.1.lt ne2
  have y0:=Z6.blk.free 0
  have y1:=Z6.blk.free 1
  have y2:=Z6.blk.free 2
  have y3:=Z6.blk.free 3
  have y4:=Z6.blk.free 4
  have y5:=Z6.blk.free 5
  have x0:=Z6.blk.cell 0
  have x1:=Z6.blk.cell 1
  have x2:=Z6.blk.cell 2
  have x3:=Z6.blk.cell 3
  have x4:=Z6.blk.cell 4
  have x5:=Z6.blk.cell 5
  simp only [List.getElem?_toArray,List.getElem?_cons_zero,List.getElem?_cons_succ] at g0 g1 g2 g3 g4 g5 x0 x1 x2 x3 x4 x5
  have oS:=r3.own (Nat.le_refl _) HV.out.2.2.1 HV.out.1 (by decide)
  have oI:=r3.own (Nat.le_refl _) HV.out.2.2.2 HV.out.1 (by decide)
  have LL:w.heap.size<=W5.heap.size:=H5.out.1.size
  generalize hPO:(ZM ns ks 3).map (·.pos)=PO at *
  have HPO:=zh hPO
  clear hPO
  have FS:=Zi9 Z6 hb6 (txt s) (.slice As SS.length cs_) (.slice Am rs2.length cm_) (.int .i64 pos) (.slice Aa PSS.length ca_) (.slice Ao PO.length co_)
  have HF:=zh (zi FS (zi (FS.2.2 oS (by decide)) (zi (FS.2.2 oI (by decide)) (zi (FS.2.2 (ZF r1.mv LL) (by decide)) (zi (FS.2.2 (ZF r1.ops LL) (by decide)) (fun q hq=>FS.2.2 (ZF (r1.outs q hq) LL) (by decide)))))))
  have HM2:=zh r2
  clear r1 r2 r3 r4 hb6 H6 E2 Z6 oS oI FS
  go_wp2_with fail
  refine bodyPost_ret (results_cell_row (P:=Tryz.prog) rfl _ _ (w.heap.size+1) 66 #[txt s,.slice As SS.length cs_,.slice Am rs2.length cm_,.int .i64 pos,.slice Aa PSS.length ca_,.slice Ao PO.length co_] (0,0) _ rfl (by have:=HF.out.1.1;unfold Zd at this;simpa using this) Tryz.underlying66 rfl (by obtain ⟨i,hi,_,hs,_⟩:=info_parts ZhU;rw [hi];show some i.size=_;rw [hs];rfl)) rfl ?_
  refine ⟨_,_,_,_,rfl,⟨rs2,HM2.out.trans ?_,?_,HF.out.2.2.2.1,HF.out.2.2.2.2.2⟩,?_,?_,HF.out.1.2.1⟩
  ·unfold ZaJ
   rw [HSP.out.1]
  ·unfold ZaJ
   rw [HSP.out.1]
   exact HF.out.2.1
  ·unfold ZaJ
   rw [HSP.out.2]
   exact Zcg HF.out.2.2.1
  ·unfold ZaJ
   rw [HPO.out]
   exact Zcg HF.out.2.2.2.2.1
end
end Go.Proofs.YtkgkmdhpnhmcpaaGreatDoor
