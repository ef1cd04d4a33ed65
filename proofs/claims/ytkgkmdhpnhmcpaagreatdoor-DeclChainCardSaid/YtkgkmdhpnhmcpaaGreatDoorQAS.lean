import Derived.Deep.CutRange
import Derived.Test.YtkgkmdhpnhmcpaaGreatDoorQAR
set_option maxRecDepth 100000
set_option maxHeartbeats 8000000
namespace Go.Proofs.YtkgkmdhpnhmcpaaGreatDoor
section
open Go.RowKit Go.Shelf
theorem Zfe (l:List (List UInt8)) (n k:Nat):wdK (l.drop n) k=wdK l (n+k):=by
 unfold wdK
 rw [List.getElem?_drop]
theorem ZeY (ss:List Sta):∀ (m:Nat) (l:List (List UInt8)),l.length=2*m->Zag ss l=(List.finRange m).map fun i:Fin m=>(⟨wdK l (2*i.1),ZD ss (wdK l (2*i.1+1))⟩:Ou)
 | 0,l,h=>by
  have:l=[]:=List.length_eq_zero_iff.1 (by omega)
  subst this
  rfl
 | m+1,[],h=>by simp at h
 | m+1,[_],h=>by simp only [List.length_cons,List.length_nil] at h;omega
 | m+1,a::b::r,h=>by
  have ih:=ZeY ss m r (by simp only [List.length_cons] at h;omega)
  rw [List.finRange_succ,List.map_cons,List.map_map,Zag,ih]
  congr 1
theorem Zjv {ops:Array Oper} (h:ops.all (fun o=>match o.op with | .defer _=>false | _=>true)=true) (i:Nat) (o:Oper) (ho:ops[i]? = some o) (c:Call):o.op≠Op.defer c:=fun e=>by
 obtain ⟨hi,rfl⟩:=Array.getElem?_eq_some_iff.1 ho
 have:=(Array.all_eq_true.1 h) i hi
 rw [e] at this
 cases this
theorem Zgu (s:List UInt8) (k:Int):∀ u∈[txt s,Value.int .i64 k],u.oneCell'=true:=by
 intro u hu
 rcases List.mem_cons.1 hu with rfl | hu
 ·rfl
 ·rw [List.mem_singleton.1 hu];rfl
theorem ZaV {W:World} {b b':Nat} {ty ty':TypeId} {cs cs':Array Value} (h:Zd W b ty cs) (h':Zd W b' ty' cs') (hne:ty≠ty'):b≠b':=by
 rintro rfl
 exact hne (ZaW h rfl h')
theorem Zca {w V w':World} {o:Obj} {b n b1:Nat} {vo u0 u1 u3 z0 z1 z2 s1 s2:Value} {xs:List Value} (t1:Zd V b 85 #[u0,u1,vo]) (t2:V.ownsRow w.heap.size 110 2 vo n xs) (t3:Zd V w.heap.size 95 #[u3]) (t4:Zd V (w.heap.size+1) 85 #[z0,z1,z2]) (t5:Zd V b1 24 #[s1]) (t6:Zd V (b1+1) 3 #[s2]) (t7:Below w.heap.size w V) (hb:w.heap.size+1<b)
  (hgrow:(V.alloc o).drew.grownBy w' vo.ownBlock) :
  Zd w' b 85 #[u0,u1,vo]/\Zd w' w.heap.size 95 #[u3]/\Zd w' (w.heap.size+1) 85 #[z0,z1,z2]/\Zd w' b1 24 #[s1]/\Zd w' (b1+1) 3 #[s2]/\(w.heap.size+1<b/\Zd V b1 24 #[s1]/\Zd V (b1+1) 3 #[s2])/\Below w.heap.size w w'/\KeepsOthers V w':=by
 have G:∀ {b ty cs},Zd V b ty cs->ty≠110->Zd w' b ty cs:=fun h hne=>(Zar h o).grown hgrow ((Zar h o).off (Zal t2 o) hne)
 refine ⟨G t1 (by decide),G t3 (by decide),G t4 (by decide),G t5 (by decide),G t6 (by decide),⟨hb,t5,t6⟩,(t7.trans ((below_alloc1 V o).drew.mono t7.size)).trans (Zv hgrow (Nat.le_trans t7.size (below_alloc1 V _).size) (fun k hk=>(t2.lt k hk).1)),?_⟩
 refine (KeepsOthers.alloc V o).trans ((KeepsOthers.drew _).trans (KeepsOthers.of_grownBy hgrow (fun j q e ho=>?_)))
 have t2a:=Zal t2 o
 rcases t2a.2 with ⟨q',_⟩ | ⟨g',cap',cur',q',_,k',_⟩
 ·rw [q'] at e;cases e
 ·rw [q'] at e
  injection e with e
  dsimp only at e
  subst e
  rw [k'] at ho
  injection ho with ho
  subst ho
  rfl
theorem Zcw {w V w':World} {b n b1:Nat} {vo u0 u1 u3 z0 z1 z2 s1 s2:Value} {ys:List Value} (h:Zd w' b 85 #[u0,u1,vo]/\Zd w' w.heap.size 95 #[u3]/\Zd w' (w.heap.size+1) 85 #[z0,z1,z2]/\Zd w' b1 24 #[s1]/\Zd w' (b1+1) 3 #[s2]/\(w.heap.size+1<b/\Zd V b1 24 #[s1]/\Zd V (b1+1) 3 #[s2])/\Below w.heap.size w w'/\KeepsOthers V w') (v':Value) (hown:w'.ownsRow w.heap.size 110 2 v' n ys) :
  Zd (w'.setCell ⟨b,2,none⟩ v') b 85 #[u0,u1,v']/\Zd (w'.setCell ⟨b,2,none⟩ v') w.heap.size 95 #[u3]/\Zd (w'.setCell ⟨b,2,none⟩ v') (w.heap.size+1) 85 #[z0,z1,z2]/\Zd (w'.setCell ⟨b,2,none⟩ v') b1 24 #[s1]/\Zd (w'.setCell ⟨b,2,none⟩ v') (b1+1) 3 #[s2]/\True/\Below w.heap.size w (w'.setCell ⟨b,2,none⟩ v')/\KeepsOthers V (w'.setCell ⟨b,2,none⟩ v')/\KpC b1 (b1+1) V (w'.setCell ⟨b,2,none⟩ v')/\(w'.setCell ⟨b,2,none⟩ v').ownsRow w.heap.size 110 2 v' n ys:=by
 obtain ⟨h1,h2,h3,h4,h5,⟨h6,h7,h8⟩,h9,h10⟩:=h
 have T4:=h4.other (p:=⟨b,2,none⟩) (fun e=>ZaV h1 h4 (by decide) e) v'
 have T5:=h5.other (p:=⟨b,2,none⟩) (fun e=>ZaV h1 h5 (by decide) e) v'
 refine ⟨by simpa using h1.set 2 v',h2.other (p:=⟨b,2,none⟩) (by show b≠_;omega) v',h3.other (p:=⟨b,2,none⟩) (by show b≠_;omega) v',T4,T5,trivial,h9.setCell (p:=⟨b,2,none⟩) (by show w.heap.size<=b;omega) v',h10.trans (KeepsOthers.setCell _ _ _),⟨fun v hv=>?_,fun v hv=>?_⟩,Zg hown (h1.off hown (by decide))⟩
 ·rw [h7.blk.cell 0] at hv
  rw [T4.blk.cell 0]
  exact hv
 ·rw [h8.blk.cell 0] at hv
  rw [T5.blk.cell 0]
  exact hv
theorem Zhd (w:World) (bx bm:Nat) (ss:List Sta) (ws:List (List UInt8)) (v:Value) (hv:Za0 w v ws) (hP:PlcS w bx bm ss) (h4:4<=ws.length) (he:ws.length % 2=0) (hl:ws.length<=1000) :
  Calls Tryz.prog 47 #[v,Zb1 bx] w fun e w'=>∃ vo,e=.returned (.agg #[txt (wdK ws 0),.int .i64 (ZD ss (wdK ws 1)),vo])/\w'.ownsRow w.heap.size 110 2 vo (Zag ss (ws.drop 2)).length (Zt ouC (Zag ss (ws.drop 2)))/\Below w.heap.size w w':=by
 unfold Zb1
 obtain ⟨m,hm⟩:∃ m,ws.length=2*m+2:=⟨(ws.length-2) / 2,by omega⟩
 have hof:=ZeY ss m (ws.drop 2) (by rw [List.length_drop];omega)
 obtain ⟨A,c,rfl,hc,hcm,hW,hwl⟩:=hv
 have at_:∀ k,k<ws.length->∃ s,ws[k]? = some s/\wdK ws k=s/\s.length<=maxLen:=fun k hk=>⟨ws[k],List.getElem?_eq_getElem hk,by unfold wdK;rw [List.getElem?_eq_getElem hk];rfl,hwl _ (List.getElem_mem hk)⟩
 obtain ⟨s0,e0,k0,l0⟩:=at_ 0 (by omega)
 obtain ⟨s1,e1,k1,l1⟩:=at_ 1 (by omega)
 rw [k0,k1]
 have z0:∀ a:Addr,a.add 0=a:=fun a=>by simp [Addr.add]
 have a1:=below_alloc1 w (.cells #[.func (.func 75) #[] #[.pointer (some ⟨bx,0,none⟩)]] 95)
 have a2:=below_alloc1 (w.alloc (.cells #[.func (.func 75) #[] #[.pointer (some ⟨bx,0,none⟩)]] 95)) (.cells #[.string ⟨#[]⟩,.int .i64 0,.slice none 0 0] 85)
 have a12:=a1.trans (a2.mono a1.size)
 have B1:=(Zd.start w #[.func (.func 75) #[] #[.pointer (some ⟨bx,0,none⟩)]] 95).keep a2
 have B2:=Zd.start (w.alloc (.cells #[.func (.func 75) #[] #[.pointer (some ⟨bx,0,none⟩)]] 95)) #[.string ⟨#[]⟩,.int .i64 0,.slice none 0 0] 85
 rw [World.size_alloc] at B2
 obtain ⟨aw,rfl,q0⟩:=Zba hW a12 (k:=0) e0 (by omega)
 obtain ⟨aw',qe,q1⟩:=Zba hW a12 (k:=1) e1 (by omega)
 injection qe with qe
 subst qe
 rw [z0] at q0
 have q1:_=some (txt s1):=q1
 rw [show aw.add 1=(⟨aw.block,aw.off+1,none⟩:Addr) from rfl] at q1
 have P2:=hP.keep a12
 have HH:=zh (zi a12 (zi B1 (zi B2 (zi P2 (zi hm (zi hof (zi hW (zi hc (zi at_ (zi h4 (zi hl hcm)))))))))))
 have HP0:=zh hP
 clear a1 a2 a12 hP hc hcm hW hwl at_ h4 he hm hof
 refine (callsIn_wide (n:=9)).1 ?_
 refine callsIn_of_wp_marks Tryz.func47 rfl trivial ?_ rfl
 refine wpIn_wide.2 ?_
 simp only [Tryz.ntmps47,List.size_toArray,List.length_cons,List.length_nil,Nat.reduceAdd,Nat.reduceSub,Array.replicate_succ,Array.replicate_zero,List.push_toArray,List.append_toArray,List.nil_append,List.cons_append]
 go_upto_region 1 with fail
 generalize (w.alloc (.cells #[.func (.func 75) #[] #[.pointer (some ⟨bx,0,none⟩)]] 95)).alloc (.cells #[.string ⟨#[]⟩,.int .i64 0,.slice none 0 0] 85)=W at *
 have c3:=B1.blk.cell 0
 simp only [List.getElem?_toArray,List.getElem?_cons_zero] at c3
 have keep:∀ (o:Obj) (p:Addr) (u:Value),W.cell? p=some u->(W.alloc o).cell? p=some u:=fun o p u h=>ZaG (below_alloc1 W o) h
 have A0:=fun o=>keep o _ _ q0
 have A1:=fun o=>keep o _ _ q1
 have A3:=fun o=>keep o _ _ c3
 have PLd:=zh (show Calls Tryz.prog 75 #[txt s1,.pointer (some ⟨bx,0,none⟩)] W.drew _ from Zb0 W.drew bx bm ss s1 (P2.keep (Zo W)) l1)
 have PLa:=zh (fun o=>show Calls Tryz.prog 75 #[txt s1,.pointer (some ⟨bx,0,none⟩)] (W.alloc o).drew _ from Zb0 (W.alloc o).drew bx bm ss s1 (P2.keep (below_alloc1 W o).drew) l1)
 have lp:=(ZeH s1 ss).1
 generalize hfr:ZD ss s1=fr at *
 have HFR:=zh hfr
 clear hfr
 clear B1 B2 P2 keep
 have n0:0<ws.length:=by have:=HH.out.2.2.2.2.1;omega
 have n1:1<ws.length:=by have:=HH.out.2.2.2.2.1;have:=HH.out.2.2.2.2.2.2.2.2.2.1;omega
 have n2:(0:Int)<(ws.length:Int):=by omega
 have n3:(1:Int)<(ws.length:Int):=by omega
 go_cut [5] from 7 to 15 (fun v5 wx=>∃ b,v5=.pointer (some ⟨b,0,none⟩)/\Zd wx b 85 #[txt s0,.int .i64 fr,.slice none 0 0]/\Below W.heap.size W wx/\W.heap.size<=b)
 case first=>
  have LF:=zh ((below_alloc1 W (.cells #[txt s0,.int .i64 fr,.slice none 0 0] 85)).drew)
  have SO:=zh (fun (V':World) (hb:Below W.heap.size W V')=>(show (V'.cell? aw=some (txt s0)/\V'.cell? ⟨aw.block,aw.off+1,none⟩=some (txt s1))/\V'.cell? ⟨w.heap.size,0,none⟩=some (.func (.func 75) #[] #[.pointer (some ⟨bx,0,none⟩)]) from ⟨⟨ZaG hb q0,ZaG hb q1⟩,ZaG hb c3⟩))
  have HS:=SO.out W.drew (Zo W)
  refine wp_region_noPanic ?_
  refine wp_region_held_drew (S:=fun V'=>(V'.cell? aw=some (txt s0)/\V'.cell? ⟨aw.block,aw.off+1,none⟩=some (txt s1))/\V'.cell? ⟨w.heap.size,0,none⟩=some (.func (.func 75) #[] #[.pointer (some ⟨bx,0,none⟩)])) (by kernel_rfl) HS (fun hHeld=>?_)
  clear HS
  refine tk 0 rfl ?_
  refine tk 1 rfl ?_
  refine tk 2 rfl ?_
  refine tk 3 rfl ?_
  refine tk 4 rfl ?_
  refine tk 5 rfl ?_
  refine tk 6 rfl ?_
  (try simp only [cl,Act.put])
  refine wpAnyH_ready (rs:=[7,9]) (by kernel_rfl) (by simp) (AllReadyH.cons (o:=_) rfl (fun K hK=>?_) (AllReadyH.cons (o:=_) rfl (fun K hK=>?_) AllReadyH.nil))
  ·go_simp
   (go_at_call 75;(refine PLd.out.mono ?_);rintro e w1 ⟨rfl,rfl⟩)
   go_wp2_with fail
   refine hK.out _ _ (SO.out _ (Zo W)) (fun _=>?_)
   clear hK K
   (try simp only [cl,Act.put])
   refine tk 8 rfl ?_
   (try simp only [cl,Act.put])
   refine rd 9 rfl fun K hK=>?_
   go_simp
   refine hK.out _ _ (SO.out _ (below_alloc1 W _).drew) (fun _=>?_)
   clear hK K
   (try simp only [cl,Act.put])
   refine rd 10 rfl fun K hK=>?_
   have Z:=(Zd.start W #[.string ⟨#[]⟩,.int .i64 0,.slice none 0 0] 85).blk
   have g0:=Z.cell 0
   have g1:=Z.cell 1
   have g2:=Z.cell 2
   have y0:=Z.free 0
   have y1:=Z.free 1
   have y2:=Z.free 2
   simp only [List.getElem?_toArray,List.getElem?_cons_zero,List.getElem?_cons_succ] at g0 g1 g2
   go_simp
   refine hK.out _ _ (SO.out _ LF.out) (fun _=>?_)
   clear hK K
   refine wpAnyH_done (by kernel_rfl) ?_ _
   refine NoPanic.normal ?_
   go_wp2_with fail
   go_meet
   exact ⟨_,rfl,Zd.start W _ _,LF.out,Nat.le_refl _⟩
  ·go_simp
   refine hK.out _ _ (SO.out _ (below_alloc1 W _).drew) (fun _=>?_)
   clear hK K
   (try simp only [cl,Act.put])
   refine rd 7 rfl fun K hK=>?_
   go_simp
   (go_at_call 75;(refine (PLa.out _).mono ?_);rintro e w1 ⟨rfl,rfl⟩)
   go_wp2_with fail
   refine hK.out _ _ (SO.out _ (below_alloc1 W _).drew) (fun _=>?_)
   clear hK K
   (try simp only [cl,Act.put])
   refine tk 8 rfl ?_
   (try simp only [cl,Act.put])
   refine rd 10 rfl fun K hK=>?_
   have Z:=(Zd.start W #[.string ⟨#[]⟩,.int .i64 0,.slice none 0 0] 85).blk
   have g0:=Z.cell 0
   have g1:=Z.cell 1
   have g2:=Z.cell 2
   have y0:=Z.free 0
   have y1:=Z.free 1
   have y2:=Z.free 2
   simp only [List.getElem?_toArray,List.getElem?_cons_zero,List.getElem?_cons_succ] at g0 g1 g2
   go_simp
   refine hK.out _ _ (SO.out _ LF.out) (fun _=>?_)
   clear hK K
   refine wpAnyH_done (by kernel_rfl) ?_ _
   refine NoPanic.normal ?_
   go_wp2_with fail
   go_meet
   exact ⟨_,rfl,Zd.start W _ _,LF.out,Nat.le_refl _⟩
 case rest=>
  obtain ⟨b,rfl,hb,hW1,hge⟩:=hcut
  generalize wc=W2 at *
  have s1_:(2:Int)<=(ws.length:Int):=by omega
  have s2_:((2:Int)).toNat=2:=rfl
  have s3_:2<=ws.length:=by omega
  have s4_:2<c:=by have:=HH.out.2.2.2.2.2.2.2.1;have:=HH.out.2.2.2.2.2.2.2.2.2.1;omega
  have s5_:¬ c=2:=by omega
  have s6_:¬ 2=c:=by omega
  have e2:ws.length-2=2*m:=by have:=HH.out.2.2.2.2.1;omega
  have y1:=below_alloc1 W2 (.cells #[.slice (some ⟨aw.block,aw.off+2,none⟩) (2*m) (c-2)] 24)
  have y2:=below_alloc1 (W2.alloc (.cells #[.slice (some ⟨aw.block,aw.off+2,none⟩) (2*m) (c-2)] 24)) (.cells #[.int .i64 2] 3)
  have y12:=y1.trans (y2.mono y1.size)
  have X1:=(Zd.start W2 #[.slice (some ⟨aw.block,aw.off+2,none⟩) (2*m) (c-2)] 24).keep y2
  have X2:=Zd.start (W2.alloc (.cells #[.slice (some ⟨aw.block,aw.off+2,none⟩) (2*m) (c-2)] 24)) #[.int .i64 2] 3
  rw [World.size_alloc] at X2
  have HX:=zh (zi y12 (zi X1 (zi X2 e2)))
  have bm_:=hb.keep y12
  have hWW:=hW1.trans (y12.mono hW1.size)
  clear c3 A0 A1 A3 q0 q1 PLd PLa hb hW1 y1 y2 y12 X1 X2
  go_wp2_with (go_at_call 76;(refine (ZgP _ _ _ _).mono ?_);rintro e w1 ⟨rfl,rfl⟩)
  generalize (W2.alloc (.cells #[.slice (some ⟨aw.block,aw.off+2,none⟩) (2*m) (c-2)] 24)).alloc (.cells #[.int .i64 2] 3)=W0 at *
  have HM:=zh (zi bm_ (zi hWW hge))
  have lt0:w.heap.size+1<W.heap.size:=HH.out.2.2.1.lt
  clear bm_ hWW hge s1_ s2_ s3_ s5_ s6_ n0 n1 n2 n3
  generalize hb1:W2.heap.size=b1 at *
  have WW:Below w.heap.size w W0:=HH.out.1.trans (HM.out.2.1.mono HH.out.1.size)
  have HS:=zh (zi (HH.out.2.1.keep HM.out.2.1) (zi (HH.out.2.2.1.keep HM.out.2.1) WW))
  have c1:=HX.out.2.1.blk.cell 0
  have c2:=HX.out.2.2.1.blk.cell 0
  simp only [List.getElem?_toArray,List.getElem?_cons_zero] at c1 c2
  refine Ze5 (b1:=b1) (b2:=b1+1) (m:=m) (c:=c-2) (ad:=⟨aw.block,aw.off+2,none⟩) 19 6 rfl (by have:=HH.out.2.2.2.2.2.2.2.2.2.2.1;omega) (by have:=HH.out.2.2.2.2.1;have:=HH.out.2.2.2.2.2.2.2.1;omega) c1 c2
   (fun pre V=>(∃ vo,Zd V b 85 #[txt s0,.int .i64 fr,vo]/\V.ownsRow w.heap.size 110 2 vo pre.length (Zt ouC (pre.map fun i:Fin m=>(⟨wdK (ws.drop 2) (2*i.1),ZD ss (wdK (ws.drop 2) (2*i.1+1))⟩:Ou))))/\Zd V w.heap.size 95 #[.func (.func 75) #[] #[.pointer (some ⟨bx,0,none⟩)]]/\Zd V (w.heap.size+1) 85 #[.string ⟨#[]⟩,.int .i64 0,.slice none 0 0]/\Zd V b1 24 #[.slice (some ⟨aw.block,aw.off+2,none⟩) (2*m) (c-2)]/\Zd V (b1+1) 3 #[.int .i64 2]/\Below w.heap.size w V)
   ?_ ?_ ?assign ?body ?done
  ·rintro s A B row ⟨⟨vo,t1,t2⟩,t3,t4,t5,t6,t7⟩ hg hr
   have hr':∀ r,row=some r->∃ o:Obj,A.heap[r]? = some o/\o.isCells=false:=fun r e=>(hr r e).2
   exact ⟨⟨vo,Zbb t1 hg hr',ZeZ t2 hg hr'⟩,Zbb t3 hg hr',Zbb t4 hg hr',Zbb t5 hg hr',Zbb t6 hg hr',t7.grown hg t7.size (fun k e=>Nat.le_trans WW.size (hr k e).1)⟩
  ·exact ⟨⟨_,HM.out.1,World.ownsRow_nil _ _ _ _⟩,HS.out.1,HS.out.2.1,HX.out.2.1,HX.out.2.2.1,HS.out.2.2⟩
  case assign=>
   intro l v W K hK
   simp only [List.setIfInBounds_toArray,List.set_cons_succ,List.set_cons_zero] at hK ⊢
   gi_wp2
   exact hK
  case body=>
   rintro l pre x V ⟨⟨vo,t1,t2⟩,t3,t4,t5,t6,t7⟩ hlen
   simp only [List.setIfInBounds_toArray,List.set_cons_succ,List.set_cons_zero]
   gi_wp2
   obtain ⟨i0,hi,hz0,hz1,hz2⟩:=info_parts ZeD
   have hbb:w.heap.size+1<b:=Nat.lt_of_lt_of_le lt0 HM.out.2.2
   obtain ⟨x,hxm⟩:=x
   dsimp only
   obtain ⟨p,ep,kp,lp_⟩:=HH.out.2.2.2.2.2.2.2.2.1 (2+2*x) (by have:=HX.out.2.2.2;omega)
   obtain ⟨q,eq_,kq,lq⟩:=HH.out.2.2.2.2.2.2.2.2.1 (2+2*x+1) (by have:=HX.out.2.2.2;omega)
   obtain ⟨ap,hap,r0⟩:=Zba HH.out.2.2.2.2.2.2.1 (Below.refl _ _) ep (by omega)
   obtain ⟨ap',hap',r1⟩:=Zba HH.out.2.2.2.2.2.2.1 (Below.refl _ _) eq_ (by omega)
   injection hap with hap
   injection hap' with hap'
   subst hap hap'
   have aE:(⟨aw.block,aw.off+2,none⟩:Addr).add (2*x)=aw.add (2+2*x):=ZaE aw 2 (2*x)
   have aF:aw.add (2+2*x+1)=(⟨(aw.add (2+2*x)).block,(aw.add (2+2*x)).off+1,none⟩:Addr):=(ZaE aw (2+2*x) 1).symm
   rw [aF] at r1
   rw [aE]
   generalize aw.add (2+2*x)=ax at *
   have xb:ax.block<w.heap.size:=World.block_lt_of_cell? _ _ r0
   have SO:=zh (fun (V':World) (hb:Below w.heap.size w V') (ht:Zd V' w.heap.size 95 #[.func (.func 75) #[] #[.pointer (some ⟨bx,0,none⟩)]])=>(show (V'.cell? ax=some (txt p)/\V'.cell? ⟨ax.block,ax.off+1,none⟩=some (txt q))/\V'.cell? ⟨w.heap.size,0,none⟩=some (.func (.func 75) #[] #[.pointer (some ⟨bx,0,none⟩)]) from
    ⟨⟨(hb.cell xb).trans r0,(hb.cell (p:=⟨ax.block,ax.off+1,none⟩) xb).trans r1⟩,ht.blk.cell 0⟩))
   have SA:=zh (fun (o:Obj)=>SO.out (V.alloc o).drew (t7.trans ((below_alloc1 V o).drew.mono t7.size)) (Zar t3 o))
   have SD:=SO.out V.drew t7.drew t3
   have PLv:=zh (Zb0 V.drew bx bm ss q (HP0.out.keep t7.drew) lq)
   have tqE:ZD ss (wdK (ws.drop 2) (2*x+1))=ZD ss q:=by rw [Zfe,<- Nat.add_assoc,kq]
   have tpE:wdK (ws.drop 2) (2*x)=p:=by rw [Zfe,kp]
   generalize ZD ss q=tq at *
   have c5:=t1.blk.cell 2
   have c5a:∀ o,(V.alloc o).cell? ⟨b,2,none⟩=some vo:=fun o=>(t1.keep (below_alloc1 V o)).blk.cell 2
   simp only [List.getElem?_toArray,List.getElem?_cons_zero,List.getElem?_cons_succ] at c5
   refine Zfw (by kernel_rfl) (Zjv (by kernel_rfl)) (fun _ _ h=>h) ?_
   refine wpAny_of_held (S:=fun V'=>(V'.cell? ax=some (txt p)/\V'.cell? ⟨ax.block,ax.off+1,none⟩=some (txt q))/\V'.cell? ⟨w.heap.size,0,none⟩=some (.func (.func 75) #[] #[.pointer (some ⟨bx,0,none⟩)])) _ _ _ _ ?_
   have hHeld:=SD
   refine tk 0 rfl ?_
   refine tk 2 rfl ?_
   refine tk 3 rfl ?_
   refine tk 4 rfl ?_
   refine tk 5 rfl ?_
   refine tk 6 rfl ?_
   refine tk 7 rfl ?_
   refine tk 8 rfl ?_
   (try simp only [cl,Act.put])
   refine wpAnyH_ready (rs:=[1,9]) (by kernel_rfl) (by simp) (AllReadyH.cons (o:=_) rfl (fun K hK=>?_) (AllReadyH.cons (o:=_) rfl (fun K hK=>?_) AllReadyH.nil))
   ·go_simp
    refine hK.out _ _ (SD) (fun _=>?_)
    clear hK K
    (try simp only [cl,Act.put])
    refine rd 9 rfl fun K hK=>?_
    go_simp
    (go_at_call 75;(refine PLv.out.mono ?_);rintro e w1 ⟨rfl,rfl⟩)
    go_wp2_with fail
    refine hK.out _ _ SD (fun _=>?_)
    clear hK K
    (try simp only [cl,Act.put])
    refine tk 10 rfl ?_
    (try simp only [cl,Act.put])
    refine rd 11 rfl fun K hK=>?_
    go_simp
    refine hK.out _ _ (SA.out _) (fun _=>?_)
    clear hK K
    (try simp only [cl,Act.put])
    refine rd 12 rfl fun K hK=>?_
    refine ZP _ rfl _ _ 83 rfl w.heap.size 110 i0 (.agg #[.string ⟨#[]⟩,.int .i64 0]) 2 24 Tryz.underlying83 hi hz0 hz1 hz2 rfl (by decide) vo pre.length _ rfl (Zal t2 _) (V.heap.size+1) (some ⟨V.heap.size,0,none⟩) 1 1 [txt p,.int .i64 tq] rfl (ZbS _ _ _ _) (Zgu _ _) (by unfold maxLen;omega) (by omega) (Nat.le_trans t7.size (below_alloc1 V _).size) (fun v' w' hown hgrow hl=>?_)
    obtain ⟨g',k',rfl⟩:=Zl hown
    have ST:=Zca t1 t2 t3 t4 t5 t6 t7 hbb hgrow
    have g1:=ST.1.blk.cell 2
    have g2:=ST.1.blk.free 2
    simp only [List.getElem?_toArray,List.getElem?_cons_zero,List.getElem?_cons_succ] at g1
    refine hK.out _ _ (SO.out _ ST.2.2.2.2.2.2.1 ST.2.1) (fun _=>?_)
    clear hK K
    (try simp only [cl,Act.put])
    refine tk 13 rfl ?_
    (try simp only [cl,Act.put])
    refine rd 14 rfl fun K hK=>?_
    go_simp
    have FI:=Zcw ST (.slice g' (pre.length+1) k') hown
    refine hK.out _ _ (SO.out _ FI.2.2.2.2.2.2.1 FI.2.1) (fun _=>?_)
    clear hK K
    refine wpAnyH_done (by kernel_rfl) ?_ _
    exact ⟨FI.2.2.2.2.2.2.2.1,FI.2.2.2.2.2.2.2.2.1,⟨_,FI.1,by simpa [tqE,tpE,Zay,Zt,ouC] using FI.2.2.2.2.2.2.2.2.2⟩,FI.2.1,FI.2.2.1,FI.2.2.2.1,FI.2.2.2.2.1,FI.2.2.2.2.2.2.1⟩
   ·go_simp
    (go_at_call 75;(refine PLv.out.mono ?_);rintro e w1 ⟨rfl,rfl⟩)
    go_wp2_with fail
    refine hK.out _ _ SD (fun _=>?_)
    clear hK K
    (try simp only [cl,Act.put])
    refine tk 10 rfl ?_
    (try simp only [cl,Act.put])
    refine wpAnyH_ready (rs:=[1,11]) (by kernel_rfl) (by simp) (AllReadyH.cons (o:=_) rfl (fun K hK=>?_) (AllReadyH.cons (o:=_) rfl (fun K hK=>?_) AllReadyH.nil))
    ·go_simp
     refine hK.out _ _ (SD) (fun _=>?_)
     clear hK K
     (try simp only [cl,Act.put])
     refine rd 11 rfl fun K hK=>?_
     go_simp
     refine hK.out _ _ (SA.out _) (fun _=>?_)
     clear hK K
     (try simp only [cl,Act.put])
     refine rd 12 rfl fun K hK=>?_
     refine ZP _ rfl _ _ 83 rfl w.heap.size 110 i0 (.agg #[.string ⟨#[]⟩,.int .i64 0]) 2 24 Tryz.underlying83 hi hz0 hz1 hz2 rfl (by decide) vo pre.length _ rfl (Zal t2 _) (V.heap.size+1) (some ⟨V.heap.size,0,none⟩) 1 1 [txt p,.int .i64 tq] rfl (ZbS _ _ _ _) (Zgu _ _) (by unfold maxLen;omega) (by omega) (Nat.le_trans t7.size (below_alloc1 V _).size) (fun v' w' hown hgrow hl=>?_)
     obtain ⟨g',k',rfl⟩:=Zl hown
     have ST:=Zca t1 t2 t3 t4 t5 t6 t7 hbb hgrow
     have g1:=ST.1.blk.cell 2
     have g2:=ST.1.blk.free 2
     simp only [List.getElem?_toArray,List.getElem?_cons_zero,List.getElem?_cons_succ] at g1
     refine hK.out _ _ (SO.out _ ST.2.2.2.2.2.2.1 ST.2.1) (fun _=>?_)
     clear hK K
     (try simp only [cl,Act.put])
     refine tk 13 rfl ?_
     (try simp only [cl,Act.put])
     refine rd 14 rfl fun K hK=>?_
     go_simp
     have FI:=Zcw ST (.slice g' (pre.length+1) k') hown
     refine hK.out _ _ (SO.out _ FI.2.2.2.2.2.2.1 FI.2.1) (fun _=>?_)
     clear hK K
     refine wpAnyH_done (by kernel_rfl) ?_ _
     exact ⟨FI.2.2.2.2.2.2.2.1,FI.2.2.2.2.2.2.2.2.1,⟨_,FI.1,by simpa [tqE,tpE,Zay,Zt,ouC] using FI.2.2.2.2.2.2.2.2.2⟩,FI.2.1,FI.2.2.1,FI.2.2.2.1,FI.2.2.2.2.1,FI.2.2.2.2.2.2.1⟩
    ·go_simp
     refine hK.out _ _ (SA.out _) (fun _=>?_)
     clear hK K
     (try simp only [cl,Act.put])
     refine rd 1 rfl fun K hK=>?_
     go_simp
     refine hK.out _ _ (SA.out _) (fun _=>?_)
     clear hK K
     (try simp only [cl,Act.put])
     refine rd 12 rfl fun K hK=>?_
     refine ZP _ rfl _ _ 83 rfl w.heap.size 110 i0 (.agg #[.string ⟨#[]⟩,.int .i64 0]) 2 24 Tryz.underlying83 hi hz0 hz1 hz2 rfl (by decide) vo pre.length _ rfl (Zal t2 _) (V.heap.size+1) (some ⟨V.heap.size,0,none⟩) 1 1 [txt p,.int .i64 tq] rfl (ZbS _ _ _ _) (Zgu _ _) (by unfold maxLen;omega) (by omega) (Nat.le_trans t7.size (below_alloc1 V _).size) (fun v' w' hown hgrow hl=>?_)
     obtain ⟨g',k',rfl⟩:=Zl hown
     have ST:=Zca t1 t2 t3 t4 t5 t6 t7 hbb hgrow
     have g1:=ST.1.blk.cell 2
     have g2:=ST.1.blk.free 2
     simp only [List.getElem?_toArray,List.getElem?_cons_zero,List.getElem?_cons_succ] at g1
     refine hK.out _ _ (SO.out _ ST.2.2.2.2.2.2.1 ST.2.1) (fun _=>?_)
     clear hK K
     (try simp only [cl,Act.put])
     refine tk 13 rfl ?_
     (try simp only [cl,Act.put])
     refine rd 14 rfl fun K hK=>?_
     go_simp
     have FI:=Zcw ST (.slice g' (pre.length+1) k') hown
     refine hK.out _ _ (SO.out _ FI.2.2.2.2.2.2.1 FI.2.1) (fun _=>?_)
     clear hK K
     refine wpAnyH_done (by kernel_rfl) ?_ _
     exact ⟨FI.2.2.2.2.2.2.2.1,FI.2.2.2.2.2.2.2.2.1,⟨_,FI.1,by simpa [tqE,tpE,Zay,Zt,ouC] using FI.2.2.2.2.2.2.2.2.2⟩,FI.2.1,FI.2.2.1,FI.2.2.2.1,FI.2.2.2.2.1,FI.2.2.2.2.2.2.1⟩
  case done=>
   rintro D V hD ⟨⟨vo,t1,t2⟩,t3,t4,t5,t6,t7⟩ hk
   obtain ⟨g',k',rfl⟩:=Zl t2
   have c0:=t1.blk.cell 0
   have c1':=t1.blk.cell 1
   have c2':=t1.blk.cell 2
   have f0:=t4.blk.free 0
   have f1:=t4.blk.free 1
   have f2:=t4.blk.free 2
   have d0:=t4.blk.cell 0
   have d1:=t4.blk.cell 1
   have d2:=t4.blk.cell 2
   simp only [List.getElem?_toArray,List.getElem?_cons_zero,List.getElem?_cons_succ] at c0 c1' c2' d0 d1 d2
   go_wp2_with fail
   have hk2:=(((KeepsOthers.setCell V ⟨w.heap.size+1,0,none⟩ (txt s0)).trans (KeepsOthers.setCell _ ⟨w.heap.size+1,1,none⟩ (.int .i64 fr))).trans (KeepsOthers.setCell _ ⟨w.heap.size+1,2,none⟩ (.slice g' (List.finRange m).length k'))).same D _ hk rfl
   have T9:=((t4.set 0 (txt s0)).set 1 (.int .i64 fr)).set 2 (.slice g' (List.finRange m).length k')
   have ne1:b≠w.heap.size+1:=Nat.ne_of_gt (Nat.lt_of_lt_of_le lt0 HM.out.2.2)
   have o9:=Zg (Zg (Zg t2 (t4.off t2 (by decide)) (j:=0) (u:=txt s0)) (t4.off t2 (by decide)) (j:=1) (u:=.int .i64 fr)) (t4.off t2 (by decide)) (j:=2) (u:=.slice g' (List.finRange m).length k')
   have L9:=((t7.setCell (p:=⟨w.heap.size+1,0,none⟩) (Nat.le_succ _) (txt s0)).setCell (p:=⟨w.heap.size+1,1,none⟩) (Nat.le_succ _) (.int .i64 fr)).setCell (p:=⟨w.heap.size+1,2,none⟩) (Nat.le_succ _) (.slice g' (List.finRange m).length k')
   have lD:w.heap.size<=D:=Nat.le_trans WW.size hD
   simp only [List.length_finRange] at hk2 T9 o9 L9
   have T10:=Zbb T9 (grownBy_putObj' _ D (.deferred none)) (fun r e=>by cases e;exact ⟨_,hk2,rfl⟩)
   have o10:=ZeZ o9 (grownBy_putObj' _ D (.deferred none)) (fun r e=>by cases e;exact ⟨_,hk2,rfl⟩)
   have L10:=L9.grown (grownBy_putObj' _ D (.deferred none)) L9.size (fun k e=>by cases e;exact lD)
   refine ⟨by simp,.inl ⟨_,_,rfl,run_takeDeferred hk2,?_⟩⟩
   refine ⟨_,results_cell_row (P:=Tryz.prog) rfl _ _ (w.heap.size+1) 85 #[txt s0,.int .i64 fr,.slice g' m k'] (0,0) _ rfl (by unfold Zd at T10;simpa using T10) Tryz.underlying85 rfl (by obtain ⟨i,hi,_,hs,_⟩:=info_parts ZcG;rw [hi];show some i.size=_;rw [hs];rfl),.slice g' m k',?_,?_,L10⟩
   ·rw [HFR.out]
   ·rw [HH.out.2.2.2.2.2.1,List.length_map,List.length_finRange]
    exact o10
end
end Go.Proofs.YtkgkmdhpnhmcpaaGreatDoor
