import Derived.Test.YtkgkmdhpnhmcpaaGreatDoorQAD
set_option maxRecDepth 100000
set_option maxHeartbeats 8000000
namespace Go.Proofs.YtkgkmdhpnhmcpaaGreatDoor
section
open Go.RowKit
theorem slA {A A':Option Addr} {n n' c c':Nat} (h:Value.slice A n c=.slice A' n' c'):A=A':=by cases h;rfl
theorem ZiW (w:World) (v:Value) (l:List (Ou)) (b:Nat) (t:Nat->Bool) (R:Nat->World->Prop) (hR:∀ k wr,R k wr->Zak 2 ouC (fun _ x=>x.name.length<=maxLen) wr v l) (h0:R 0 w)
  (hf:∀ (k:Nat) (x:Ou) (wr:World),l[k]? = some x->R k wr->Calls Tryz.prog 116 #[.agg #[txt x.name,.int .i64 x.to],.pointer (some ⟨b,0,none⟩)] wr fun e w'=>e=.returned (.bool (t k))/\R (k+1) w') :
  Calls Tryz.prog 107 #[v,.func (.func 116) #[] #[.pointer (some ⟨b,0,none⟩)]] w fun e w'=>e=.returned (.int .i64 (ZE t l.length))/\∃ k,R k w':=by
 obtain ⟨A,cp,rfl,h2,h3,h4,h5⟩:=hR 0 w h0
 obtain ⟨n,hn⟩:∃ n,n=l.length:=⟨_,rfl⟩
 have hmx:n<=9223372036854775807:=by unfold maxLen at h3;omega
 rw [<- hn] at h2 h4 hR ⊢
 have HN:=zh (zi hn (zi hmx hf))
 have H4:=zh hR
 have S0:=zh h0
 clear hn h2 h3 h4 h5 hmx hf hR h0
 go_enter Tryz.func107,Tryz.ntmps107
 go_wp2_with fail
 go_loopg [8] n (fun g v8 wr=>∃ k:Nat,v8=.int .i64 k/\k<=n/\g=n-k/\(∀ i,i<k->t i=false)/\R k wr)
 case atStart=>exact ⟨0,rfl,Nat.zero_le _,rfl,fun i hi=>absurd hi (Nat.not_lt_zero _),S0.out⟩
 case round=>
  obtain ⟨k,rfl,hk,hg,hall,hr⟩:=hrel
  by_cases hkn:k=n
  ·subst hkn
   have FIN:=zh (zi (Zas hall) hr)
   clear hk hg hall hr
   go_wp2_with fail
   go_ret
   exact ⟨by rw [FIN.out.1];rfl,_,FIN.out.2⟩
  ·have hlt:k<n:=by omega
   obtain ⟨x,hx⟩:∃ x,l[k]? = some x:=⟨_,List.getElem?_eq_getElem (by have:=HN.out.1;omega)⟩
   obtain ⟨A2,cp2,e2,_,_,h42,_⟩:=H4.out k wr hr
   replace e2:=slA e2
   subst e2
   rw [<- HN.out.1] at h42
   obtain ⟨ad,rfl,d0,d1⟩:=ZaN ZbB h42 (Below.refl _ _) hx (by omega)
   have CL:=zh (HN.out.2.2 k x wr hx hr)
   unfold ouC at d0 d1
   simp only [List.getElem?_cons_zero,List.getElem?_cons_succ] at d0 d1
   have i1:(k:Int)<(n:Int):=by omega
   have i2:(0:Int)<=(k:Int):=by omega
   have wk:IntKind.i64.wrap ((k:Int)+1)=(k:Int)+1:=IntWalk.i64_in _ (by have:=HN.out.2.1;omega)
   have HK:=zh (zi hlt (zi hg hall))
   clear hkn hlt hk hg hall hr hx h42
   cases q:t k
   ·rw [q] at CL
    have NX:=zh (show ∀ i,i<k+1->t i=false from fun i hi=>by
     by_cases e:i=k
     ·rw [e];exact q
     ·exact HK.out.2.2 i (by omega))
    clear q
    go_wp2_with (go_at_call 116;(with_reducible refine CL.out.mono ?_);rintro e w1 ⟨rfl,hr1⟩;have H1:=zh hr1;clear hr1)
    go_roundg (n-(k+1))
    case measure=>have:=HK.out.1;have:=HK.out.2.1;omega
    case rel=>exact ⟨k+1,by push_cast;rfl,HK.out.1,rfl,NX.out,H1.out⟩
   ·rw [q] at CL
    have FH:=zh (ZaA HK.out.1 q HK.out.2.2)
    clear q
    go_wp2_with (go_at_call 116;(with_reducible refine CL.out.mono ?_);rintro e w1 ⟨rfl,hr1⟩;have H1:=zh hr1;clear hr1)
    go_ret
    exact ⟨by rw [FH.out];rfl,_,H1.out⟩
theorem ZiJ (w:World) (v:Value) (l:List (Ou)) (b:Nat) (t:Nat->Bool) (R:Nat->World->Prop) (hR:∀ k wr,R k wr->Zak 2 ouC (fun _ x=>x.name.length<=maxLen) wr v l) (h0:R 0 w)
  (hf:∀ (k:Nat) (x:Ou) (wr:World),l[k]? = some x->R k wr->Calls Tryz.prog 116 #[.agg #[txt x.name,.int .i64 x.to],.pointer (some ⟨b,0,none⟩)] wr fun e w'=>e=.returned (.bool (t k))/\R (k+1) w') :
  Calls Tryz.prog 77 #[v,.func (.func 116) #[] #[.pointer (some ⟨b,0,none⟩)]] w fun e w'=>e=.returned (.bool ((List.range l.length).any t))/\∃ k,R k w':=by
 have IXH:=zh (ZiW w v l b t R hR h0 hf)
 have EQ:=zh (Zdi (t:=t) (n:=l.length))
 clear hR h0 hf
 generalize (List.range l.length).any t=B at *
 generalize ZE t l.length=z at *
 go_enter Tryz.func77,Tryz.ntmps77
 go_wp2_with (go_at_call 107;(with_reducible refine IXH.out.mono ?_);rintro e w1 ⟨rfl,hr1⟩;have H1:=zh hr1;clear hr1)
 go_ret
 exact ⟨by rw [<- EQ.out];rfl,H1.out⟩
theorem ZhM (w:World) (bn bx bm:Nat) (L:List (List UInt8)) (s:Ou) (h:SamS w bn bx bm L) (hn:L.length<1000000) (hs:s.name.length<=maxLen) :
  Calls Tryz.prog 116 #[.agg #[txt s.name,.int .i64 s.to],.pointer (some ⟨bn,0,none⟩)] w fun e w'=>e=.returned (.bool (L.contains s.name))/\SamS w' bn bx bm (s.name::L)/\∀ B,B<=w.heap.size->B<=bm->Below B w w':=by
 have a1:=below_alloc1 w (.cells #[txt s.name,.int .i64 s.to] 110)
 have B1:=Blk.start w #[txt s.name,.int .i64 s.to] 110
 have h1:=h.keep a1
 have FR:=zh (Zdh _ bx bm L s.name h1.m hn hs)
 have c0:=B1.cell 0
 have c1:=h1.f.cell 0
 simp only [List.getElem?_toArray,List.getElem?_cons_zero,frF] at c0 c1
 have HA:=zh (zi a1 h1)
 clear h hn hs h1 B1 a1
 generalize L.contains s.name=B at *
 go_enter Tryz.func116,Tryz.ntmps116
 go_wp2_with (go_at_call 138;(with_reducible refine FR.out.mono ?_);rintro e w1 ⟨rfl,hf,hg⟩;have H1:=zh (zi hf hg);clear hf hg)
 go_ret
 refine ⟨rfl,HA.out.2.next H1.out.2 H1.out.1,fun B' h1 h2=>(HA.out.1.mono h1).trans (Zv H1.out.2 (Nat.le_trans h1 HA.out.1.size) (fun k hk=>by injection hk with hk;omega))⟩
def ZhN (os:List Ou) (k:Nat):Bool:=match os[k]? with
 | some o=>((os.take k).map (·.name)).contains o.name
 | none=>false
def Zda (os:List Ou):Bool:=(List.range os.length).any (ZhN os)
theorem Zfu {ss:List Ou} {k:Nat} {x:Ou} (h:ss[k]? = some x):((ss.take (k+1)).map (·.name)).reverse=x.name::((ss.take k).map (·.name)).reverse:=by
 rw [List.take_add_one,h,List.map_append,List.reverse_append];rfl
structure SamT (w:World) (bn bx bm:Nat) (L:List Stt):Prop where
 f:Blk w bn #[frT bx]
 m:FreT w bx bm L
theorem SamT.keep {w w':World} {bn bx bm:Nat} {L:List Stt} (h:SamT w bn bx bm L) (hb:Below w.heap.size w w'):SamT w' bn bx bm L:=⟨h.f.keep hb,h.m.keep hb⟩
theorem SamT.next {w w':World} {bn bx bm:Nat} {L L':List Stt} (h:SamT w bn bx bm L) (hg:w.grownBy w' (some bm)) (hm:FreT w' bx bm L'):SamT w' bn bx bm L':=
 ⟨h.f.grown hg (fun e=>by injection e with e;exact h.m.map.not_blk h.f e),hm⟩
theorem FreS.lt {w:World} {bx bm:Nat} {L:List (List UInt8)} (h:FreS w bx bm L):bm<w.heap.size:=h.map.lt
theorem Zc6 {w w':World} {o:Obj} {bm b:Nat} {cs:Array Value} (hg:(w.alloc o).grownBy w' (some bm)) (h:Blk w b cs) (hne:bm≠b):Blk w' b cs:=(h.keep (below_alloc1 w o)).grown hg (fun e=>hne (by injection e))
theorem Zie {w w':World} {o:Obj} {bm bx' bm':Nat} {L:List (List UInt8)} (hg:(w.alloc o).grownBy w' (some bm)) (h:FreS w bx' bm' L) (h1:bm≠bx') (h2:bm≠bm'):FreS w' bx' bm' L:=(h.keep (below_alloc1 w o)).grown hg (fun e=>h1 (by injection e)) (fun e=>h2 (by injection e))
theorem Zgw {w w':World} {o:Obj} {bm B:Nat} (hg:(w.alloc o).grownBy w' (some bm)) (hB:B<=w.heap.size) (hm:B<=bm):Below B w w':=
 ((below_alloc1 w o).mono hB).trans (Zv hg (Nat.le_trans hB (below_alloc1 w o).size) (fun k hk=>by injection hk with hk;omega))
theorem ZgH (w0 w:World) (bn bx bm:Nat) (L:List Stt) (vo:Value) (m:Mov) (h:SamT w bn bx bm L) (ho:Zaj w0 vo m.outs) (hb:Below w0.heap.size w0 w) (hbm:w0.heap.size<=bm) (hno:m.outs.length<1000000) (hn:L.length<1000000) (hk:OkT (m.op,m.at_)) :
  Calls Tryz.prog 115 #[.agg #[txt m.op,.int .i64 m.at_,vo],.pointer (some ⟨bn,0,none⟩)] w fun e w'=>e=.returned (.bool (L.contains (m.op,m.at_)||Zda m.outs))/\SamT w' bn bx bm ((m.op,m.at_)::L)/\Below w0.heap.size w0 w':=by
 obtain ⟨Ao,co,rfl,hlo⟩:=ho.len
 have a1:=below_alloc1 w (.cells #[txt m.op,.int .i64 m.at_,.slice Ao m.outs.length co] 85)
 have B1:=Blk.start w #[txt m.op,.int .i64 m.at_,.slice Ao m.outs.length co] 85
 have lt1:=zi h.m.map.lt (zi h.f.lt h.m.box.lt)
 have h1:=h.keep a1
 have FA:=zh (ZdT (w.alloc (.cells #[txt m.op,.int .i64 m.at_,.slice Ao m.outs.length co] 85)))
 have H0:=zh (zi ho (zi (hb.trans (a1.mono hb.size)) (zi hbm (zi hno (zi hn hk)))))
 have HA:=zh (zi a1 (zi B1 (zi h1 lt1)))
 clear h ho hb hbm hno hn hk a1 B1 h1 lt1 hlo
 have hmf:=mkF
 have hsf:=stF
 go_enter Tryz.func115,Tryz.ntmps115
 go_upto_region 2 with (go_at_call 108;(with_reducible refine FA.out.mono ?_);rintro e w1 ⟨bx',bm',rfl,hf,h1,h2,hb⟩;have H1:=zh (zi hf (zi h1 (zi h2 hb)));clear hf h1 h2 hb;unfold frF)
 have a2:=below_alloc1 w1 (.cells #[frF bx'] 59)
 have B2:=Blk.start w1 #[frF bx'] 59
 have b1:=(HA.out.2.1.keep H1.out.2.2.2).keep a2
 have s1:=(HA.out.2.2.1.keep H1.out.2.2.2).keep a2
 have f1:=H1.out.1.keep a2
 have bw:Below w0.heap.size w0 (w1.alloc (.cells #[frF bx'] 59)):=(H0.out.2.1.trans (H1.out.2.2.2.mono H0.out.2.1.size)).trans (a2.mono (H0.out.2.1.trans (H1.out.2.2.2.mono H0.out.2.1.size)).size)
 have z1:w.heap.size+1<=w1.heap.size:=by have:=H1.out.2.2.2.size;rw [World.size_alloc] at this;exact this
 unfold frF at a2 B2 b1 s1 f1 bw
 generalize w1.alloc (.cells #[.func (.func 138) #[] #[.pointer (some ⟨bx',0,none⟩)]] 59)=W at *
 have CT:=zh (Zfl W bx bm L (m.op,m.at_) s1.m H0.out.2.2.2.2.1 H0.out.2.2.2.2.2)
 have c0:=b1.cell 0
 have c1:=b1.cell 1
 have c2:=s1.f.cell 0
 simp only [List.getElem?_toArray,List.getElem?_cons_zero,List.getElem?_cons_succ,frT] at c0 c1 c2
 have HB:=zh (zi b1 (zi s1 (zi f1 (zi bw (zi B2 (zi z1 a2.size))))))
 clear a2 B2 b1 s1 f1 bw z1
 have GO:∀ w3:World,(W.alloc (.cells #[txt m.op,.int .i64 m.at_] 148)).grownBy w3 (some bm)->FreT w3 bx bm ((m.op,m.at_)::L) ->
   w3.cell? ⟨w.heap.size,2,none⟩=some (.slice Ao m.outs.length co)/\SamT w3 bn bx bm ((m.op,m.at_)::L)/\Below w0.heap.size w0 w3 ∧
   Calls Tryz.prog 77 #[.slice Ao m.outs.length co,.func (.func 116) #[] #[.pointer (some ⟨w1.heap.size,0,none⟩)]] w3 (fun e w'=>e=.returned (.bool (Zda m.outs))/\SamT w' bn bx bm ((m.op,m.at_)::L)/\Below w0.heap.size w0 w'):=by
  intro w3 hg hf
  have l1:=HA.out.2.2.2
  have x1:=H1.out.2.1
  have x2:=H1.out.2.2.1
  rw [World.size_alloc] at x1 x2
  have z1:=HB.out.2.2.2.2.2.1
  have k3:=Zc6 hg HB.out.1 (by omega)
  have t3:SamT w3 bn bx bm ((m.op,m.at_)::L):=⟨Zc6 hg HB.out.2.1.f (HB.out.2.1.m.map.not_blk HB.out.2.1.f),hf⟩
  have bl3:=HB.out.2.2.2.1.trans (Zgw hg HB.out.2.2.2.1.size H0.out.2.2.1)
  have s3:SamS w3 w1.heap.size bx' bm' []:=⟨Zc6 hg HB.out.2.2.2.2.1 (by omega),Zie hg HB.out.2.2.1 (by omega) (by omega)⟩
  have c3:=k3.cell 2
  simp only [List.getElem?_toArray,List.getElem?_cons_zero,List.getElem?_cons_succ] at c3
  have lo:=H0.out.2.2.2.1
  refine ⟨c3,t3,bl3,(ZiJ w3 (.slice Ao m.outs.length co) m.outs w1.heap.size (ZhN m.outs) (fun k v=>SamS v w1.heap.size bx' bm' ((m.outs.take k).map (·.name)).reverse/\SamT v bn bx bm ((m.op,m.at_)::L)/\Below w0.heap.size w0 v) (fun k v hr=>H0.out.1.below hr.2.2) ⟨by simpa using s3,t3,bl3⟩ (fun k x wr hx hr=>?_)).mono fun e w' ⟨he,k,hr⟩=>⟨he,hr.2.1,hr.2.2⟩⟩
  refine (ZhM wr _ bx' bm' _ x hr.1 (by rw [List.length_reverse,List.length_map,List.length_take];omega) (by
   obtain ⟨_,_,_,_,_,_,h5⟩:=H0.out.1
   exact h5 x (List.mem_of_getElem? hx))).mono fun e v' ⟨he,hs',hB⟩=>?_
  have lm:=hr.1.m.map.lt
  have hb:=hB bm' (by omega) (Nat.le_refl _)
  refine ⟨by rw [he,Zcx];unfold ZhN;rw [hx],by rw [Zfu hx];exact hs',⟨hr.2.1.f.keepB hb (by omega),hr.2.1.m.box.keepB hb (by omega),hr.2.1.m.map.keepB hb (by omega)⟩,hr.2.2.trans (hB _ hr.2.2.size (by have:=H0.out.2.1.size;rw [World.size_alloc] at this;omega))⟩
 have HG:=zh GO
 clear GO
 generalize hB2:Zda m.outs=B2 at *
 generalize hB1:L.contains (m.op,m.at_)=B1 at *
 have HQ1:=zh hB1
 have HQ2:=zh hB2
 clear hB1 hB2
 cases B1
 ·go_wp2_with (first
   | (go_at_call 139;(refine CT.out.mono ?_);rintro e w3 ⟨rfl,hf,hg⟩;obtain ⟨c3,t3,b3,cf⟩:=HG.out w3 hg hf;have CF:=zh cf;have H3:=zh (zi t3 b3);clear hf hg t3 b3 cf)
   | (go_at_call 77;(refine CF.out.mono ?_);rintro e w4 ⟨rfl,t4,b4⟩;have H4:=zh (zi t4 b4);clear t4 b4))
  go_ret
  exact ⟨by rw [HQ1.out,HQ2.out];rfl,H4.out⟩
 ·go_wp2_with (go_at_call 139;(refine CT.out.mono ?_);rintro e w3 ⟨rfl,hf,hg⟩;obtain ⟨c3,t3,b3,cf⟩:=HG.out w3 hg hf;have H3:=zh (zi t3 b3);clear hf hg t3 b3 cf)
  go_ret
  exact ⟨by rw [HQ1.out];rfl,H3.out⟩
def Zcb (ms:List Mov) (k:Nat):Bool:=match ms[k]? with
 | some m=>((ms.take k).map fun m=>((m.op,m.at_):Stt)).contains (m.op,m.at_)||Zda m.outs
 | none=>false
theorem Zd8 (l:List Stt) (x:Stt):l.reverse.contains x=l.contains x:=by
 rw [Bool.eq_iff_iff,List.contains_iff_mem,List.contains_iff_mem,List.mem_reverse]
theorem ZfB {ms:List Mov} {k:Nat} {x:Mov} (h:ms[k]? = some x):((ms.take (k+1)).map fun m=>((m.op,m.at_):Stt)).reverse=(x.op,x.at_)::((ms.take k).map fun m=>((m.op,m.at_):Stt)).reverse:=by
 rw [List.take_add_one,h,List.map_append,List.reverse_append];rfl
theorem Zhv (w:World) (vs vm:Value) (p:Pro) (h:ProAt w vs vm p) (hf:Fits p) (hs:p.states.length<=16) (hml:p.moves.length<1000000) (hol:∀ m∈p.moves,m.outs.length<1000000) :
  Calls Tryz.prog 81 #[ZaH vs vm p] w fun e w'=>e=.returned (.int .i64 (ZE (Zcb p.moves) p.moves.length))/\Below w.heap.size w w':=by
 obtain ⟨rs,hm,hM⟩:=h.moves
 have a1:=below_alloc1 w (.cells #[txt p.name,vs,vm] 51)
 have B1:=Blk.start w #[txt p.name,vs,vm] 51
 have FA:=zh (Zgc (w.alloc (.cells #[txt p.name,vs,vm] 51)))
 have IX:=zh (fun (wr:World) (bn bx bm:Nat) (hb:Below w.heap.size w wr) (hbm:w.heap.size<=bm) (hs':SamT wr bn bx bm [])=>
  Zh0 w wr vm rs bn (Zcb p.moves) (fun k v=>SamT v bn bx bm ((p.moves.take k).map fun m=>((m.op,m.at_):Stt)).reverse) hM hb (by simpa using hs')
   (fun k x v hx hbv hr=>(ZgH w v bn bx bm _ x.1 x.2 hr (by obtain ⟨_,_,_,_,_,_,h5⟩:=hM;exact (h5 x (List.mem_of_getElem? hx)).2) hbv hbm (hol x.2 (List.mem_of_getElem? (Za3 hm hx))) (by rw [List.length_reverse,List.length_map,List.length_take];omega)
    ⟨(by obtain ⟨_,_,_,_,_,_,h5⟩:=hM;exact (h5 x (List.mem_of_getElem? hx)).1),WalkArith.wf_i64 (by have:=hf.at_ x.2 (List.mem_of_getElem? (Za3 hm hx));dsimp only;omega)⟩).mono fun e v' ⟨he,hr',hB⟩=>⟨by rw [he,Zd8];unfold Zcb;rw [Za3 hm hx],hB,by rw [ZfB (Za3 hm hx)];exact hr'⟩))
 rw [ZbQ hm] at IX
 obtain ⟨Am,cm,rfl,hlm⟩:=h.moves.len
 have c1:=B1.cell 1
 have HA:=zh (zi a1 B1)
 clear h hf hs hml hol hM hm a1 B1 hlm c1
 generalize ZE (Zcb p.moves) p.moves.length=z at *
 have hmf:=mkF
 have hsf:=stF
 go_enter Tryz.func81,Tryz.ntmps81
 go_upto_region 2 with (go_at_call 114;(with_reducible refine FA.out.mono ?_);rintro e w1 ⟨bx,bm,rfl,hf,h1,h2,hb⟩;have H1:=zh (zi hf (zi h1 (zi h2 hb)));clear hf h1 h2 hb;unfold frT)
 have a2:=below_alloc1 w1 (.cells #[frT bx] 145)
 have B2:=Blk.start w1 #[frT bx] 145
 have bw:=(HA.out.1.trans (H1.out.2.2.2.mono HA.out.1.size))
 have c2:=((HA.out.2.keep H1.out.2.2.2).keep a2).cell 2
 simp only [List.getElem?_toArray,List.getElem?_cons_zero,List.getElem?_cons_succ,frT] at c2
 have CX:=zh (IX.out _ w1.heap.size bx bm (bw.trans (a2.mono bw.size)) (Nat.le_trans HA.out.1.size H1.out.2.2.1) ⟨B2,H1.out.1.keep a2⟩)
 unfold frT at CX
 clear a2 B2 bw
 go_wp2_with (go_at_call 48;(with_reducible refine CX.out.mono ?_);rintro e w3 ⟨rfl,hb,hr⟩;have H3:=zh hb;clear hb hr)
 go_ret
 exact ⟨rfl,H3.out⟩
end
end Go.Proofs.YtkgkmdhpnhmcpaaGreatDoor
