import Derived.Test.YtaacbenikcbibabGreatDoorQAF
set_option maxRecDepth 100000
set_option maxHeartbeats 8000000
namespace Go.Proofs.YtaacbenikcbibabGreatDoor
section
open Go.RowKit
theorem slA {A A':Option Addr} {n n' c c':Nat} (h:Value.slice A n c=.slice A' n' c'):A=A':=by cases h;rfl
theorem ZiC (w:World) (v:Value) (l:List (Ou)) (b:Nat) (t:Nat->Bool) (R:Nat->World->Prop) (hR:∀ k wr,R k wr->Zak 2 ouC (fun _ x=>x.name.length<=maxLen) wr v l) (h0:R 0 w)
  (hf:∀ (k:Nat) (x:Ou) (wr:World),l[k]? = some x->R k wr->Calls Tryz.prog 77 #[.agg #[txt x.name,.int .i64 x.to],.pointer (some ⟨b,0,none⟩)] wr fun e w'=>e=.returned (.bool (t k))/\R (k+1) w') :
  Calls Tryz.prog 68 #[v,.func (.func 77) #[] #[.pointer (some ⟨b,0,none⟩)]] w fun e w'=>e=.returned (.int .i64 (ZH t l.length))/\∃ k,R k w':=by
 obtain ⟨A,cp,rfl,h2,h3,h4,h5⟩:=hR 0 w h0
 obtain ⟨n,hn⟩:∃ n,n=l.length:=⟨_,rfl⟩
 have hmx:n<=9223372036854775807:=by unfold maxLen at h3;omega
 rw [<- hn] at h2 h4 hR ⊢
 have HN:=Lib.hid (And.intro hn (And.intro hmx hf))
 have H4:=Lib.hid hR
 have S0:=Lib.hid h0
 clear hn h2 h3 h4 h5 hmx hf hR h0
 go_enter Tryz.func68,Tryz.ntmps68
 go_wp2_with fail
 go_loopg [8] n (fun g v8 wr=>∃ k:Nat,v8=.int .i64 k/\k<=n/\g=n-k/\(∀ i,i<k->t i=false)/\R k wr)
 case atStart=>exact ⟨0,rfl,Nat.zero_le _,rfl,fun i hi=>absurd hi (Nat.not_lt_zero _),S0.out⟩
 case round=>
  obtain ⟨k,rfl,hk,hg,hall,hr⟩:=hrel
  by_cases hkn:k=n
  ·subst hkn
   have FIN:=Lib.hid (And.intro (Zav hall) hr)
   clear hk hg hall hr
   go_wp2_with fail
   go_ret
   exact ⟨by rw [FIN.out.1];rfl,_,FIN.out.2⟩
  ·have hlt:k<n:=by omega
   obtain ⟨x,hx⟩:∃ x,l[k]? = some x:=⟨_,List.getElem?_eq_getElem (by have:=HN.out.1;omega)⟩
   obtain ⟨A2,cp2,e2,_,_,h42,_⟩:=H4.out k wr hr
   replace e2:=slA e2
   subst e2
   rw [<- HN.out.1] at h42
   obtain ⟨ad,rfl,d0,d1⟩:=ZaP ZbA h42 (Below.refl _ _) hx (by omega)
   have CL:=Lib.hid (HN.out.2.2 k x wr hx hr)
   unfold ouC at d0 d1
   simp only [List.getElem?_cons_zero,List.getElem?_cons_succ] at d0 d1
   have i1:(k:Int)<(n:Int):=by omega
   have i2:(0:Int)<=(k:Int):=by omega
   have wk:IntKind.i64.wrap ((k:Int)+1)=(k:Int)+1:=IntWalk.i64_in _ (by have:=HN.out.2.1;omega)
   have HK:=Lib.hid (And.intro hlt (And.intro hg hall))
   clear hkn hlt hk hg hall hr hx h42
   cases q:t k
   ·rw [q] at CL
    have NX:=Lib.hid (show ∀ i,i<k+1->t i=false from fun i hi=>by
     by_cases e:i=k
     ·rw [e];exact q
     ·exact HK.out.2.2 i (by omega))
    clear q
    go_wp2_with (go_at_call 77;(with_reducible refine CL.out.mono ?_);rintro e w1 ⟨rfl,hr1⟩;have H1:=Lib.hid hr1;clear hr1)
    go_roundg (n-(k+1))
    case measure=>have:=HK.out.1;have:=HK.out.2.1;omega
    case rel=>exact ⟨k+1,by push_cast;rfl,HK.out.1,rfl,NX.out,H1.out⟩
   ·rw [q] at CL
    have FH:=Lib.hid (ZaE HK.out.1 q HK.out.2.2)
    clear q
    go_wp2_with (go_at_call 77;(with_reducible refine CL.out.mono ?_);rintro e w1 ⟨rfl,hr1⟩;have H1:=Lib.hid hr1;clear hr1)
    go_ret
    exact ⟨by rw [FH.out];rfl,_,H1.out⟩
theorem Zip (w:World) (v:Value) (l:List (Ou)) (b:Nat) (t:Nat->Bool) (R:Nat->World->Prop) (hR:∀ k wr,R k wr->Zak 2 ouC (fun _ x=>x.name.length<=maxLen) wr v l) (h0:R 0 w)
  (hf:∀ (k:Nat) (x:Ou) (wr:World),l[k]? = some x->R k wr->Calls Tryz.prog 77 #[.agg #[txt x.name,.int .i64 x.to],.pointer (some ⟨b,0,none⟩)] wr fun e w'=>e=.returned (.bool (t k))/\R (k+1) w') :
  Calls Tryz.prog 45 #[v,.func (.func 77) #[] #[.pointer (some ⟨b,0,none⟩)]] w fun e w'=>e=.returned (.bool ((List.range l.length).any t))/\∃ k,R k w':=by
 have IXH:=Lib.hid (ZiC w v l b t R hR h0 hf)
 have EQ:=Lib.hid (Zdc (t:=t) (n:=l.length))
 clear hR h0 hf
 generalize (List.range l.length).any t=B at *
 generalize ZH t l.length=z at *
 go_enter Tryz.func45,Tryz.ntmps45
 go_wp2_with (go_at_call 68;(with_reducible refine IXH.out.mono ?_);rintro e w1 ⟨rfl,hr1⟩;have H1:=Lib.hid hr1;clear hr1)
 go_ret
 exact ⟨by rw [<- EQ.out];rfl,H1.out⟩
theorem Zhx (w:World) (bn bx bm:Nat) (L:List (List UInt8)) (s:Ou) (h:SamS w bn bx bm L) (hn:L.length<1000000) (hs:s.name.length<=maxLen) :
  Calls Tryz.prog 77 #[.agg #[txt s.name,.int .i64 s.to],.pointer (some ⟨bn,0,none⟩)] w fun e w'=>e=.returned (.bool (L.contains s.name))/\SamS w' bn bx bm (s.name::L)/\∀ B,B<=w.heap.size->B<=bm->Below B w w':=by
 have a1:=Za w (.cells #[txt s.name,.int .i64 s.to] 100)
 have B1:=Blk.start w #[txt s.name,.int .i64 s.to] 100
 have h1:=h.keep a1
 have FR:=Lib.hid (Zdb _ bx bm L s.name h1.m hn hs)
 have c0:=B1.cell 0
 have c1:=h1.f.cell 0
 simp only [List.getElem?_toArray,List.getElem?_cons_zero,frF] at c0 c1
 have HA:=Lib.hid (And.intro a1 h1)
 clear h hn hs h1 B1 a1
 generalize L.contains s.name=B at *
 go_enter Tryz.func77,Tryz.ntmps77
 go_wp2_with (go_at_call 96;(with_reducible refine FR.out.mono ?_);rintro e w1 ⟨rfl,hf,hg⟩;have H1:=Lib.hid (And.intro hf hg);clear hf hg)
 go_ret
 refine ⟨rfl,HA.out.2.next H1.out.2 H1.out.1,fun B' h1 h2=>(HA.out.1.mono h1).trans (Zv H1.out.2 (Nat.le_trans h1 HA.out.1.size) (fun k hk=>by injection hk with hk;omega))⟩
def Zhy (os:List Ou) (k:Nat):Bool:=match os[k]? with
 | some o=>((os.take k).map (·.name)).contains o.name
 | none=>false
def Zc4 (os:List Ou):Bool:=(List.range os.length).any (Zhy os)
theorem Zfn {ss:List Ou} {k:Nat} {x:Ou} (h:ss[k]? = some x):((ss.take (k+1)).map (·.name)).reverse=x.name::((ss.take k).map (·.name)).reverse:=by
 rw [List.take_add_one,h,List.map_append,List.reverse_append];rfl
structure SamT (w:World) (bn bx bm:Nat) (L:List Stt):Prop where
 f:Blk w bn #[frT bx]
 m:FreT w bx bm L
theorem SamT.keep {w w':World} {bn bx bm:Nat} {L:List Stt} (h:SamT w bn bx bm L) (hb:Below w.heap.size w w'):SamT w' bn bx bm L:=⟨h.f.keep hb,h.m.keep hb⟩
theorem SamT.next {w w':World} {bn bx bm:Nat} {L L':List Stt} (h:SamT w bn bx bm L) (hg:w.grownBy w' (some bm)) (hm:FreT w' bx bm L'):SamT w' bn bx bm L':=
 ⟨h.f.grown hg (fun e=>by injection e with e;exact h.m.map.not_blk h.f e),hm⟩
theorem FreS.lt {w:World} {bx bm:Nat} {L:List (List UInt8)} (h:FreS w bx bm L):bm<w.heap.size:=h.map.lt
theorem Zc0 {w w':World} {o:Obj} {bm b:Nat} {cs:Array Value} (hg:(w.alloc o).grownBy w' (some bm)) (h:Blk w b cs) (hne:bm≠b):Blk w' b cs:=(h.keep (Za w o)).grown hg (fun e=>hne (by injection e))
theorem ZhX {w w':World} {o:Obj} {bm bx' bm':Nat} {L:List (List UInt8)} (hg:(w.alloc o).grownBy w' (some bm)) (h:FreS w bx' bm' L) (h1:bm≠bx') (h2:bm≠bm'):FreS w' bx' bm' L:=(h.keep (Za w o)).grown hg (fun e=>h1 (by injection e)) (fun e=>h2 (by injection e))
theorem Zgm {w w':World} {o:Obj} {bm B:Nat} (hg:(w.alloc o).grownBy w' (some bm)) (hB:B<=w.heap.size) (hm:B<=bm):Below B w w':=
 ((Za w o).mono hB).trans (Zv hg (Nat.le_trans hB (Za w o).size) (fun k hk=>by injection hk with hk;omega))
theorem Zgy (w0 w:World) (bn bx bm:Nat) (L:List Stt) (vo:Value) (m:Mov) (h:SamT w bn bx bm L) (ho:Zaj w0 vo m.outs) (hb:Below w0.heap.size w0 w) (hbm:w0.heap.size<=bm) (hno:m.outs.length<1000000) (hn:L.length<1000000) (hk:OkT (m.op,m.at_)) :
  Calls Tryz.prog 76 #[.agg #[txt m.op,.int .i64 m.at_,vo],.pointer (some ⟨bn,0,none⟩)] w fun e w'=>e=.returned (.bool (L.contains (m.op,m.at_)||Zc4 m.outs))/\SamT w' bn bx bm ((m.op,m.at_)::L)/\Below w0.heap.size w0 w':=by
 obtain ⟨Ao,co,rfl,hlo⟩:=ho.len
 have a1:=Za w (.cells #[txt m.op,.int .i64 m.at_,.slice Ao m.outs.length co] 79)
 have B1:=Blk.start w #[txt m.op,.int .i64 m.at_,.slice Ao m.outs.length co] 79
 have lt1:=And.intro h.m.map.lt (And.intro h.f.lt h.m.box.lt)
 have h1:=h.keep a1
 have FA:=Lib.hid (ZdN (w.alloc (.cells #[txt m.op,.int .i64 m.at_,.slice Ao m.outs.length co] 79)))
 have H0:=Lib.hid (And.intro ho (And.intro (hb.trans (a1.mono hb.size)) (And.intro hbm (And.intro hno (And.intro hn hk)))))
 have HA:=Lib.hid (And.intro a1 (And.intro B1 (And.intro h1 lt1)))
 clear h ho hb hbm hno hn hk a1 B1 h1 lt1 hlo
 have hmf:=mkF
 have hsf:=stF
 go_enter Tryz.func76,Tryz.ntmps76
 go_upto_region 2 with (go_at_call 69;(with_reducible refine FA.out.mono ?_);rintro e w1 ⟨bx',bm',rfl,hf,h1,h2,hb⟩;have H1:=Lib.hid (And.intro hf (And.intro h1 (And.intro h2 hb)));clear hf h1 h2 hb;unfold frF)
 have a2:=Za w1 (.cells #[frF bx'] 47)
 have B2:=Blk.start w1 #[frF bx'] 47
 have b1:=(HA.out.2.1.keep H1.out.2.2.2).keep a2
 have s1:=(HA.out.2.2.1.keep H1.out.2.2.2).keep a2
 have f1:=H1.out.1.keep a2
 have bw:Below w0.heap.size w0 (w1.alloc (.cells #[frF bx'] 47)):=(H0.out.2.1.trans (H1.out.2.2.2.mono H0.out.2.1.size)).trans (a2.mono (H0.out.2.1.trans (H1.out.2.2.2.mono H0.out.2.1.size)).size)
 have z1:w.heap.size+1<=w1.heap.size:=by have:=H1.out.2.2.2.size;rw [World.size_alloc] at this;exact this
 unfold frF at a2 B2 b1 s1 f1 bw
 generalize w1.alloc (.cells #[.func (.func 96) #[] #[.pointer (some ⟨bx',0,none⟩)]] 47)=W at *
 have CT:=Lib.hid (Zfe W bx bm L (m.op,m.at_) s1.m H0.out.2.2.2.2.1 H0.out.2.2.2.2.2)
 have c0:=b1.cell 0
 have c1:=b1.cell 1
 have c2:=s1.f.cell 0
 simp only [List.getElem?_toArray,List.getElem?_cons_zero,List.getElem?_cons_succ,frT] at c0 c1 c2
 have HB:=Lib.hid (And.intro b1 (And.intro s1 (And.intro f1 (And.intro bw (And.intro B2 (And.intro z1 a2.size))))))
 clear a2 B2 b1 s1 f1 bw z1
 have GO:∀ w3:World,(W.alloc (.cells #[txt m.op,.int .i64 m.at_] 122)).grownBy w3 (some bm)->FreT w3 bx bm ((m.op,m.at_)::L) ->
   w3.cell? ⟨w.heap.size,2,none⟩=some (.slice Ao m.outs.length co)/\SamT w3 bn bx bm ((m.op,m.at_)::L)/\Below w0.heap.size w0 w3 ∧
   Calls Tryz.prog 45 #[.slice Ao m.outs.length co,.func (.func 77) #[] #[.pointer (some ⟨w1.heap.size,0,none⟩)]] w3 (fun e w'=>e=.returned (.bool (Zc4 m.outs))/\SamT w' bn bx bm ((m.op,m.at_)::L)/\Below w0.heap.size w0 w'):=by
  intro w3 hg hf
  have l1:=HA.out.2.2.2
  have x1:=H1.out.2.1
  have x2:=H1.out.2.2.1
  rw [World.size_alloc] at x1 x2
  have z1:=HB.out.2.2.2.2.2.1
  have k3:=Zc0 hg HB.out.1 (by omega)
  have t3:SamT w3 bn bx bm ((m.op,m.at_)::L):=⟨Zc0 hg HB.out.2.1.f (HB.out.2.1.m.map.not_blk HB.out.2.1.f),hf⟩
  have bl3:=HB.out.2.2.2.1.trans (Zgm hg HB.out.2.2.2.1.size H0.out.2.2.1)
  have s3:SamS w3 w1.heap.size bx' bm' []:=⟨Zc0 hg HB.out.2.2.2.2.1 (by omega),ZhX hg HB.out.2.2.1 (by omega) (by omega)⟩
  have c3:=k3.cell 2
  simp only [List.getElem?_toArray,List.getElem?_cons_zero,List.getElem?_cons_succ] at c3
  have lo:=H0.out.2.2.2.1
  refine ⟨c3,t3,bl3,(Zip w3 (.slice Ao m.outs.length co) m.outs w1.heap.size (Zhy m.outs) (fun k v=>SamS v w1.heap.size bx' bm' ((m.outs.take k).map (·.name)).reverse/\SamT v bn bx bm ((m.op,m.at_)::L)/\Below w0.heap.size w0 v) (fun k v hr=>H0.out.1.below hr.2.2) ⟨by simpa using s3,t3,bl3⟩ (fun k x wr hx hr=>?_)).mono fun e w' ⟨he,k,hr⟩=>⟨he,hr.2.1,hr.2.2⟩⟩
  refine (Zhx wr _ bx' bm' _ x hr.1 (by rw [List.length_reverse,List.length_map,List.length_take];omega) (by
   obtain ⟨_,_,_,_,_,_,h5⟩:=H0.out.1
   exact h5 x (List.mem_of_getElem? hx))).mono fun e v' ⟨he,hs',hB⟩=>?_
  have lm:=hr.1.m.map.lt
  have hb:=hB bm' (by omega) (Nat.le_refl _)
  refine ⟨by rw [he,Zcr];unfold Zhy;rw [hx],by rw [Zfn hx];exact hs',⟨hr.2.1.f.keepB hb (by omega),hr.2.1.m.box.keepB hb (by omega),hr.2.1.m.map.keepB hb (by omega)⟩,hr.2.2.trans (hB _ hr.2.2.size (by have:=H0.out.2.1.size;rw [World.size_alloc] at this;omega))⟩
 have HG:=Lib.hid GO
 clear GO
 generalize hB2:Zc4 m.outs=B2 at *
 generalize hB1:L.contains (m.op,m.at_)=B1 at *
 have HQ1:=Lib.hid hB1
 have HQ2:=Lib.hid hB2
 clear hB1 hB2
 cases B1
 ·go_wp2_with (first
   | (go_at_call 97;(refine CT.out.mono ?_);rintro e w3 ⟨rfl,hf,hg⟩;obtain ⟨c3,t3,b3,cf⟩:=HG.out w3 hg hf;have CF:=Lib.hid cf;have H3:=Lib.hid (And.intro t3 b3);clear hf hg t3 b3 cf)
   | (go_at_call 45;(refine CF.out.mono ?_);rintro e w4 ⟨rfl,t4,b4⟩;have H4:=Lib.hid (And.intro t4 b4);clear t4 b4))
  go_ret
  exact ⟨by rw [HQ1.out,HQ2.out];rfl,H4.out⟩
 ·go_wp2_with (go_at_call 97;(refine CT.out.mono ?_);rintro e w3 ⟨rfl,hf,hg⟩;obtain ⟨c3,t3,b3,cf⟩:=HG.out w3 hg hf;have H3:=Lib.hid (And.intro t3 b3);clear hf hg t3 b3 cf)
  go_ret
  exact ⟨by rw [HQ1.out];rfl,H3.out⟩
def Zb7 (ms:List Mov) (k:Nat):Bool:=match ms[k]? with
 | some m=>((ms.take k).map fun m=>((m.op,m.at_):Stt)).contains (m.op,m.at_)||Zc4 m.outs
 | none=>false
theorem Zd2 (l:List Stt) (x:Stt):l.reverse.contains x=l.contains x:=by
 rw [Bool.eq_iff_iff,List.contains_iff_mem,List.contains_iff_mem,List.mem_reverse]
theorem Zfu {ms:List Mov} {k:Nat} {x:Mov} (h:ms[k]? = some x):((ms.take (k+1)).map fun m=>((m.op,m.at_):Stt)).reverse=(x.op,x.at_)::((ms.take k).map fun m=>((m.op,m.at_):Stt)).reverse:=by
 rw [List.take_add_one,h,List.map_append,List.reverse_append];rfl
theorem Zhm (w:World) (vs vm:Value) (p:Pro) (h:ProAt w vs vm p) (hf:Fits p) (hs:p.states.length<=16) (hml:p.moves.length<1000000) (hol:∀ m∈p.moves,m.outs.length<1000000) :
  Calls Tryz.prog 49 #[ZaF vs vm p] w fun e w'=>e=.returned (.int .i64 (ZH (Zb7 p.moves) p.moves.length))/\Below w.heap.size w w':=by
 obtain ⟨rs,hm,hM⟩:=h.moves
 have a1:=Za w (.cells #[txt p.name,vs,vm] 41)
 have B1:=Blk.start w #[txt p.name,vs,vm] 41
 have FA:=Lib.hid (Zf6 (w.alloc (.cells #[txt p.name,vs,vm] 41)))
 have IX:=Lib.hid (fun (wr:World) (bn bx bm:Nat) (hb:Below w.heap.size w wr) (hbm:w.heap.size<=bm) (hs':SamT wr bn bx bm [])=>
  ZhJ w wr vm rs bn (Zb7 p.moves) (fun k v=>SamT v bn bx bm ((p.moves.take k).map fun m=>((m.op,m.at_):Stt)).reverse) hM hb (by simpa using hs')
   (fun k x v hx hbv hr=>(Zgy w v bn bx bm _ x.1 x.2 hr (by obtain ⟨_,_,_,_,_,_,h5⟩:=hM;exact (h5 x (List.mem_of_getElem? hx)).2) hbv hbm (hol x.2 (List.mem_of_getElem? (Za3 hm hx))) (by rw [List.length_reverse,List.length_map,List.length_take];omega)
    ⟨(by obtain ⟨_,_,_,_,_,_,h5⟩:=hM;exact (h5 x (List.mem_of_getElem? hx)).1),WalkArith.wf_i64 (by have:=hf.at_ x.2 (List.mem_of_getElem? (Za3 hm hx));dsimp only;omega)⟩).mono fun e v' ⟨he,hr',hB⟩=>⟨by rw [he,Zd2];unfold Zb7;rw [Za3 hm hx],hB,by rw [Zfu (Za3 hm hx)];exact hr'⟩))
 rw [ZbN hm] at IX
 obtain ⟨Am,cm,rfl,hlm⟩:=h.moves.len
 have c1:=B1.cell 1
 have HA:=Lib.hid (And.intro a1 B1)
 clear h hf hs hml hol hM hm a1 B1 hlm c1
 generalize ZH (Zb7 p.moves) p.moves.length=z at *
 have hmf:=mkF
 have hsf:=stF
 go_enter Tryz.func49,Tryz.ntmps49
 go_upto_region 2 with (go_at_call 75;(with_reducible refine FA.out.mono ?_);rintro e w1 ⟨bx,bm,rfl,hf,h1,h2,hb⟩;have H1:=Lib.hid (And.intro hf (And.intro h1 (And.intro h2 hb)));clear hf h1 h2 hb;unfold frT)
 have a2:=Za w1 (.cells #[frT bx] 119)
 have B2:=Blk.start w1 #[frT bx] 119
 have bw:=(HA.out.1.trans (H1.out.2.2.2.mono HA.out.1.size))
 have c2:=((HA.out.2.keep H1.out.2.2.2).keep a2).cell 2
 simp only [List.getElem?_toArray,List.getElem?_cons_zero,List.getElem?_cons_succ,frT] at c2
 have CX:=Lib.hid (IX.out _ w1.heap.size bx bm (bw.trans (a2.mono bw.size)) (Nat.le_trans HA.out.1.size H1.out.2.2.1) ⟨B2,H1.out.1.keep a2⟩)
 unfold frT at CX
 clear a2 B2 bw
 go_wp2_with (go_at_call 30;(with_reducible refine CX.out.mono ?_);rintro e w3 ⟨rfl,hb,hr⟩;have H3:=Lib.hid hb;clear hb hr)
 go_ret
 exact ⟨rfl,H3.out⟩
end
end Go.Proofs.YtaacbenikcbibabGreatDoor
