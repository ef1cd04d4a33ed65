import Derived.Test.YtfdgeijnkkdplaaDoorQAS
set_option maxRecDepth 100000
set_option maxHeartbeats 8000000
namespace Go.Proofs.YtfdgeijnkkdplaaDoor
section
open Go.RowKit
abbrev ZbC (w w':World):Nat->Prop:=fun k=>w.heap.size<=k/\k<w'.heap.size
def Zl (w0 w:World) (bp c:Nat) (ad:Addr) (L:List Tok) (Dom:PS->Prop) (s:PS) (r:Tr×PS) (e:Ending) (w':World):Prop:=
 FrP w w' bp/\(r.2.err=0->∃ b,e=.returned (brV b)/\ParQ w0 w' bp ad c L r.2/\Dom r.2/\s.at_<r.2.at_/\BrP w' (ZbC w w') r.1 b)/\(r.2.err≠0->e=ZaY r.2.err r.2.fat)
def Zw (w0:World) (bp c:Nat) (ad:Addr) (L:List Tok) (F:Nat) (caps:Array Value) (Dom:PS->Prop) (M:PS->Tr×PS):Prop:=
 ∀ (w:World) (s:PS),ParQ w0 w bp ad c L s->Dom s->Calls Tryd.prog F caps w (Zl w0 w bp c ad L Dom s (M s))
mutual
theorem Zex {w:World} {S:Nat->Prop}:∀ {t:Tr} {b:Nat},BrP w S t b->BrP w (fun k=>S k/\k<w.heap.size) t b
 | .mk k ws ns at_ kids,b,h=>by
  unfold BrP at h ⊢
  obtain ⟨h1,vw,vn,vk,bs,h2,h3,h4,h5,h6⟩:=h
  exact ⟨⟨h1,h2.lt⟩,vw,vn,vk,bs,h2,⟨h3.1,fun k hk=>⟨h3.2 k hk,(h3.1.lt k hk).2⟩⟩,⟨h4.1,fun k hk=>⟨h4.2 k hk,(h4.1.lt k hk).2⟩⟩,⟨h5.1,fun k hk=>⟨h5.2 k hk,(h5.1.lt k hk).2⟩⟩,Zf5 h6⟩
theorem Zf5 {w:World} {S:Nat->Prop}:∀ {ts:List Tr} {bs:List Nat},ZO w S ts bs->ZO w (fun k=>S k/\k<w.heap.size) ts bs
 | [],bs,h=>by unfold ZO at h ⊢;exact h
 | t::ts,bs,h=>by
  unfold ZO at h ⊢
  obtain ⟨b,r,e,h1,h2⟩:=h
  exact ⟨b,r,e,Zex h1,Zf5 h2⟩
end
theorem ZkP {w w':World} {bp:Nat} {cd:Addr} {n:Nat} {xs:List Value} (h:ZT w w.heap.size 1 (some cd) n xs) (hF:FrP w w' bp) (hcd:cd.block≠bp):ZT w' w'.heap.size 1 (some cd) n xs:=by
 obtain ⟨q1,q2⟩:=h
 refine ⟨q1,fun h0=>?_⟩
 obtain ⟨ad',e,q3,q4⟩:=q2 h0
 injection e with e
 subst e
 exact ⟨cd,rfl,Nat.lt_of_lt_of_le q3 hF.size,fun k u hu=>(Zey (by rw [show (cd.add k).block=cd.block from by unfold Addr.add;split<;>rfl];exact hF.block cd.block q3 (fun e=>by injection e with e;exact hcd (by first | exact e | exact e.symm)))).trans (q4 k u hu)⟩
theorem ZeJ (F:Nat) (hF:ZN F) (w0 w:World) (bp c:Nat) (ad:Addr) (L:List Tok) (s:PS) (Dom:PS->Prop) (M:PS->Tr×PS) (hDom:∀ s,Dom s->Dom (Zb s)) (hE:Zw w0 bp c ad L F #[.pointer (some ⟨bp,0,none⟩)] Dom M) (h:ParQ w0 w bp ad c L s) (hd:Dom s)
  (ht:Zaf w0 4 Zbg) (cd:Addr) (cc:Nat) (hcd:cd.block≠bp) (i j:Nat) (x y:Txt) (hi:Zbg[i]? = some x) (hj:Zbg[j]? = some y) (hr:ZT w w.heap.size 1 (some cd) 2 [.int .i64 i,.int .i64 j]) :
  Calls Tryd.prog 73 #[.pointer (some ⟨bp,0,none⟩),.func (.func F) #[.pointer (some ⟨bp,0,none⟩)] #[],.slice (some cd) 2 cc] w (Zl w0 w bp c ad L Dom s (Zar L M x y i j (L.length+1) (M s).1 (M s).2)):=by
 obtain ⟨R,hR⟩:∃ R,Zar L M x y i j (L.length+1) (M s).1 (M s).2=R:=⟨_,rfl⟩
 rw [hR]
 have EC:=zh (hE w s h hd)
 have H:=zh (zi hDom (zi hE (zi ht (zi hcd (zi hi (zi hj (zi hr (zi h.box.lt hR))))))))
 have door:=hF
 unfold ZN at door
 clear hd hr hR hE hF h hDom ht hcd hi hj
 by_cases hz:(M s).2.err=0
 ·go_enter Tryd.func73,Tryd.ntmps73
  go_upto_region 2 with (refine EC.out.mono ?_;rintro e2 w2 ⟨hf2,hok,_⟩;obtain ⟨b,rfl,hP2,hD2,hat,hR2⟩:=hok hz)
  have H2:=zh (zi hf2 (zi hP2 (zi hD2 (zi hat hR2))))
  have hz2:=hP2.err
  clear hf2 hP2 hD2 hat hR2 EC hz
  go_loopg [7] (L.length-(M s).2.at_) (fun g v7 wr=>∃ (la:Nat) (a:Tr) (s':PS) (f:Nat),v7=brV la/\BrP wr (ZbC w wr) a la/\R=Zar L M x y i j f a s'/\ParQ w0 wr bp ad c L s'/\Dom s'/\s.at_<s'.at_/\FrP w wr bp/\L.length-s'.at_<=f/\g=L.length-s'.at_)
  case atStart=>exact ⟨b,_,(M s).2,L.length+1,rfl,H2.out.2.2.2.2,H.out.2.2.2.2.2.2.2.2.symm,H2.out.2.1,H2.out.2.2.1,H2.out.2.2.2.1,H2.out.1,by omega,rfl⟩
  case round=>
   obtain ⟨la,a,s',f,rfl,hT,hRf,hP,hD,hat,hFr,hf,hg⟩:=hrel
   have hlt:=hP.lt
   obtain ⟨f,rfl⟩:∃ k,f=k+1:=⟨f-1,by omega⟩
   have hcase:(∃ o:Nat,ZaC L [((i:Int),x),((j:Int),y)] s'=(((o:Int),true),Zb s')/\R=Zar L M x y i j f (ZbX o a (M (Zb s')).1) (M (Zb s')).2)\/(ZaC L [((i:Int),x),((j:Int),y)] s'=((0,false),s')/\R=(a,s')):=by
    rw [Zar,if_pos hP.err] at hRf
    cases qx:isM L x s' with
    | true=>exact Or.inl ⟨i,by rw [ZaC,if_pos qx],by rw [hRf,if_pos qx]⟩
    | false=>
     rw [qx,if_neg (by simp)] at hRf
     cases qy:isM L y s' with
     | true=>exact Or.inl ⟨j,by rw [ZaC,qx,if_neg (by simp),ZaC,if_pos qy],by rw [hRf,if_pos qy]⟩
     | false=>exact Or.inr ⟨by rw [ZaC,qx,if_neg (by simp),ZaC,qy,if_neg (by simp),ZaC],by rw [hRf,qy,if_neg (by simp)]⟩
   have SG:=zh (Zc5 w0 wr bp c ad L s' hP H.out.2.2.1 cd 2 cc H.out.2.2.2.1 [(i,x),(j,y)] (fun z hz=>by rcases List.mem_cons.1 hz with rfl | hz;exact H.out.2.2.2.2.1;rw [List.mem_singleton.1 hz];exact H.out.2.2.2.2.2.1) rfl (by decide) (ZkP H.out.2.2.2.2.2.2.1 hFr H.out.2.2.2.1))
   have SL:ZaC L ([(i,x),(j,y)].map fun x=>((x.1:Int),x.2)) s'=ZaC L [((i:Int),x),((j:Int),y)] s':=rfl
   rw [SL] at SG
   rcases hcase with ⟨o,hs,hU⟩ | ⟨hs,hU⟩
   ·rw [hs] at SG
    have hD3:=H.out.1 s' hD
    have he3:=hP.err
    have K:=zh (zi hT (zi hU (zi hD3 (zi hat (zi hFr (zi hf (zi hg hlt)))))))
    clear hT hU hRf hP hD hD3 hat hFr hf hg hlt hs SL
    have hst:(Zb s').at_=s'.at_+1:=rfl
    have hz3:(Zb s').err=0:=he3
    go_upto_region 5 with (go_at_call 69;(refine SG.out.mono ?_);rintro e1 w1 ⟨hF1,hok,_⟩;obtain ⟨_,rfl,hP1,rfl⟩:=hok hz3)
    have EC2:=zh (H.out.2.1 w1 (Zb s') hP1 K.out.2.2.1)
    have F1:=zh (K.out.2.2.2.2.1.trans hF1)
    have T1:=zh (show BrP w1 (ZbC w w1) a la from BrP.frame (fun k hk=>⟨hk.1,Nat.lt_of_lt_of_le hk.2 hF1.size⟩) (fun k hk=>hF1.block k hk.2 (fun e=>by injection e with e;have:=H.out.2.2.2.2.2.2.2.1;have:=hk.1;omega)) a la K.out.1)
    generalize hs3:Zb s'=s3 at *
    clear hok hP1 hF1 hs3
    by_cases hz4:(M s3).2.err=0
    ·go_wp2_with (first
      | (go_at_call 70;(refine JN.out.mono ?_);rintro e4 w4 ⟨g4,rfl,hb4,hB4⟩)
      | (refine EC2.out.mono ?_;rintro e2 w2 ⟨hf2,hok,_⟩;obtain ⟨b3,rfl,hP2,hD2,hat2,hR2⟩:=hok hz4;have JN:=zh (ZeD w2 o (ZbC w w2) a (M s3).1 la b3 (BrP.frame (fun k hk=>⟨hk.1,Nat.lt_of_lt_of_le hk.2 hf2.size⟩) (fun k hk=>hf2.block k hk.2 (fun e=>by injection e with e;have:=H.out.2.2.2.2.2.2.2.1;have:=hk.1;omega)) a la T1.out) (BrP.frame (fun k hk=>⟨Nat.le_trans F1.out.size hk.1,hk.2⟩) (fun k hk=>rfl) _ b3 hR2) (fun k hk=>hk.2));clear hok))
     go_roundg (L.length-(M s3).2.at_)
     case measure=>have:=K.out;have:=hP2.lt;omega
     case rel=>exact ⟨g4,_,(M s3).2,f,rfl,BrP.frame (fun k hk=>⟨hk.1.elim (fun q=>q.1) (fun q=>Nat.le_trans (Nat.le_trans F1.out.size hf2.size) q),hk.2⟩) (fun k hk=>rfl) _ g4 (Zex hB4),K.out.2.1,hP2.keep hb4,hD2,by have:=K.out.2.2.2.1;omega,(F1.out.trans hf2).trans (FrP.of_below bp hb4),by have:=K.out;have:=hP2.lt;omega,rfl⟩
    ·have hb:Zar L M x y i j f (ZbX o a (M s3).1) (M s3).2=(ZbX o a (M s3).1,(M s3).2):=by
      cases f with
      | zero=>rfl
      | succ f=>rw [Zar,if_neg hz4]
     have HR:=zh (K.out.2.1.trans hb)
     have HZ:=zh hz4
     clear hz4 hb
     go_wp2_with (refine EC2.out.mono ?_;rintro e2 w2 ⟨hf2,_,hbad⟩;obtain rfl:=hbad HZ.out)
     refine ⟨rfl,F1.out.trans hf2,?_,?_⟩
     ·rw [HR.out]
      exact fun e=>absurd e HZ.out
     ·rw [HR.out]
      exact fun _=>rfl
   ·rw [hs] at SG
    have he:=hP.err
    have K:=zh (zi hT (zi hU (zi hD (zi hat hFr))))
    clear hT hU hRf hP hD hat hFr hf hg hlt hs SL
    go_wp2_with (go_at_call 69;(refine SG.out.mono ?_);rintro e1 w1 ⟨hF1,hok,_⟩;obtain ⟨_,rfl,hP1,rfl⟩:=hok he)
    go_ret
    refine ⟨K.out.2.2.2.2.trans hF1,?_,?_⟩
    ·rw [K.out.2.1]
     exact fun _=>⟨la,rfl,hP1,K.out.2.2.1,K.out.2.2.2.1,BrP.frame (fun k hk=>⟨hk.1,Nat.lt_of_lt_of_le hk.2 hF1.size⟩) (fun k hk=>hF1.block k hk.2 (fun e=>by injection e with e;have:=H.out.2.2.2.2.2.2.2.1;have:=hk.1;omega)) a la K.out.1⟩
    ·rw [K.out.2.1]
     exact fun e=>absurd hP1.err e
 ·have hb:Zar L M x y i j (L.length+1) (M s).1 (M s).2=((M s).1,(M s).2):=by rw [Zar,if_neg hz]
  have HR:=zh (H.out.2.2.2.2.2.2.2.2.symm.trans hb)
  have HZ:=zh hz
  clear hz hb
  go_enter Tryd.func73,Tryd.ntmps73
  go_wp2_with (refine EC.out.mono ?_;rintro e2 w2 ⟨hf2,_,hbad⟩;obtain rfl:=hbad HZ.out)
  refine ⟨rfl,hf2,?_,?_⟩
  ·rw [HR.out]
   exact fun e=>absurd e HZ.out
  ·rw [HR.out]
   exact fun _=>rfl
end
section
open Go.RowKit
theorem Zhg:ZN 80:=fun _ _=>by kernel_rfl
theorem ZeT:ZN 74:=fun _ _=>by kernel_rfl
theorem Zl.back {w0 w w1:World} {bp c:Nat} {ad:Addr} {L:List Tok} {Dom:PS->Prop} {s:PS} {r:Tr×PS} {e:Ending} {w':World} (h:Zl w0 w1 bp c ad L Dom s r e w') (hb:Below w.heap.size w w1):Zl w0 w bp c ad L Dom s r e w':=by
 obtain ⟨h1,h2,h3⟩:=h
 refine ⟨(FrP.of_below bp hb).trans h1,fun e=>?_,h3⟩
 obtain ⟨b,k1,k2,k3,k4,k5⟩:=h2 e
 exact ⟨b,k1,k2,k3,k4,BrP.frame (fun k hk=>⟨Nat.le_trans hb.size hk.1,hk.2⟩) (fun k hk=>rfl) _ b k5⟩
theorem Zb3 {w:World} {g n size:Nat} {us:List Value} (hB:Blk w g us.toArray) (h:us.length=n*size):ZT w w.heap.size size (some ⟨g,0,none⟩) n us:=
 ⟨h,fun _=>⟨_,rfl,hB.lt,fun j u hu=>by rw [Addr.add_lit,Nat.zero_add,hB.cell j];simpa using hu⟩⟩
theorem Zgl (w:World) (i j:Int):ZT (w.alloc (.cells #[.int .i64 i,.int .i64 j] 3)) (w.alloc (.cells #[.int .i64 i,.int .i64 j] 3)).heap.size 1 (some ⟨w.heap.size,0,none⟩) 2 [.int .i64 i,.int .i64 j]:=
 Zb3 (Zy.start w _ _).blk rfl
theorem Zge (w0 w:World) (bp c:Nat) (ad:Addr) (L:List Tok) (s:PS) (Dom:PS->Prop) (M:PS->Tr×PS) (hDom:∀ s,Dom s->Dom (Zb s)) (hE:Zw w0 bp c ad L 80 #[.pointer (some ⟨bp,0,none⟩)] Dom M) (h:ParQ w0 w bp ad c L s) (hd:Dom s) (ht:Zaf w0 4 Zbg) :
  Calls Tryd.prog 74 #[.pointer (some ⟨bp,0,none⟩)] w (Zl w0 w bp c ad L Dom s (ZaE L M s)):=by
 have hb:=below_alloc1 w (.cells #[.int .i64 4,.int .i64 5] 3)
 have CH:=zh (ZeJ 80 Zhg w0 _ bp c ad L s Dom M hDom hE (h.keep hb) hd ht ⟨w.heap.size,0,none⟩ 2 (fun e=>by have:=h.box.lt;dsimp only at e;omega) 4 5 [42] [47] rfl rfl (Zgl w 4 5))
 clear h hd ht hE hDom
 have HB:=zh hb
 clear hb
 unfold ZaE
 dsimp only
 obtain ⟨R,hR⟩:∃ R,Zar L M [42] [47] 4 5 (L.length+1) (M s).1 (M s).2=R:=⟨_,rfl⟩
 have CH2:=zh (show Calls Tryd.prog _ _ _ (Zl w0 _ bp c ad L Dom s (Zar L M [42] [47] 4 5 (L.length+1) (M s).1 (M s).2)) from CH.out)
 rw [hR] at CH2 ⊢
 clear CH hR
 by_cases hz:R.2.err=0
 ·go_enter Tryd.func74,Tryd.ntmps74
  go_wp2_with (go_at_call 73;(refine CH2.out.mono ?_);rintro e1 w1 hG;have G:=Zl.back hG HB.out;clear hG;have G2:=zh G;obtain ⟨_,hok,_⟩:=G;obtain ⟨b,rfl,_⟩:=hok hz;clear hok)
  go_ret
  exact G2.out
 ·have HZ:=zh hz
  clear hz
  go_enter Tryd.func74,Tryd.ntmps74
  go_wp2_with (go_at_call 73;(refine CH2.out.mono ?_);rintro e1 w1 hG;have G:=Zl.back hG HB.out;clear hG;have G2:=zh G;obtain ⟨_,_,hbad⟩:=G;obtain rfl:=hbad HZ.out;clear hbad)
  exact ⟨rfl,G2.out⟩
theorem Zlq (w0 w:World) (bp c:Nat) (ad:Addr) (L:List Tok) (s:PS) (Dom:PS->Prop) (M:PS->Tr×PS) (hDom:∀ s,Dom s->Dom (Zb s)) (hE:Zw w0 bp c ad L 80 #[.pointer (some ⟨bp,0,none⟩)] Dom M) (h:ParQ w0 w bp ad c L s) (hd:Dom s) (ht:Zaf w0 4 Zbg) :
  Calls Tryd.prog 68 #[.pointer (some ⟨bp,0,none⟩)] w (Zl w0 w bp c ad L Dom s (Zay L M s)):=by
 have hb:=below_alloc1 w (.cells #[.int .i64 2,.int .i64 3] 3)
 have CH:=zh (ZeJ 74 ZeT w0 _ bp c ad L s Dom (ZaE L M) hDom (fun w s h hd=>Zge w0 w bp c ad L s Dom M hDom hE h hd ht) (h.keep hb) hd ht ⟨w.heap.size,0,none⟩ 2 (fun e=>by have:=h.box.lt;dsimp only at e;omega) 2 3 [43] [45] rfl rfl (Zgl w 2 3))
 clear h hd ht hE hDom
 have HB:=zh hb
 clear hb
 unfold Zay
 dsimp only
 obtain ⟨R,hR⟩:∃ R,Zar L (ZaE L M) [43] [45] 2 3 (L.length+1) (ZaE L M s).1 (ZaE L M s).2=R:=⟨_,rfl⟩
 have CH2:=zh (show Calls Tryd.prog _ _ _ (Zl w0 _ bp c ad L Dom s (Zar L (ZaE L M) [43] [45] 2 3 (L.length+1) (ZaE L M s).1 (ZaE L M s).2)) from CH.out)
 rw [hR] at CH2 ⊢
 clear CH hR
 by_cases hz:R.2.err=0
 ·go_enter Tryd.func68,Tryd.ntmps68
  go_wp2_with (go_at_call 73;(refine CH2.out.mono ?_);rintro e1 w1 hG;have G:=Zl.back hG HB.out;clear hG;have G2:=zh G;obtain ⟨_,hok,_⟩:=G;obtain ⟨b,rfl,_⟩:=hok hz;clear hok)
  go_ret
  exact G2.out
 ·have HZ:=zh hz
  clear hz
  go_enter Tryd.func68,Tryd.ntmps68
  go_wp2_with (go_at_call 73;(refine CH2.out.mono ?_);rintro e1 w1 hG;have G:=Zl.back hG HB.out;clear hG;have G2:=zh G;obtain ⟨_,_,hbad⟩:=G;obtain rfl:=hbad HZ.out;clear hbad)
  exact ⟨rfl,G2.out⟩
end
section
open Go.RowKit
theorem Zfo (w0 w:World) (bp c:Nat) (ad:Addr) (L:List Tok) (s:PS) (Dom:PS->Prop) (M:PS->Tr×PS) (hDom:∀ s,Dom s->Dom (Zb s)) (hE:Zw w0 bp c ad L 80 #[.pointer (some ⟨bp,0,none⟩)] Dom M) (h:ParQ w0 w bp ad c L s) (hd:Dom s) (ht:Zaf w0 4 Zbg) :
  Calls Tryd.prog 62 #[.pointer (some ⟨bp,0,none⟩)] w (Zl w0 w bp c ad L Dom s (Zbb L M s)):=by
 have SS:=zh (fun (w:World) (s:PS) (h:ParQ w0 w bp ad c L s) (hd:Dom s)=>Zlq w0 w bp c ad L s Dom M hDom hE h hd ht)
 have S1:=zh (SS.out w s h hd)
 have HT:=zh ht
 have HB:=zh (zi h.box.lt hDom)
 obtain ⟨R,hR⟩:∃ R,Zbb L M s=R:=⟨_,rfl⟩
 rw [hR]
 have hU:R=(if isM L [60] (Zay L M s).2 then (ZbX 0 (Zay L M s).1 (Zay L M (Zb (Zay L M s).2)).1,(Zay L M (Zb (Zay L M s).2)).2) else if isM L [61,61] (Zay L M s).2 then (ZbX 1 (Zay L M s).1 (Zay L M (Zb (Zay L M s).2)).1,(Zay L M (Zb (Zay L M s).2)).2) else Zay L M s):=by rw [<- hR];rfl
 clear h hd ht hE hR hDom
 generalize hA:Zay L M s=A at *
 by_cases hz:A.2.err=0
 ·have hcase:(∃ o:Nat,ZaC L [(0,[60]),(1,[61,61])] A.2=(((o:Int),true),Zb A.2)/\R=(ZbX o A.1 (Zay L M (Zb A.2)).1,(Zay L M (Zb A.2)).2))\/(ZaC L [(0,[60]),(1,[61,61])] A.2=((0,false),A.2)/\R=A):=by
   cases qx:isM L [60] A.2 with
   | true=>exact Or.inl ⟨0,by rw [ZaC,if_pos qx];rfl,by rw [hU,if_pos qx];rfl⟩
   | false=>
    rw [qx,if_neg (by simp)] at hU
    cases qy:isM L [61,61] A.2 with
    | true=>exact Or.inl ⟨1,by rw [ZaC,qx,if_neg (by simp),ZaC,if_pos qy];rfl,by rw [hU,if_pos qy];rfl⟩
    | false=>exact Or.inr ⟨by rw [ZaC,qx,if_neg (by simp),ZaC,qy,if_neg (by simp),ZaC],by rw [hU,qy,if_neg (by simp)]⟩
  clear hU
  have Z:=zh hz
  clear hz
  rcases hcase with ⟨o,hs,hU⟩ | ⟨hs,hU⟩
  ·have HS:=zh hs
   have HU:=zh hU
   have he3:(Zb A.2).err=0:=Z.out
   have hst:(Zb A.2).at_=A.2.at_+1:=rfl
   generalize hs3:Zb A.2=s3 at *
   have HD3:=zh (fun (hd:Dom A.2)=>show Dom s3 by rw [<- hs3];exact HB.out.2 _ hd)
   clear hs hU hA hs3
   have SGo:=zh he3
   by_cases hz4:(Zay L M s3).2.err=0
   ·have Z4:=zh hz4
    clear hz4
    go_enter Tryd.func62,Tryd.ntmps62
    go_wp2_with (first
     | (go_at_call 68;(refine S1.out.mono ?_);rintro e1 w1 ⟨hF1,hok,_⟩;obtain ⟨la,rfl,hP1,hD1,hat1,hT1⟩:=hok Z.out;have hb1:=below_alloc1 w1 (.cells #[.int .i64 0,.int .i64 1] 3);have SG:=zh (Zc5 w0 _ bp c ad L A.2 (hP1.keep hb1) HT.out ⟨w1.heap.size,0,none⟩ 2 2 (fun e=>by have:=hP1.box.lt;dsimp only at e;omega) [(0,[60]),(1,[61,61])] (fun z hz=>by rcases List.mem_cons.1 hz with rfl | hz;rfl;rw [List.mem_singleton.1 hz];rfl) rfl (by decide) (Zgl w1 0 1));have K1:=zh (zi hF1 (zi hD1 (zi hat1 (zi hT1 hb1))));clear hok hF1 hD1 hat1 hT1 hb1)
     | (go_at_call 69;(refine SG.out.mono ?_);rintro e2 w2 hG2;obtain ⟨hF2,hok,_⟩:=(show Zbv w0 _ bp c ad L (ZaC L [(0,[60]),(1,[61,61])] A.2) (fun (x:Int×Bool) v _=>v=.tuple #[.int .i64 x.1,.bool x.2]) e2 w2 from hG2);rw [HS.out] at hok;obtain ⟨_,rfl,hP2,rfl⟩:=hok SGo.out;have S2:=zh (SS.out w2 s3 hP2 (HD3.out K1.out.2.1));have K2:=zh ((FrP.of_below bp K1.out.2.2.2.2).trans hF2);clear hok hF2 hG2)
     | (go_at_call 68;(refine S2.out.mono ?_);rintro e3 w3 ⟨hF3,hok,_⟩;obtain ⟨lb,rfl,hP3,hD3,hat3,hT3⟩:=hok Z4.out;have F13:=K1.out.1.trans K2.out;have JN:=zh (ZeD w3 o (ZbC w w3) A.1 (Zay L M s3).1 la lb (BrP.frame (fun k hk=>⟨hk.1,Nat.lt_of_lt_of_le hk.2 (Nat.le_trans K2.out.size hF3.size)⟩) (fun k hk=>(K2.out.trans hF3).block k hk.2 (fun e=>by injection e with e;have:=HB.out.1;have:=hk.1;omega)) _ la K1.out.2.2.2.1) (BrP.frame (fun k hk=>⟨Nat.le_trans F13.size hk.1,hk.2⟩) (fun k hk=>rfl) _ lb hT3) (fun k hk=>hk.2));clear hok)
     | (go_at_call 70;(refine JN.out.mono ?_);rintro e4 w4 ⟨g4,rfl,hb4,hB4⟩))
    go_ret
    rw [HU.out]
    exact ⟨((K1.out.1.trans K2.out).trans hF3).trans (FrP.of_below bp hb4),fun _=>⟨g4,rfl,hP3.keep hb4,hD3,by have:=K1.out.2.2.1;show s.at_<(Zay L M s3).2.at_;omega,BrP.frame (fun k hk=>⟨hk.1.elim (fun q=>q.1) (fun q=>Nat.le_trans (Nat.le_trans F13.size hF3.size) q),hk.2⟩) (fun k hk=>rfl) _ g4 (Zex hB4)⟩,fun e=>absurd hP3.err e⟩
   ·have Z4:=zh hz4
    clear hz4
    go_enter Tryd.func62,Tryd.ntmps62
    go_wp2_with (first
     | (go_at_call 68;(refine S1.out.mono ?_);rintro e1 w1 ⟨hF1,hok,_⟩;obtain ⟨la,rfl,hP1,hD1,hat1,hT1⟩:=hok Z.out;have hb1:=below_alloc1 w1 (.cells #[.int .i64 0,.int .i64 1] 3);have SG:=zh (Zc5 w0 _ bp c ad L A.2 (hP1.keep hb1) HT.out ⟨w1.heap.size,0,none⟩ 2 2 (fun e=>by have:=hP1.box.lt;dsimp only at e;omega) [(0,[60]),(1,[61,61])] (fun z hz=>by rcases List.mem_cons.1 hz with rfl | hz;rfl;rw [List.mem_singleton.1 hz];rfl) rfl (by decide) (Zgl w1 0 1));have K1:=zh (zi hF1 (zi hD1 (zi hat1 (zi hT1 hb1))));clear hok hF1 hD1 hat1 hT1 hb1)
     | (go_at_call 69;(refine SG.out.mono ?_);rintro e2 w2 hG2;obtain ⟨hF2,hok,_⟩:=(show Zbv w0 _ bp c ad L (ZaC L [(0,[60]),(1,[61,61])] A.2) (fun (x:Int×Bool) v _=>v=.tuple #[.int .i64 x.1,.bool x.2]) e2 w2 from hG2);rw [HS.out] at hok;obtain ⟨_,rfl,hP2,rfl⟩:=hok SGo.out;have S2:=zh (SS.out w2 s3 hP2 (HD3.out K1.out.2.1));have K2:=zh ((FrP.of_below bp K1.out.2.2.2.2).trans hF2);clear hok hF2 hG2)
     | (go_at_call 68;(refine S2.out.mono ?_);rintro e3 w3 ⟨hF3,_,hbad⟩;obtain rfl:=hbad Z4.out;clear hbad))
    refine ⟨rfl,(K1.out.1.trans K2.out).trans hF3,?_,?_⟩
    ·rw [HU.out]
     exact fun e=>absurd e Z4.out
    ·rw [HU.out]
     exact fun _=>rfl
  ·have HS:=zh hs
   have HU:=zh hU
   clear hs hU hA
   go_enter Tryd.func62,Tryd.ntmps62
   go_wp2_with (first
    | (go_at_call 68;(refine S1.out.mono ?_);rintro e1 w1 ⟨hF1,hok,_⟩;obtain ⟨la,rfl,hP1,hD1,hat1,hT1⟩:=hok Z.out;have hb1:=below_alloc1 w1 (.cells #[.int .i64 0,.int .i64 1] 3);have SG:=zh (Zc5 w0 _ bp c ad L A.2 (hP1.keep hb1) HT.out ⟨w1.heap.size,0,none⟩ 2 2 (fun e=>by have:=hP1.box.lt;dsimp only at e;omega) [(0,[60]),(1,[61,61])] (fun z hz=>by rcases List.mem_cons.1 hz with rfl | hz;rfl;rw [List.mem_singleton.1 hz];rfl) rfl (by decide) (Zgl w1 0 1));have K1:=zh (zi hF1 (zi hD1 (zi hat1 (zi hT1 hb1))));clear hok hF1 hD1 hat1 hT1 hb1)
    | (go_at_call 69;(refine SG.out.mono ?_);rintro e2 w2 hG2;obtain ⟨hF2,hok,_⟩:=(show Zbv w0 _ bp c ad L (ZaC L [(0,[60]),(1,[61,61])] A.2) (fun (x:Int×Bool) v _=>v=.tuple #[.int .i64 x.1,.bool x.2]) e2 w2 from hG2);rw [HS.out] at hok;obtain ⟨_,rfl,hP2,rfl⟩:=hok Z.out;have K2:=zh ((FrP.of_below bp K1.out.2.2.2.2).trans hF2);clear hok hF2 hG2))
   go_ret
   rw [HU.out]
   refine ⟨K1.out.1.trans K2.out,fun _=>⟨la,rfl,hP2,K1.out.2.1,K1.out.2.2.1,?_⟩,fun e=>absurd hP2.err e⟩
   exact BrP.frame (fun k hk=>⟨hk.1,Nat.lt_of_lt_of_le hk.2 K2.out.size⟩) (fun k hk=>K2.out.block k hk.2 (fun e=>by injection e with e;have:=HB.out.1;have:=hk.1;omega)) _ la K1.out.2.2.2.1
 ·have hR:R=A:=by
   rw [hU,if_neg (by unfold isM;simp [hz]),if_neg (by unfold isM;simp [hz])]
  have HR:=zh hR
  have Z:=zh hz
  clear hU hR hz hA
  go_enter Tryd.func62,Tryd.ntmps62
  go_wp2_with (go_at_call 68;(refine S1.out.mono ?_);rintro e1 w1 ⟨hF1,_,hbad⟩;obtain rfl:=hbad Z.out;clear hbad)
  refine ⟨rfl,hF1,?_,?_⟩
  ·rw [HR.out]
   exact fun e=>absurd e Z.out
  ·rw [HR.out]
   exact fun _=>rfl
end
end Go.Proofs.YtfdgeijnkkdplaaDoor
