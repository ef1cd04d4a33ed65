import Derived.Test.YtfdgeijnkkdplaaDoorQAK
import Derived.Test.YtfdgeijnkkdplaaDoorQAO
import Derived.Test.YtfdgeijnkkdplaaDoorQAR
set_option maxRecDepth 100000
set_option maxHeartbeats 8000000
namespace Go.Proofs.YtfdgeijnkkdplaaDoor
section
open Go.RowKit
theorem Zff (w:World) (cs:Array Value) (ty:TypeId) (n:Nat) (hs:cs.size=n) (hn:n<=maxLen):(w.alloc (.cells cs ty)).ownsRow 0 ty 1 (.slice (some ⟨w.heap.size,0,none⟩) n n) n cs.toList:=
 ⟨by rw [Array.length_toList];omega,.inr ⟨_,n,cs,rfl,Nat.zero_le _,Zy.start w cs ty,Nat.le_refl _,hn,by omega,by rw [show n*1=cs.toList.length by rw [Array.length_toList];omega,List.take_length]⟩⟩
theorem BrP.blk {w:World} {S:Nat->Prop} {k:Int} {ws:List Txt} {ns:List Int} {at_:Int} {kids:List Tr} {b:Nat} (h:BrP w S (.mk k ws ns at_ kids) b):∃ vw vn vk,Zy w b 59 #[.int .i64 k,vw,vn,.slice none 0 0,.int .i64 at_,vk]:=by
 unfold BrP at h
 obtain ⟨_,vw,vn,vk,bs,h,_⟩:=h
 exact ⟨vw,vn,vk,h⟩
theorem Za2.grow {w w':World} {S S':Nat->Prop} {e:TypeId} {v:Value} {xs:List Value} (h:Za2 w S e v xs) (hS:∀ k,S k->k<w.heap.size/\S' k) (hb:Below w.heap.size w w'):Za2 w' S' e v xs:=h.frame (fun k hk=>(hS k hk).2) (fun k hk=>hb.block k (hS k hk).1)
theorem Za2.nil (w:World) (S:Nat->Prop) (e:TypeId):Za2 w S e (.slice none 0 0) []:=⟨World.ownsRow_nil _ _ _ _,fun k hk=>by cases hk⟩
theorem Zks (w:World) (op:Int) (S:Nat->Prop) (k:Int) (ws:List Txt) (ns:List Int) (at_:Int) (kids:List Tr) (b:Tr) (la lb:Nat) (ha:BrP w S (.mk k ws ns at_ kids) la) (hb:BrP w S b lb) (hS:∀ k,S k->k<w.heap.size) :
  BrP (((w.alloc (.cells #[.int .i64 op] 2)).alloc (.cells #[brV la,brV lb] 39)).alloc (.cells #[.int .i64 22,.slice none 0 0,.slice (some ⟨w.heap.size,0,none⟩) 1 1,.slice none 0 0,.int .i64 at_,.slice (some ⟨w.heap.size+1,0,none⟩) 2 2] 59)) (fun k=>S k\/w.heap.size<=k) (ZbX op (.mk k ws ns at_ kids) b) (w.heap.size+1+1):=by
 obtain ⟨w1,e1⟩:∃ w1,w.alloc (.cells #[.int .i64 op] 2)=w1:=⟨_,rfl⟩
 have z1:w1.heap.size=w.heap.size+1:=by rw [<- e1,World.size_alloc]
 have R1:Za2 w1 (fun k=>k=w.heap.size) 2 (.slice (some ⟨w.heap.size,0,none⟩) 1 1) [.int .i64 op]:=⟨by rw [<- e1];exact Zff w #[.int .i64 op] 2 1 rfl (by decide),fun k hk=>by injection hk with hk;exact hk.symm⟩
 have b1:Below w.heap.size w w1:=by rw [<- e1];exact below_alloc1 w _
 rw [e1]
 obtain ⟨w2,e2⟩:∃ w2,w1.alloc (.cells #[brV la,brV lb] 39)=w2:=⟨_,rfl⟩
 have z2:w2.heap.size=w.heap.size+1+1:=by rw [<- e2,World.size_alloc,z1]
 have R2:Za2 w2 (fun k=>k=w.heap.size+1) 39 (.slice (some ⟨w.heap.size+1,0,none⟩) 2 2) [brV la,brV lb]:=⟨by rw [<- e2,<- z1];exact Zff w1 #[brV la,brV lb] 39 2 rfl (by decide),fun k hk=>by injection hk with hk;exact hk.symm⟩
 have b2:Below w1.heap.size w1 w2:=by rw [<- e2];exact below_alloc1 w1 _
 rw [e2,<- z2]
 have T3:=fun cs=>Zy.start w2 cs 59
 have b3:=fun cs=>below_alloc1 w2 (.cells cs 59)
 have hb3:∀ cs,Below w.heap.size w (w2.alloc (.cells cs 59)):=fun cs=>(b1.trans (b2.mono (by omega))).trans ((b3 cs).mono (by omega))
 unfold ZbX BrP
 refine ⟨Or.inr (by omega),_,_,_,[la,lb],T3 _,Za2.nil _ _ _,?_,?_,?_⟩
 ·exact R1.grow (fun k hk=>⟨by omega,Or.inr (by omega)⟩) ((b2.trans ((b3 _).mono (by omega))))
 ·exact R2.grow (fun k hk=>⟨by omega,Or.inr (by omega)⟩) (b3 _)
 ·unfold ZO
  refine ⟨la,[lb],rfl,BrP.frame (fun k hk=>Or.inl hk) (fun k hk=>(hb3 _).block k (hS k hk)) _ la ha,?_⟩
  unfold ZO
  refine ⟨lb,[],rfl,BrP.frame (fun k hk=>Or.inl hk) (fun k hk=>(hb3 _).block k (hS k hk)) b lb hb,?_⟩
  unfold ZO
  rfl
theorem ZeD (w:World) (op:Int) (S:Nat->Prop) (a b:Tr) (la lb:Nat) (ha:BrP w S a la) (hb:BrP w S b lb) (hS:∀ k,S k->k<w.heap.size) :
  Calls Tryd.prog 70 #[.int .i64 op,brV la,brV lb] w fun e w'=>∃ g,e=.returned (brV g)/\Below w.heap.size w w'/\BrP w' (fun k=>S k\/w.heap.size<=k) (ZbX op a b) g:=by
 obtain ⟨k,ws,ns,at_,kids⟩:=a
 obtain ⟨vw,vn,vk,T⟩:=ha.blk
 have q4:(w.alloc (.cells #[.int .i64 op] 2)).cell? ⟨la,4,none⟩=some (.int .i64 at_):=(T.keep (below_alloc1 w _)).blk.cell 4
 have HH:=zh (zi ha (zi hb hS))
 have HT:=zh T
 clear ha hb hS T
 go_enter Tryd.func70,Tryd.ntmps70
 go_wp2_with fail
 refine bodyPost_ret (v:=brV (w.heap.size+1+1)) (by simp [results,Tryd.results70,go_sem]) rfl ⟨_,rfl,?_,?_⟩
 ·exact ((below_alloc1 w _).alloc (by rw [World.size_alloc];omega) _).alloc (by rw [World.size_alloc,World.size_alloc];omega) _
 ·exact Zks w op S _ _ _ _ _ b la lb HH.out.1 HH.out.2.1 HH.out.2.2
end
section
open Go.RowKit
def ZaC (L:List Tok):List (Int×Txt)->PS->(Int×Bool)×PS
 | [],s=>((0,false),s)
 | (i,x)::r,s=>if isM L x s then ((i,true),Zb s) else ZaC L r s
def Zbg:List (List UInt8):=[[60],[61,61],[43],[45],[42],[47]]
theorem Zlx:∀ x∈Zbg,PW x:=fun x hx=>by
 have:∀ x∈Zbg,(match x with | []=>false | c::_=>!ZaA c&&!Zai c)=true:=by decide
 have h:=this x hx
 cases x with
 | nil=>cases h
 | cons c r=>
  simp only [Bool.and_eq_true,Bool.not_eq_true'] at h
  exact ZF c r h.1 h.2
theorem ZkU:∀ j:Nat,∀ x,Zbg[j]? = some x->j<6:=fun j x h=>by
 have:=(List.getElem?_eq_some_iff.1 h).1
 exact this
theorem Zey {w w':World} {a:Addr} (h:w'.heap[a.block]? = w.heap[a.block]?):w'.cell? a=w.cell? a:=by unfold World.cell?;rw [h]
def siR (bp ii:Nat) (xx:Txt):Nat->Value->World->Prop
 | 0,v,_=>v=.pointer (some ⟨bp,0,none⟩)
 | 1,v,_=>v=.pointer (some ⟨bp,0,none⟩)
 | 2,v,_=>v=.pointer (some ⟨bp,0,none⟩)
 | 3,v,_=>v=.int .i64 ii
 | 4,v,_=>v=.pointer (some ⟨4,ii,none⟩)
 | 5,v,_=>v=txt xx
 | _,_,_=>True
theorem Zlv (bp ii:Nat) (xx:Txt):∀ j v w1 w2,Below w1.heap.size w1 w2->siR bp ii xx j v w1->siR bp ii xx j v w2
 | 0,_,_,_,_,h=>h
 | 1,_,_,_,_,h=>h
 | 2,_,_,_,_,h=>h
 | 3,_,_,_,_,h=>h
 | 4,_,_,_,_,h=>h
 | 5,_,_,_,_,h=>h
 | _+6,_,_,_,_,_=>trivial
theorem Zc5 (w0 wS:World) (bp c:Nat) (ad:Addr) (L:List Tok) (s:PS) (h:ParQ w0 wS bp ad c L s) (ht:Zaf w0 4 Zbg) (cd:Addr) (n cc:Nat) (hcd:cd.block≠bp) (ks:List (Nat×Txt)) (hk:∀ x∈ks,Zbg[x.1]? = some x.2) (hn:ks.length=n) (hn1:n<=1000) (hr:ZT wS wS.heap.size 1 (some cd) n (ks.map (fun x=>Value.int .i64 x.1))) :
  Calls Tryd.prog 69 #[.pointer (some ⟨bp,0,none⟩),.slice (some cd) n cc] wS (Zbv w0 wS bp c ad L (ZaC L (ks.map fun x=>((x.1:Int),x.2)) s) fun x v _=>v=.tuple #[.int .i64 x.1,.bool x.2]):=by
 have H:=zh h
 have HT:=zh ht
 have HK:=zh (zi hk (zi hn (zi hr (zi hcd hn1))))
 clear h ht hk hn hr hcd
 go_enter Tryd.func69,Tryd.ntmps69
 go_upto_region 2 with fail
 go_loopg [7,10] (n) (fun g v7 v10 wr=>∃ j:Nat,v10=.int .i64 j/\j<=n/\g=n-j/\ZaC L (ks.map fun x=>((x.1:Int),x.2)) s=ZaC L ((ks.drop j).map fun x=>((x.1:Int),x.2)) s/\ParQ w0 wr bp ad c L s/\FrP wS wr bp)
 case atStart=>exact ⟨0,rfl,by omega,rfl,rfl,H.out,FrP.refl _ _⟩
 case round=>
  obtain ⟨j,rfl,hj,hg,hk,hP,hF⟩:=hrel
  rcases Nat.lt_or_ge j n with hlt | hge
  ·obtain ⟨x,hx⟩:∃ x,ks[j]? = some x:=⟨_,List.getElem?_eq_getElem (by have:=HK.out.2.1;omega)⟩
   have i0:((j:Int)<(n:Int)):=by omega
   have i1:(0:Int)<=(j:Int):=by omega
   obtain ⟨q1,q2⟩:=HK.out.2.2.1
   obtain ⟨ad',e,q3,q4⟩:=q2 (by omega)
   injection e with e
   subst e
   have q5:=q4 j (.int .i64 x.1) (by rw [List.getElem?_map,hx];rfl)
   have q6:wr.cell? (cd.add j)=some (.int .i64 x.1):=by rw [<- q5];exact Zey (by rw [show (cd.add j).block=cd.block from by unfold Addr.add;split<;>rfl];exact hF.block cd.block q3 (fun e=>by injection e with e;exact HK.out.2.2.2.1 (by first | exact e | exact e.symm)))
   have hsx:=HK.out.1 x (List.mem_of_getElem? hx)
   have h6:=ZkU _ _ hsx
   have HP:=zh hP
   have HF:=zh hF
   have HJ:=zh (zi hlt (zi hk (zi hg hx)))
   obtain ⟨ii,xx⟩:=x
   dsimp only at q6 hsx h6
   have i2:(0:Int)<=(ii:Int):=by omega
   have i3:(ii:Int)<6:=by omega
   have HSX:=zh hsx
   clear hP hF hj hk hg hx q1 q2 q3 q4 q5 hlt hsx h6
   have KC:=zh (fun (w':World) (hb:Below wr.heap.size wr w')=>ZcE ((HT.out.below HP.out.below).below hb) HSX.out)
   go_upto_region 4 with fail
   refine Ze4 6 (fun y=>{ tmps:=#[.pointer (some ⟨bp,0,none⟩),.slice (some cd) n cc,undef,undef,u4,u5,undef,.int .i64 ii,.slice (some cd) n cc,.int .i64 n,.int .i64 j,.bool true,.pointer (some (cd.add j)),.int .i64 ii,y 0,y 1,y 2,y 3,y 4,y 5,y 6,u21,u22],defers:=[] }) (fun i=>[u14,u15,u16,u17,u18,u19,u20].getD i undef) (siR bp ii xx) (fun y w=>∃ b:Bool,y 6=.bool b/\b=(Zad L xx s).1/\ParQ w0 w bp ad c L (Zad L xx s).2/\FrP wS w bp) rfl (by kernel_rfl) (by kernel_rfl) (by kernel_rfl) (by rfl) ?_ (Zlv bp ii xx) ?_ ?_ ?_
   ·intro i o ho y v
    have hi:i<7:=(Array.getElem?_eq_some_iff.1 ho).1
    have hc:i=0\/i=1\/i=2\/i=3\/i=4\/i=5\/i=6:=by omega
    rcases hc with rfl | rfl | rfl | rfl | rfl | rfl | rfl <;>
    ·have e:=Option.some.inj ho
     subst e
     rfl
   ·intro i o hik ho y w1 hb hd K' hK
    have hc:i=0\/i=1\/i=2\/i=3\/i=4\/i=5:=by omega
    rcases hc with rfl | rfl | rfl | rfl | rfl | rfl<;>(have e:=Option.some.inj ho;subst e)
    ·go_simp
     exact hK.out _ _ (Below.refl _ _) rfl
    ·have d0:=hd ⟨0,.data⟩ (by simp) rfl
     dsimp only [siR] at d0
     generalize y 0=z0 at *
     subst d0
     go_simp
     exact hK.out _ _ (Below.refl _ _) rfl
    ·have d1:=hd ⟨1,.data⟩ (by simp) rfl
     dsimp only [siR] at d1
     generalize y 1=z1 at *
     subst d1
     go_simp
     exact hK.out _ _ (Below.refl _ _) rfl
    ·go_simp
     exact hK.out _ _ (Below.refl _ _) rfl
    ·have d3:=hd ⟨3,.data⟩ (by simp) rfl
     dsimp only [siR] at d3
     generalize y 3=z3 at *
     subst d3
     go_simp
     exact hK.out _ _ (Below.refl _ _) rfl
    ·have d4:=hd ⟨4,.data⟩ (by simp) rfl
     dsimp only [siR] at d4
     generalize y 4=z4 at *
     subst d4
     have q0:=KC.out w1 hb
     go_simp
     exact hK.out _ _ (Below.refl _ _) rfl
   ·intro o ho y w1 hb hx K' hK
    have e:=Option.some.inj ho
    subst e
    have d2:=hx 2 (by decide)
    have d5:=hx 5 (by decide)
    dsimp only [siR] at d2 d5
    generalize y 2=z2 at *
    generalize y 5=z5 at *
    subst d2 d5
    go_simp
    go_at_call 21
    refine (Zg w0 w1 bp c ad L s (HP.out.keep hb) xx (Zlx xx (List.mem_of_getElem? HSX.out))).mono ?_
    rintro e' w2 ⟨rfl,hP2,hF2⟩
    go_wp2_with fail
    exact hK.out _ _ ⟨_,rfl,rfl,hP2,HF.out.trans ((FrP.of_below bp hb).trans hF2)⟩
   ·intro y w1 hF
    obtain ⟨b,e6,eb,hP2,hF2⟩:=hF
    generalize y 0=y0 at *
    generalize y 1=y1 at *
    generalize y 2=y2 at *
    generalize y 3=y3 at *
    generalize y 4=y4 at *
    generalize y 5=y5 at *
    generalize y 6=y6 at *
    subst e6
    have hdr:ks.drop j=(ii,xx)::ks.drop (j+1):=by
     have hx:=HJ.out.2.2.2
     obtain ⟨hl,hv⟩:=List.getElem?_eq_some_iff.1 hx
     rw [List.drop_eq_getElem_cons hl,hv]
    have hst:ZaC L ((ks.drop j).map fun x=>((x.1:Int),x.2)) s=if isM L xx s then (((ii:Int),true),Zb s) else ZaC L ((ks.drop (j+1)).map fun x=>((x.1:Int),x.2)) s:=by rw [hdr];rfl
    cases hi:isM L xx s with
    | true=>
     have ht:Zad L xx s=(true,Zb s):=by unfold Zad;rw [if_pos hi]
     rw [ht] at eb hP2
     rw [if_pos hi] at hst
     have hr:=HJ.out.2.1.trans hst
     subst eb
     have HR:=zh hr
     have FIN:=zh (zi hP2 hF2)
     clear hr ht hP2 hF2 hi hst hdr q6
     go_wp2_with fail
     rw [HR.out]
     exact bodyPost_ret (v:=.tuple #[.int .i64 ii,.bool true]) (by simp [results,Tryd.results69,go_sem]) rfl ⟨FIN.out.2,fun _=>⟨_,rfl,FIN.out.1,rfl⟩,fun e=>absurd FIN.out.1.err e⟩
    | false=>
     have ht:Zad L xx s=(false,s):=by unfold Zad;rw [if_neg (by simp [hi])]
     rw [ht] at eb hP2
     rw [hi,if_neg (by simp)] at hst
     have hr:=HJ.out.2.1.trans hst
     subst eb
     have wj:IntKind.i64.wrap ((j:Int)+1)=(j:Int)+1:=IntWalk.i64_in _ (by have:=HJ.out.1;have:=HK.out.2.2.2.2;omega)
     have FIN:=zh (zi hP2 (zi hF2 hr))
     clear ht hr hP2 hF2 hi hst hdr q6
     go_wp2_with fail
     go_roundg (n-(j+1))
     case measure=>have:=HJ.out;omega
     case rel=>exact ⟨j+1,by push_cast;rfl,by have:=HJ.out.1;omega,rfl,FIN.out.2.2,FIN.out.1,FIN.out.2.1⟩
  ·obtain rfl:j=n:=by omega
   have hr:ZaC L (ks.map fun x=>((x.1:Int),x.2)) s=((0,false),s):=by
    rw [hk,List.drop_of_length_le (by have:=HK.out.2.1;omega)]
    rfl
   have HR:=zh hr
   have FIN:=zh (zi hP hF)
   clear hr hk hP hF hg hge hj
   go_wp2_with fail
   rw [HR.out]
   exact bodyPost_ret (v:=.tuple #[.int .i64 0,.bool false]) (by simp [results,Tryd.results69,go_sem]) rfl ⟨FIN.out.2,fun _=>⟨_,rfl,FIN.out.1,rfl⟩,fun e=>absurd FIN.out.1.err e⟩
end
end Go.Proofs.YtfdgeijnkkdplaaDoor
