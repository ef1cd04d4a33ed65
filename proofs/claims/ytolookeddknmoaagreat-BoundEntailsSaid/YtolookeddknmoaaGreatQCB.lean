import Derived.Test.YtolookeddknmoaaGreatQBT
import Derived.Test.YtolookeddknmoaaGreatQBY
import Derived.Test.YtolookeddknmoaaGreatQCA
set_option maxRecDepth 100000
set_option maxHeartbeats 8000000
namespace Go.Proofs.YtolookeddknmoaaGreat
section
open Go.RowKit
theorem Zf1 (rows:List Rw) (k:Nat):ZbR rows (k+1)=(ZbR rows k).bind fun x=>(Zet k x.2).map fun y=>(x.1++[y.1],y.2):=by
 rw [ZbR]
 cases ZbR rows k with
 | none=>rfl
 | some x=>
  simp only [Option.bind_some]
  unfold Zet
  cases ZZ k ([],[],[]) x.2 with
  | none=>rfl
  | some s=>
   simp only [Option.bind_some]
   cases Za5 s<;>rfl
theorem ZiE {rows:List Rw} {k:Nat} (h:ZbR rows k=none):∀ j:Nat,ZbR rows (k+j)=none
 | 0=>h
 | j+1=>by
  rw [<- Nat.add_assoc,Zf1,ZiE h j]
  rfl
theorem Zpi {v:Nat} (hv:v<8) {rows:List Rw} {s:Stg} {r:List Rw} (hg:Zb4 rows) (hl:rows.length<=1000) (h:Zet v rows=some (s,r)):Zb4 r/\r.length<=400/\(Zep (.inl (s.1,s.2))/\s.1.length<=1000/\s.2.length<=1000):=by
 have e:=Zf2 (v:Int) [] rows []
 have e2:ZaI [] rows []=some (rows,[]):=rfl
 rw [e2,Option.bind_some] at e
 unfold Zet at h
 rw [Option.bind_eq_some_iff] at h
 obtain ⟨so,h1,h2⟩:=h
 obtain ⟨r',hw,hr⟩:=Option.map_eq_some_iff.1 h2
 obtain ⟨rfl,rfl⟩:(so.2.1,so.2.2)=s/\r'=r:=by
  injection hr with a b
  exact ⟨a,b⟩
 dsimp only at e
 rw [h1,Option.bind_some,hw,Option.map_some] at e
 have vs:∀ u∈([]++[(v:Int)]:List Int),∃ n:Nat,u=n/\n<8:=fun u hu=>by
  simp at hu
  exact ⟨v,hu,hv⟩
 have I:=(ZdM _ rows [] _ vs hg e).1
 have C:=Zif _ rows [] _ hg vs e (fun c hc=>by cases hc)
 have c1:=C ((v:Int),so.2.1,so.2.2) (by simp)
 have ln:=Zdr _ _ _ _ h1
 simp only [List.length_nil] at ln
 exact ⟨I,Zh8 hw,⟨c1.2.1,c1.2.2⟩,by show so.2.1.length<=1000;omega,by show so.2.2.length<=1000;omega⟩
theorem ZkN {rows:List Rw} (hg:Zb4 rows) (hl:rows.length<=1000):∀ (k:Nat) (st:List Stg) (r:List Rw),k<=8->ZbR rows k=some (st,r)->st.length=k/\Zb4 r/\r.length<=1000/\∀ s∈st,Zep (.inl (s.1,s.2))/\s.1.length<=1000/\s.2.length<=1000
 | 0,st,r,_,h=>by
  obtain ⟨rfl,rfl⟩:([]:List Stg)=st/\rows=r:=by
   have:=Option.some.inj h
   injection this with a b
   exact ⟨a,b⟩
  exact ⟨rfl,hg,hl,fun s hs=>by cases hs⟩
 | k+1,st,r,hk,h=>by
  rw [Zf1,Option.bind_eq_some_iff] at h
  obtain ⟨x,h1,h2⟩:=h
  obtain ⟨y,h3,h4⟩:=Option.map_eq_some_iff.1 h2
  injection h4 with a b
  subst a
  subst b
  obtain ⟨l1,g1,l2,f1⟩:=ZkN hg hl k x.1 x.2 (by omega) h1
  obtain ⟨g2,l3,f2⟩:=Zpi (show k<8 by omega) g1 l2 h3
  refine ⟨by rw [List.length_append,l1];rfl,g2,by omega,fun s hs=>?_⟩
  rcases List.mem_append.1 hs with q | q
  ·exact f1 s q
  ·rw [List.mem_singleton] at q
   rw [q]
   exact f2
theorem Zf4 {sel:List (Trm×Int)} (hs:∀ s∈sel,TrmOk s.1):∀ (l res:List Rw),(∀ r∈l,TrmOk r.2/\(r.1=0\/r.1=1\/r.1=2))->ZaY sel l=some res->Zb4 res
 | [],res,_,h=>by
  obtain rfl:=Option.some.inj h
  exact fun r hr=>by cases hr
 | x::l,res,hl,h=>by
  rw [ZaY] at h
  by_cases h0:x.1=0
  ·rw [if_pos h0] at h
   exact Zf4 hs l res (fun r hr=>hl r (List.mem_cons_of_mem _ hr)) h
  ·rw [if_neg h0,Option.bind_eq_some_iff] at h
   obtain ⟨u,h1,h⟩:=h
   obtain ⟨m,hm,rfl⟩:=Option.map_eq_some_iff.1 h
   have ih:=Zf4 hs l m (fun r hr=>hl r (List.mem_cons_of_mem _ hr)) hm
   obtain ⟨a,b⟩:=hl x (by simp)
   intro r hr
   rcases List.mem_cons.1 hr with q | q
   ·rw [q]
    exact ⟨Zf5 sel _ u hs (Zdl a) h1,by rcases b with b | b | b;(· exact absurd b h0);(· exact .inl b);(· exact .inr b)⟩
   ·exact ih r q
def ZcI (v:Value) (b:Nat):Prop:=v.ownBlock=some b
theorem ZV.past {w w':World} {v vg vg':Value} {ts:List Rw} (h:ZV w v ts (ZcI vg)) (hg:w.grownBy w' vg.ownBlock) (hv:vg'.ownBlock=vg.ownBlock\/vg'.ownBlock=some w.heap.size):ZV w' v ts (ZcI vg'):=by
 have a:ZV w v ts (fun b=>ZcI vg b\/ZcI vg' b):=h.mono fun b q=>by
  rcases q with q | q
  ·exact .inl q
  ·unfold ZcI at q
   rcases hv with e | e
   ·rw [e] at q;exact .inl q
   ·rw [e] at q
    injection q with q
    exact .inr (by omega)
 exact (a.grown hg (fun b q=>.inl q)).mono fun b q=>.inl (.inr q)
structure SlvS (W w:World) (vg:Value) (st:List Stg):Prop where
 o:∃ rs,rs.map (·.2)=st/\w.ownsRow W.heap.size 115 2 vg st.length (ZbK rs)/\∀ x∈rs,ZV w x.1.1 x.2.1 (ZcI vg)/\ZV w x.1.2 x.2.2 (ZcI vg)
 below:Below W.heap.size W w
theorem SlvS.keep {W w w':World} {vg:Value} {st:List Stg} (h:SlvS W w vg st) (hb:Below w.heap.size w w'):SlvS W w' vg st:=by
 obtain ⟨⟨rs,h1,h2,h3⟩,h4⟩:=h
 exact ⟨⟨rs,h1,h2.kept (Zac hb none) (by cases hv:vg.ownBlock<;>simp),fun x hx=>⟨(h3 x hx).1.below hb,(h3 x hx).2.below hb⟩⟩,h4.trans (hb.mono h4.size)⟩
theorem Ze8:∀ (l m:List ((Value×Value)×Stg)),ZbK (l++m)=ZbK l++ZbK m
 | [],m=>rfl
 | x::r,m=>by rw [List.cons_append,ZbK,ZbK,Ze8 r m];rfl
theorem SlvS.push {W w w':World} {vg vg' vb vc:Value} {st:List Stg} {s:Stg} {rs:List ((Value×Value)×Stg)} (hbel:Below W.heap.size W w) (h1:rs.map (·.2)=st) (hlt:∀ k,vg.ownBlock=some k->W.heap.size<=k) (h3:∀ x∈rs,ZV w x.1.1 x.2.1 (ZcI vg)/\ZV w x.1.2 x.2.2 (ZcI vg)) (hown:w'.ownsRow W.heap.size 115 2 vg' (st.length+1) (ZbK rs++[vb,vc])) (hg:w.grownBy w' vg.ownBlock) (hv:vg'.ownBlock=vg.ownBlock\/vg'.ownBlock=some w.heap.size)
  (hb:ZV w vb s.1 (ZcI vg)) (hc:ZV w vc s.2 (ZcI vg)):SlvS W w' vg' (st++[s]):=by
 refine ⟨⟨rs++[((vb,vc),s)],by rw [List.map_append,h1];rfl,by rw [Ze8,List.length_append];exact hown,fun x hx=>?_⟩,hbel.grown hg hbel.size hlt⟩
 rcases List.mem_append.1 hx with q | q
 ·exact ⟨(h3 x q).1.past hg hv,(h3 x q).2.past hg hv⟩
 ·rw [List.mem_singleton] at q
  subst q
  exact ⟨hb.past hg hv,hc.past hg hv⟩
theorem SlvS.at_ {W w:World} {vg:Value} {st:List Stg} (h:SlvS W w vg st):Zkz w vg st:=by
 obtain ⟨⟨rs,h1,h2,h3⟩,_⟩:=h
 have h0:=h2
 rcases h2.2 with ⟨rfl,hn⟩ | ⟨g,cap,cur,rfl,_,hh,hnc,hrest⟩
 ·have hts:st=[]:=List.eq_nil_of_length_eq_zero hn
  subst hts
  have hrs:rs=[]:=List.map_eq_nil_iff.1 h1
  subst hrs
  exact ⟨none,0,[],rfl,Nat.le_refl _,by decide,rfl,ZB.none_,fun x hx=>by cases hx⟩
 ·exact ⟨some _,cap,rs,rfl,hnc,hrest.1,h1,ZB.of_own h0,fun x hx=>⟨(h3 x hx).1.rows,(h3 x hx).2.rows⟩⟩
theorem Zqn:(Tryz.prog.info? 115).map (fun i=>(i.zero,i.size,i.bytes))=some (some (.agg #[.slice none 0 0,.slice none 0 0]),2,48):=by kernel_rfl
theorem Zrk (A B:Option Addr) (n c m d:Nat):∀ u∈[(Value.slice A n c),.slice B m d],u.oneCell'=true:=fun u hu=>by
 simp only [List.mem_cons,List.not_mem_nil,or_false] at hu
 rcases hu with rfl | rfl<;>rfl
theorem Zki {S1:Nat->Prop} {w w':World} {e:Ending} {o:Option (Stg×List Rw)} (h:Zmo S1 w o e w'):∃ A n c A' n' c' va ok,e=.returned (.tuple #[.agg #[.slice A n c,.slice A' n' c'],va,.bool ok])/\Below w.heap.size w w' ∧
  ((ok=true/\∃ st r,o=some (st,r)/\ZV w' va r S1/\ZV w' (.slice A n c) st.1 S1/\ZV w' (.slice A' n' c') st.2 S1)\/(ok=false/\o=none)):=by
 rcases h with ⟨st,r,va,vb,vc,e1,rfl,h1,h2,h3,hb⟩ | ⟨e1,A,n,c,A',n',c',rfl,hb⟩
 ·obtain ⟨A,c,rfl⟩:∃ A c,vb=.slice A st.1.length c:=by obtain ⟨A,c,_,e,_⟩:=h2;exact ⟨A,c,e⟩
  obtain ⟨A',c',rfl⟩:∃ A c,vc=.slice A st.2.length c:=by obtain ⟨A,c,_,e,_⟩:=h3;exact ⟨A,c,e⟩
  exact ⟨_,_,_,_,_,_,_,true,rfl,hb,.inl ⟨rfl,st,r,e1,h1,h2,h3⟩⟩
 ·exact ⟨_,_,_,_,_,_,_,false,rfl,hb,.inr ⟨rfl,e1⟩⟩
theorem Zlk {w w':World} {e:Ending} (h:Zft w none e w'):e=.returned (.tuple #[.slice none 0 0,.bool false])/\Below w.heap.size w w':=by
 rcases h with ⟨_,_,_,q,_⟩ | ⟨_,q,hb⟩
 ·cases q
 ·exact ⟨q,hb⟩
theorem Zll {w w':World} {e:Ending} {r0:List Rw} (h:Zft w (some r0) e w'):∃ A9 c9,e=.returned (.tuple #[.slice A9 r0.length c9,.bool true])/\ZD w' (.slice A9 r0.length c9) r0/\Below w.heap.size w w':=by
 rcases h with ⟨l',A',c',q,e,hr,hb⟩ | ⟨q,_,_⟩
 ·obtain rfl:=Option.some.inj q
  exact ⟨A',c',e,hr,hb⟩
 ·cases q
theorem Zme (w:World) (v:Value) (l:List Rw) (h:ZD w v l) (hw:∀ r∈l,ZX r):Calls Tryz.prog 40 #[v] w (ZbJ w (ZeP l)):=by
 obtain ⟨iT,hiT,zT0,zT1,zT2⟩:=info_parts Zf3
 obtain ⟨iS,hiS,zS0,zS1,zS2⟩:=info_parts Zqn
 have hl0:=Lib.hid h
 obtain ⟨A,c,rs,rfl,h2,h3,h4,h5,h6⟩:=h
 obtain ⟨n,hn⟩:∃ n,n=l.length:=⟨_,rfl⟩
 have hrn:rs.length=n:=by rw [hn,<- h4,List.length_map]
 have hmx:n<=maxLen:=by omega
 rw [<- hn] at h2 h5 ⊢
 obtain ⟨Res,hRes⟩:∃ Res,Res=ZeP l:=⟨_,rfl⟩
 rw [<- hRes]
 have HN:=Lib.hid (And.intro hrn (And.intro h4 (And.intro h5 (And.intro h6 (And.intro hn (And.intro hw hmx))))))
 have HL:=Lib.hid hl0.out
 rw [<- hn] at HL
 have HR:=Lib.hid hRes
 clear hl0 hn hrn h2 h3 h4 h5 h6 hw hRes hmx
 go_enter Tryz.func40,Tryz.ntmps40
 go_wp2_with fail
 go_loopg [4,5] n (fun g v4 v5 wr=>∃ (k:Nat) (va:Value),va=v4/\v5=.int .i64 k/\k<=n/\g=n-k/\(∀ r∈l.take k,ZP r=false)/\(0<k->n<=400)/\ParS w wr va (ZN (l.take k)) (.slice none 0 0) [])
 case atStart=>exact ⟨0,_,rfl,rfl,Nat.zero_le _,rfl,(fun r hr=>by cases hr),fun q=>absurd q (Nat.lt_irrefl _),ParS.start w⟩
 case round=>
  obtain ⟨k,va,rfl,rfl,hk,hg,hall,h400,D⟩:=hrel
  by_cases hkn:k=n
  ·have he:l.take k=l:=by rw [hkn,HN.out.2.2.2.2.1];exact List.take_length
   rw [he] at hall D
   have hn4:n<=400:=by
    rcases Nat.eq_zero_or_pos n with q | q
    ·omega
    ·exact h400 (by omega)
   have hno:¬ (400<l.length\/l.any ZP=true):=by
    rintro (q | q)
    ·have:=HN.out.2.2.2.2.1;omega
    ·obtain ⟨r,a,b⟩:=List.any_eq_true.1 q
     rw [hall r a] at b
     cases b
   have hr:∀ r∈l,TrmOk r.2/\(r.1=0\/r.1=1\/r.1=2):=fun r hr=>ZcB ⟨(HN.out.2.2.2.2.2.1 r hr).1,(HN.out.2.2.2.2.2.1 r hr).2.1⟩ (hall r hr)
   have hew:∀ t∈ZN l,Zv t.1/\Bd t.2:=fun t ht=>by
    obtain ⟨r,a,_,rfl⟩:=ZdN.1 ht
    exact ⟨(HN.out.2.2.2.2.2.1 r a).1,(HN.out.2.2.2.2.2.1 r a).2.1⟩
   have hRs:Res=if (Zy (ZN l)).2≠0 then ([],(Zy (ZN l)).2)
     else match ZaY ((Zy (ZN l)).1.1.zip (Zy (ZN l)).1.2) l with
      | none=>([],2)
      | some rows=>match ZbR rows 8 with
       | none=>([],2)
       | some x=>if x.2.any ZdK=true then ([],1) else Zht (Zy (ZN l)).1.2 x.1 ((Zy (ZN l)).1.1.zip (Zy (ZN l)).1.2):=by
    rw [HR.out]
    unfold ZeP
    rw [if_neg hno]
    rfl
   have sv:=Znw wr va (ZN l) D.e.terms hew
   have S:=fun (a:List Trm) (p:List Int) (e:Zy (ZN l)=((a,p),0))=>Zh2 hew e
   have P:=fun (a:List Trm) (p:List Int) (e:Zy (ZN l)=((a,p),0))=>Zot hew e
   generalize Zy (ZN l)=Q at *
   obtain ⟨⟨sel,piv⟩,s⟩:=Q
   dsimp only at sv S P hRs
   have SV:=Lib.hid sv
   have HRs:=Lib.hid hRs
   have HG:=Lib.hid (And.intro (show n<=400 from hn4) hr)
   have HS:=Lib.hid (And.intro S P)
   have HD:=Lib.hid D.below
   subst hkn
   clear hk hg D he hall h400 hno hew sv S P hRs hr hn4
   have i0:¬ (k:Int)<(k:Int):=by omega
   go_upto_region 10 with (go_at_call 78;(with_reducible refine SV.out.mono ?_);rintro e2 w2 ⟨A2,c2,B2,d2,rfl,ht2,hi2,hb2⟩)
   have HB:=Lib.hid (HD.out.trans (hb2.mono HD.out.size))
   have HT:=Lib.hid (And.intro ht2 hi2)
   clear ht2 hi2 hb2 i0 SV
   by_cases hs:s=0
   rotate_left
   ·have ne:(s != 0)=true:=by simpa using hs
    have FIN:=Lib.hid (show ZbJ w Res (.returned (.tuple #[.slice none 0 0,.int .i64 s])) w2 from by
     rw [HRs.out,if_pos hs]
     exact Zbe HB.out)
    clear hs
    go_wp2_with fail
    go_ret2
    exact FIN.out
   subst hs
   have HRs:=Lib.hid (HRs.out.trans (if_neg (fun q=>q rfl)))
   obtain ⟨hS,hlen,hs8⟩:=HS.out.1 sel piv rfl
   have hP:=HS.out.2 sel piv rfl
   have hso:∀ t∈sel,TrmOk t:=hS.ok
   have hpv:∀ p∈piv,∃ n:Nat,p=n/\n<8:=fun p hp=>by
    obtain ⟨i,hi⟩:=List.mem_iff_getElem?.1 hp
    have:=hP.rng i p hi
    exact ⟨p.toNat,by omega,by omega⟩
   have hsl:sel.length<=1000:=by omega
   have rw_:=fun (w':World) (hb:Below w.heap.size w w') (h1:Zal w' (.slice A2 sel.length c2) sel) (h2:ZaT w' (.slice B2 piv.length d2) piv)=>ZoE w' (.slice A k c) (.slice A2 sel.length c2) (.slice B2 piv.length d2) l sel piv (HL.out.below hb) h1 h2 hlen (fun r hr=>(HG.out.2 r hr).1) hso (by have:=HG.out.1;have:=HN.out.2.2.2.2.1;omega) hsl
   have hgd:=fun (res:List Rw) (e:ZaY (sel.zip piv) l=some res)=>Zf4 (fun s hs=>hso s.1 (List.of_mem_zip hs).1) l res HG.out.2 e
   have hll:=fun (res:List Rw) (e:ZaY (sel.zip piv) l=some res)=>Ze1 (sel.zip piv) l res e
   have wt:=fun (w':World) (st:List Stg) (v':Value) (h0:Zkz w' v' st) (h1:Zal w' (.slice A2 sel.length c2) sel) (h2:ZaT w' (.slice B2 piv.length d2) piv) (h8:st.length=8) (hst:∀ s∈st,Zep (.inl (s.1,s.2))/\s.1.length<=1000/\s.2.length<=1000)=>Zlm w' v' (.slice A2 sel.length c2) (.slice B2 piv.length d2) st sel piv h0 h1 h2 h8 hlen hsl hst hso hpv
   replace HRs:=HRs.out
   (try dsimp only at HRs)
   generalize hZ:sel.zip piv=Z at *
   have HLR:∃ LR,LR=ZaY Z l:=⟨_,rfl⟩
   obtain ⟨LR,hLR⟩:=HLR
   rw [<- hLR] at HRs rw_ hgd hll
   have RWS:=Lib.hid rw_
   have HGL:=Lib.hid (And.intro hgd hll)
   have WIT:=Lib.hid wt
   replace HRs:=Lib.hid HRs
   clear hS hP hlen hso hpv hsl rw_ hgd hll HS hs8 wt hZ hLR
   generalize hns:sel.length=ns at *
   generalize hnp:piv.length=np at *
   clear hns hnp
   go_upto_region 12 with fail
   go_cut [9,10] from 15 to 119 (fun v9 v10 wx=>Below w2.heap.size w2 wx/\((∃ (r0:List Rw) (A9:Option Addr) (c9:Nat),LR=some r0/\v9=.slice A9 r0.length c9/\v10=.bool true/\ZD wx (.slice A9 r0.length c9) r0)\/(LR=none/\v10=.bool false)))
   case first=>
    cases LR with
    | none=>
     go_wp2_with (go_at_call 79;(with_reducible refine (RWS.out _ HB.out HT.out.1 HT.out.2).mono ?_);rintro e3 w3 H3;obtain ⟨rfl,hb3⟩:=Zlk H3)
     go_meet
     case rel=>exact ⟨hb3,.inr ⟨by first | rfl | trivial,by first | rfl | trivial⟩⟩
    | some r0=>
     go_wp2_with (go_at_call 79;(with_reducible refine (RWS.out _ HB.out HT.out.1 HT.out.2).mono ?_);rintro e3 w3 H3;obtain ⟨A9,c9,rfl,hr3,hb3⟩:=Zll H3)
     go_meet
     case rel=>exact ⟨hb3,.inl ⟨r0,A9,c9,by first | rfl | trivial,by first | rfl | trivial,by first | rfl | trivial,hr3⟩⟩
   case rest=>
   obtain ⟨hb3,hcs⟩:=hcut
   have HB:=Lib.hid (HB.out.trans (hb3.mono HB.out.size))
   have HT:=Lib.hid (And.intro (HT.out.1.below hb3) (HT.out.2.below hb3))
   clear hb3 RWS
   have OKK:=Lib.hid (show ∀ (r0:List Rw),LR=some r0->Zb4 r0/\r0.length<=1000 from fun r0 e=>⟨HGL.out.1 r0 e,by have:=HGL.out.2 r0 e;have:=HG.out.1;have:=HN.out.2.2.2.2.1;omega⟩)
   have START:∃ r0:List Rw,(LR=some r0\/LR=none):=by
    rcases hcs with ⟨r0,_,_,e,_⟩ | ⟨e,_⟩
    ·exact ⟨r0,.inl e⟩
    ·exact ⟨[],.inr e⟩
   obtain ⟨r0,hr0⟩:=START
   have HCS:=Lib.hid hcs
   have HR0:=Lib.hid hr0
   clear hr0
   have S0:=Lib.hid (show (∃ (st:List Stg) (r:List Rw),u10=.bool true/\LR=some r0/\ZbR r0 0=some (st,r)/\SlvS wc wc (.slice none 0 0) st/\ZV wc u9 r (ZcI (.slice none 0 0)))\/(u10=.bool false/\Res=([],2)/\Below w.heap.size w wc) from by
    rcases HCS.out with ⟨r1,A9,c9,e,rfl,rfl,hr⟩ | ⟨e,rfl⟩
    ·obtain rfl:r1=r0:=by
      rcases HR0.out with q | q
      ·rw [e] at q;exact Option.some.inj q
      ·rw [e] at q;cases q
     exact .inl ⟨[],r1,rfl,e,rfl,⟨⟨[],rfl,World.ownsRow_nil _ _ _ _,fun x hx=>by cases hx⟩,Below.refl _ _⟩,ZV.of hr (fun b q=>by cases q)⟩
    ·refine .inr ⟨rfl,?_,HB.out⟩
     rw [HRs.out,e])
   clear hcs HCS
   go_upto_region 14 with fail
   have HTW:=Lib.hid (fun (w':World) (hb:Below wc.heap.size wc w')=>And.intro (HT.out.1.below hb) (HT.out.2.below hb))
   have S0:=Lib.hid (And.intro S0.out (Below.refl wc.heap.size wc))
   clear HT
   generalize hwo:wc=wo at *
   clear hwo
   go_wp2_with fail
   go_loopg [9,10,11,12] 9 (fun g v9 v10 v11 v12 wr=>∃ (k:Nat) (vg vr:Value),vg=v11/\vr=v9/\v12=.int .i64 k/\k<=8/\g=9-k/\Below wo.heap.size wo wr/\((∃ (st:List Stg) (r:List Rw),v10=.bool true/\LR=some r0/\ZbR r0 k=some (st,r)/\SlvS wo wr vg st/\ZV wr vr r (ZcI vg))\/(v10=.bool false/\Res=([],2)/\Below w.heap.size w wr)))
   case atStart=>exact ⟨0,_,_,rfl,rfl,rfl,by omega,rfl,S0.out.2,S0.out.1⟩
   case round=>
    clear S0
    obtain ⟨j,vg,vr,rfl,rfl,rfl,hj,hgj,hbo,hcs⟩:=hrel
    rcases hcs with ⟨st,r,rfl,hLR,hdk,D,hri⟩ | ⟨rfl,hres,hbw⟩
    rotate_left
    ·have FIN:=Lib.hid (show ZbJ w Res (.returned (.tuple #[.slice none 0 0,.int .i64 2])) wr from by rw [hres];exact Zbe hbw)
     clear hbo hres hbw hj hgj
     by_cases hj8:(j:Int)<8
     ·go_wp2_with fail
      go_ret2
      exact FIN.out
     ·go_wp2_with fail
      go_ret2
      exact FIN.out
    obtain ⟨hgood,hl0⟩:=OKK.out r0 hLR
    obtain ⟨hstl,hgr,hrl,hst⟩:=ZkN hgood hl0 j st r hj hdk
    by_cases hj8:j=8
    ·
     subst hj8
     have hRs:Res=if r.any ZdK=true then ([],1) else Zht piv st Z:=by
      rw [HRs.out,hLR]
      dsimp only
      rw [hdk]
     have hrow:=hri.rows
     obtain ⟨A9,c9,rs9,rfl,_,_,g4,g5,g6⟩:=id hrow
     obtain ⟨nr,hnr⟩:∃ n,n=r.length:=⟨_,rfl⟩
     have hr9:rs9.length=nr:=by rw [hnr,<- g4,List.length_map]
     rw [<- hnr] at g5 ⊢
     have wi:=WIT.out wr st vg D.at_ (HTW.out wr hbo).1 (HTW.out wr hbo).2 hstl hst
     obtain ⟨A11,c11,rfl⟩:∃ A c,vg=.slice A st.length c:=by obtain ⟨A,c,_,e,_⟩:=D.at_;exact ⟨A,c,e⟩
     have WI:=Lib.hid wi
     have HZ:=Lib.hid (And.intro hr9 (And.intro g4 (And.intro g5 (And.intro hnr hrl))))
     have HRF:=Lib.hid hRs
     have HBW:=Lib.hid (HB.out.trans (D.below.mono HB.out.size))
     clear hbo hgood hl0 hgr hst hrow g4 g5 g6 hr9 wi hRs hdk hLR hrl hri D hgj hj OKK HRs WIT HTW
     have hv8:¬ ((8:Nat):Int)<8:=by decide
     rw [hstl]
     have WI2:=Lib.hid (hstl▸WI.out)
     clear WI
     go_upto_region 22 with fail
     generalize hwr:wr=wp at *
     clear hwr
     go_wp2_with fail
     go_loopg [14] nr (fun g v14 wr=>wp=wr/\∃ i:Nat,v14=.int .i64 i/\i<=nr/\g=nr-i/\(r.take i).any ZdK=false)
     case atStart=>exact ⟨rfl,0,rfl,Nat.zero_le _,rfl,rfl⟩
     case round=>
      obtain ⟨rfl,i,rfl,hi,hgi,hbad⟩:=hrel
      by_cases hin:i=nr
      ·have et:r.take i=r:=by rw [hin,HZ.out.2.2.2.1];exact List.take_length
       rw [et] at hbad
       have HRS:=Lib.hid (show Res=Zht piv st Z from by rw [HRF.out,if_neg (by rw [hbad];decide)])
       have wi:=WI2.out
       rw [<- HRS.out] at wi
       have WI3:=Lib.hid wi
       subst hin
       clear hi hgi hbad et wi WI2
       have i3:¬ (i:Int)<(i:Int):=by omega
       go_wp2_with (go_at_call 81;(with_reducible refine WI3.out.mono ?_);rintro e7 w7 ⟨A7,c7,rfl,hr7,ok7,hb7⟩)
       go_ret2
       exact ⟨A7,c7,rfl,hr7,ok7,HBW.out.trans (hb7.mono HBW.out.size)⟩
      ·have hlt:i<nr:=by omega
       obtain ⟨x,hx⟩:∃ x,rs9[i]? = some x:=⟨_,List.getElem?_eq_getElem (by have:=HZ.out.1;omega)⟩
       have hxt:r[i]? = some x.2:=by rw [<- HZ.out.2.1,List.getElem?_map,hx];rfl
       obtain ⟨ad,rfl,d0,d1,d2,d3⟩:=ZaF HZ.out.2.2.1 (Below.refl _ _) hx (by omega)
       have nxt:(r.take (i+1)).any ZdK=ZdK x.2:=by
        rw [List.take_add_one,hxt,List.any_append,hbad,Bool.false_or]
        simp
       have bad:ZdK x.2=true->Res=([],1):=fun q=>by rw [HRF.out,if_pos (List.any_eq_true.2 ⟨x.2,List.mem_of_getElem? hxt,q⟩)]
       have i1:(i:Int)<(nr:Int):=by omega
       have i2:(0:Int)<=(i:Int):=by omega
       have wk:IntKind.i64.wrap ((i:Int)+1)=(i:Int)+1:=IntWalk.i64_in _ (by have:=HZ.out.2.2.2.2;have:=HZ.out.2.2.2.1;omega)
       obtain ⟨xv,xo,xl,x1,x2⟩:=x
       have bd:ZdK (xo,xl,x1,x2)=(decide (x1<0)||(xo==2&&x1==0)):=rfl
       dsimp only at *
       rw [bd] at nxt bad
       have HK:=Lib.hid (And.intro hlt (And.intro hgi (And.intro nxt bad)))
       clear hin hi hgi hbad hx hxt nxt bad bd hlt d1 d3
       by_cases q1:x1<0
       ·have t1:decide (x1<0)=true:=decide_eq_true q1
        have FIN:=Lib.hid (show ZbJ w Res (.returned (.tuple #[.slice none 0 0,.int .i64 1])) wp from by
         rw [HK.out.2.2.2 (by rw [t1];rfl)]
         exact Zbe HBW.out)
        go_wp2_with fail
        go_ret2
        exact FIN.out
       ·have t1:decide (x1<0)=false:=decide_eq_false q1
        by_cases q2:xo=2
        ·have t2:(xo==2)=true:=by rw [q2];rfl
         by_cases q3:x1=0
         ·have t3:(x1==0)=true:=by rw [q3];rfl
          have FIN:=Lib.hid (show ZbJ w Res (.returned (.tuple #[.slice none 0 0,.int .i64 1])) wp from by
           rw [HK.out.2.2.2 (by rw [t1,t2,t3];rfl)]
           exact Zbe HBW.out)
          clear q1 q2 q3
          go_wp2_with fail
          go_ret2
          exact FIN.out
         ·have t3:(x1==0)=false:=by simpa using q3
          have NX:=Lib.hid (show (r.take (i+1)).any ZdK=false from by rw [HK.out.2.2.1,t1,t2,t3];rfl)
          clear q1 q2 q3
          go_wp2_with fail
          go_roundg (nr-(i+1))
          case measure=>have:=HK.out.1;have:=HK.out.2.1;omega
          case rel=>exact ⟨rfl,i+1,by push_cast;rfl,by have:=HK.out.1;omega,rfl,NX.out⟩
        ·have t2:(xo==2)=false:=by simpa using q2
         have NX:=Lib.hid (show (r.take (i+1)).any ZdK=false from by rw [HK.out.2.2.1,t1,t2];rfl)
         clear q1 q2
         go_wp2_with fail
         go_roundg (nr-(i+1))
         case measure=>have:=HK.out.1;have:=HK.out.2.1;omega
         case rel=>exact ⟨rfl,i+1,by push_cast;rfl,by have:=HK.out.1;omega,rfl,NX.out⟩
    ·have hlt:j<8:=by omega
     have i1:(j:Int)<8:=by omega
     have wk:IntKind.i64.wrap ((j:Int)+1)=(j:Int)+1:=IntWalk.i64_in _ (by omega)
     obtain ⟨⟨rsS,z1,z2,z3⟩,hbw⟩:=D
     have a1:=Za wr (.cells #[.slice none 0 0,.slice none 0 0] 115)
     have BX:=Blk.start wr #[.slice none 0 0,.slice none 0 0] 115
     have hri2:ZV wr vr r (fun b=>ZcI vg b\/b=wr.heap.size):=hri.mono fun b q=>by
      rcases q with q | q
      ·exact .inl q
      ·exact .inr (by omega)
     have rd:=Zoz (fun b=>ZcI vg b\/b=wr.heap.size) (wr.alloc (.cells #[.slice none 0 0,.slice none 0 0] 115)) vr r j (hri2.below a1) (fun b q=>by
      rw [World.size_alloc]
      rcases q with q | q
      ·have:=(z2.lt b q).2
       omega
      ·omega) (fun x hx=>(hgr x hx).1) hrl
     have nx:ZbR r0 (j+1)=(Zet j r).map fun y=>(st++[y.1],y.2):=by rw [Zf1,hdk];rfl
     have nn:ZbR r0 (j+1)=none->Res=([],2):=fun q=>by
      have e:=ZiE q (7-j)
      rw [show j+1+(7-j)=8 by omega] at e
      rw [HRs.out,hLR]
      dsimp only
      rw [e]
     have RD:=Lib.hid rd
     have HD:=Lib.hid (And.intro nx (And.intro nn (And.intro hLR (And.intro hlt (And.intro hgj (And.intro hbw (And.intro hbo hstl)))))))
     have HX:=Lib.hid (And.intro a1 BX)
     have HZ3:=Lib.hid (And.intro z1 (And.intro z2 z3))
     clear hgood hl0 hstl hgr hrl hst hj8 hdk hLR hri hri2 rd nx nn hlt hgj hbw hbo a1 BX z1 z2 z3 hj
     go_upto_region 19 with (go_at_call 80;(with_reducible refine RD.out.mono ?_);rintro e5 w5 H5;obtain ⟨Ab,nb,cb,Ac,nc,cc,va',ok,rfl,hb5,hsh⟩:=Zki H5;have B5:=HX.out.2.keep hb5;have c0:=B5.cell 0;have c1:=B5.cell 1;have f0:=B5.free 0;have f1:=B5.free 1;have HSH:=Lib.hid (And.intro hsh (And.intro hb5 B5));clear hsh hb5 B5 H5)
     have B6:=(HSH.out.2.2.set 0 (.slice Ab nb cb)).set 1 (.slice Ac nc cc)
     have c2':=B6.cell 0
     have c3':=B6.cell 1
     have b5:Below wr.heap.size wr w5:=HX.out.1.trans (HSH.out.2.1.mono HX.out.1.size)
     have b6:Below wr.heap.size wr ((w5.setCell ⟨wr.heap.size,0,none⟩ (.slice Ab nb cb)).setCell ⟨wr.heap.size,1,none⟩ (.slice Ac nc cc)):=(b5.setCell (p:=⟨wr.heap.size,0,none⟩) (Nat.le_refl _) _).setCell (p:=⟨wr.heap.size,1,none⟩) (Nat.le_refl _) _
     have g6:w5.grownBy ((w5.setCell ⟨wr.heap.size,0,none⟩ (.slice Ab nb cb)).setCell ⟨wr.heap.size,1,none⟩ (.slice Ac nc cc)) (some wr.heap.size):=Zaa ZaK ZaK
     have H6:=Lib.hid (And.intro b6 g6)
     clear c0 c1 f0 f1 B6 b5 b6 g6
     generalize (w5.setCell ⟨wr.heap.size,0,none⟩ (.slice Ab nb cb)).setCell ⟨wr.heap.size,1,none⟩ (.slice Ac nc cc)=w6 at *
     have a7:=Za w6 (.cells #[.slice Ab nb cb,.slice Ac nc cc] 115)
     have b7:=H6.out.1.trans (a7.mono H6.out.1.size)
     have OW:=Lib.hid (HZ3.out.2.1.kept (Zac b7 none) (by cases hv:vg.ownBlock<;>simp))
     have RR:=Lib.hid ((Zav (B:=0) (wo:=w6) (x:=#[.slice Ab nb cb,.slice Ac nc cc]) (ty:=115) (Nat.zero_le _)).reads (size:=2) rfl)
     have H7:=Lib.hid (And.intro a7 (And.intro b7 (HD.out.2.2.2.2.2.1.trans (b7.mono HD.out.2.2.2.2.2.1.size))))
     have LK:=Lib.hid (show st.length+1<=maxLen/\(st.length+1)*48<=140737488355328 from by have:=HD.out.2.2.2.2.2.2.2;have:=HD.out.2.2.2.1;unfold maxLen;omega)
     clear a7 b7
     go_wp2_with (at_builtin;refine Zm _ rfl _ _ 113 rfl wo.heap.size 115 iS (.agg #[.slice none 0 0,.slice none 0 0]) 2 48 Tryz.underlying113 hiS zS0 zS1 zS2 rfl (by decide) _ st.length (ZbK rsS) rfl OW.out (w6.heap.size+1) (some ⟨w6.heap.size,0,none⟩) 1 1 [.slice Ab nb cb,.slice Ac nc cc] rfl RR.out (Zrk _ _ _ _ _ _) (by have:=LK.out;omega) (by have:=LK.out;omega) H7.out.2.2.size ?_)
     intro v9 w9 hown hgrow hat
     have P9:=fun (s:Stg) (hs1:ZV w5 (.slice Ab nb cb) s.1 (fun b=>ZcI vg b\/b=wr.heap.size)) (hs2:ZV w5 (.slice Ac nc cc) s.2 (fun b=>ZcI vg b\/b=wr.heap.size))=>SlvS.push (s:=s) H7.out.2.2 HZ3.out.1 (fun k q=>(HZ3.out.2.1.lt k q).1) (fun x hx=>⟨(HZ3.out.2.2 x hx).1.below H7.out.2.1,(HZ3.out.2.2 x hx).2.below H7.out.2.1⟩) hown hgrow (by first | exact hat | simpa using hat) (((hs1.grown H6.out.2 (fun b q=>by injection q with q;exact .inr q.symm)).below H7.out.1).mono fun b q=>.inl (.inl q)) (((hs2.grown H6.out.2 (fun b q=>by injection q with q;exact .inr q.symm)).below H7.out.1).mono fun b q=>.inl (.inl q))
     have R9:=fun (r':List Rw) (hr:ZV w5 va' r' (fun b=>ZcI vg b\/b=wr.heap.size))=>(((hr.grown H6.out.2 (fun b q=>by injection q with q;exact .inr q.symm)).below H7.out.1).mono (S':=ZcI vg) fun b q=>.inl (.inl q)).past hgrow (vg':=v9) (by first | exact hat | simpa using hat)
     have BO9:Below wo.heap.size wo w9:=H7.out.2.2.grown hgrow H7.out.2.2.size fun k q=>(HZ3.out.2.1.lt k q).1
     have BW9:Below w.heap.size w w9:=HB.out.trans (BO9.mono HB.out.size)
     have H9:=Lib.hid (And.intro P9 (And.intro R9 (And.intro BW9 BO9)))
     clear P9 R9 BW9 BO9 hown hgrow hat
     go_wp2_with fail
     go_roundg (9-(j+1))
     case measure=>have:=HD.out.2.2.2.1;have:=HD.out.2.2.2.2.1;omega
     case rel=>
      refine ⟨j+1,_,_,rfl,rfl,by push_cast;rfl,by have:=HD.out.2.2.2.1;omega,rfl,H9.out.2.2.2,?_⟩
      rcases HSH.out.1 with ⟨rfl,s,r',e,q0,q1,q2⟩ | ⟨rfl,e⟩
      ·exact .inl ⟨st++[s],r',rfl,HD.out.2.2.1,by rw [HD.out.1,e];rfl,H9.out.1 s q1 q2,H9.out.2.1 r' q0⟩
      ·exact .inr ⟨rfl,HD.out.2.1 (by rw [HD.out.1,e];rfl),H9.out.2.2.1⟩
  ·have hlt:k<n:=by omega
   obtain ⟨y,hy⟩:∃ y,rs[k]? = some y:=⟨_,List.getElem?_eq_getElem (by have:=HN.out.1;omega)⟩
   have hyt:l[k]? = some y.2:=by rw [<- HN.out.2.1,List.getElem?_map,hy];rfl
   obtain ⟨ad,rfl,d0,d1,d2,d3⟩:=ZaF HN.out.2.2.1 D.below hy (by omega)
   have hry:=HN.out.2.2.2.1 y (List.mem_of_getElem? hy)
   have hw:=HN.out.2.2.2.2.2.1 y.2 (List.mem_of_getElem? hyt)
   have hr:=hry.below D.below
   have rt:=Zl6 wr y.1 y.2 hr hw.1 hw.2.1
   have bad:ZP y.2=true->Res=([],2):=fun q=>by
    rw [HR.out]
    unfold ZeP
    rw [if_pos (.inr (List.any_eq_true.2 ⟨y.2,List.mem_of_getElem? hyt,q⟩))]
   have big:400<n->Res=([],2):=fun q=>by
    rw [HR.out]
    unfold ZeP
    rw [if_pos (.inl (by rw [<- HN.out.2.2.2.2.1];exact q))]
   have nxa:ZP y.2=false->∀ r∈l.take (k+1),ZP r=false:=fun q r hr=>by
    rw [List.take_add_one,hyt] at hr
    rcases List.mem_append.1 hr with a | a
    ·exact hall r a
    ·have a:r=y.2:=by simpa using a
     rw [a]
     exact q
   have tk1:l.take (k+1)=l.take k++[y.2]:=by rw [List.take_add_one,hyt];rfl
   have le:(ZN (l.take k)).length<=k:=by unfold ZN;rw [List.length_map];exact Nat.le_trans (List.length_filter_le _ _) (by rw [List.length_take];omega)
   have i1:(k:Int)<(n:Int):=by omega
   have i2:(0:Int)<=(k:Int):=by omega
   have wk:IntKind.i64.wrap ((k:Int)+1)=(k:Int)+1:=IntWalk.i64_in _ (by have:=HN.out.2.2.2.2.2.2;unfold maxLen at this;omega)
   generalize ZP y.2=RB at *
   obtain ⟨y0,yo,yl,y1,y2⟩:=y
   dsimp only at *
   obtain ⟨Ay,cy,rfl⟩:=Zd hr
   have n1:yo=0->ZN (l.take (k+1))=ZN (l.take k)++[(yl,y1,y2)]:=fun q=>by rw [tk1];unfold ZN;rw [List.filter_append,List.map_append];simp [q]
   have n2:¬ yo=0->ZN (l.take (k+1))=ZN (l.take k):=fun q=>by rw [tk1];unfold ZN;rw [List.filter_append];simp [q]
   have RT:=Lib.hid rt
   have HK:=Lib.hid (And.intro hlt (And.intro hg (And.intro bad (And.intro big (And.intro nxa (And.intro n1 (And.intro n2 (And.intro le hry))))))))
   have DD:=Lib.hid D
   clear hkn hk hg hall h400 hyt hy hry hw hr rt bad big nxa tk1 le n1 n2 D hlt
   cases RB with
   | true=>
    have FIN:=Lib.hid (HK.out.2.2.1 rfl)
    go_wp2_with (go_at_call 77;(with_reducible refine RT.out.mono ?_);rintro e1 w1 ⟨rfl,hb1⟩)
    go_ret2
    rw [FIN.out]
    exact Zbe (DD.out.below.trans (hb1.mono DD.out.below.size))
   | false=>
    by_cases h4:400<n
    ·have FIN:=Lib.hid (HK.out.2.2.2.1 h4)
     have i4:(400:Int)<(n:Int):=by omega
     clear h4
     go_wp2_with (go_at_call 77;(with_reducible refine RT.out.mono ?_);rintro e1 w1 ⟨rfl,hb1⟩)
     go_ret2
     rw [FIN.out]
     exact Zbe (DD.out.below.trans (hb1.mono DD.out.below.size))
    ·have i4:¬ (400:Int)<(n:Int):=by omega
     have H4:=Lib.hid (show n<=400 by omega)
     clear h4
     by_cases h0:yo=0
     ·have e0:(yo==0)=true:=by rw [h0];rfl
      have NX:=Lib.hid (HK.out.2.2.2.2.2.1 h0)
      clear h0
      go_upto_region 8 with (go_at_call 77;(with_reducible refine RT.out.mono ?_);rintro e1 w1 ⟨rfl,hb1⟩;replace d0:=ZU hb1 d0;replace d1:=ZU hb1 d1;replace d2:=ZU hb1 d2;replace d3:=ZU hb1 d3)
      have D1:=DD.out.keep hb1
      have QW:=Lib.hid (Zmu (t:=(yl,y1,y2)) (kn:=y1) (kd:=y2) (A:=Ay) (c:=cy) D1 rfl 27)
      obtain ⟨rs2,QV⟩:=QW.out
      replace QW:=Lib.hid QV
      have LK:=Lib.hid (show (ZN (l.take k)).length+1<=maxLen/\((ZN (l.take k)).length+1)*40<=140737488355328 from by have:=HK.out.2.2.2.2.2.2.2.1;have:=HK.out.1;have:=H4.out;unfold maxLen;omega)
      clear QV D1 hb1 d0
      go_wp2_with (at_builtin;refine Zm _ rfl _ _ 49 rfl w.heap.size 27 iT (.agg #[.slice none 0 0,.int .i64 0,.int .i64 0]) 3 40 Tryz.underlying49 hiT zT0 zT1 zT2 rfl (by decide) _ (ZN (l.take k)).length (Zg rs2) rfl QW.out.2.1 (w1.heap.size+1) (some ⟨w1.heap.size,0,none⟩) 1 1 [.slice Ay yl.length cy,.int .i64 y1,.int .i64 y2] rfl QW.out.2.2.2.2 (Zp3 _ _ _ _ _) (by have:=LK.out;omega) (by have:=LK.out;omega) QW.out.2.2.2.1.below.size ?_)
      intro v8 w8 hown hgrow hat
      have D8:=Lib.hid (ParS.pushE (t:=(yl,y1,y2)) QW.out.2.2.2.1 QW.out.1 QW.out.2.2.1 hown hgrow (by first | exact hat | simpa using hat) HK.out.2.2.2.2.2.2.2.2)
      clear hown hgrow hat
      go_wp2_with fail
      go_roundg (n-(k+1))
      case measure=>have:=HK.out.1;have:=HK.out.2.1;omega
      case rel=>exact ⟨k+1,_,rfl,by push_cast;rfl,by have:=HK.out.1;omega,rfl,HK.out.2.2.2.2.1 (by first | rfl | trivial),fun _=>H4.out,by rw [NX.out];exact D8.out⟩
     ·have e0:(yo==0)=false:=by simpa using h0
      have NX:=Lib.hid (HK.out.2.2.2.2.2.2.1 h0)
      clear h0
      go_wp2_with (go_at_call 77;(with_reducible refine RT.out.mono ?_);rintro e1 w1 ⟨rfl,hb1⟩;replace d0:=ZU hb1 d0)
      go_roundg (n-(k+1))
      case measure=>have:=HK.out.1;have:=HK.out.2.1;omega
      case rel=>exact ⟨k+1,_,rfl,by push_cast;rfl,by have:=HK.out.1;omega,rfl,HK.out.2.2.2.2.1 (by first | rfl | trivial),fun _=>H4.out,by rw [NX.out];exact DD.out.keep hb1⟩
end
end Go.Proofs.YtolookeddknmoaaGreat
