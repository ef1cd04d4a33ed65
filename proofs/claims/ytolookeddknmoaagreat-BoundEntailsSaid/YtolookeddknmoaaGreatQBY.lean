import Derived.Test.YtolookeddknmoaaGreatQBS
set_option maxRecDepth 100000
set_option maxHeartbeats 8000000
namespace Go.Proofs.YtolookeddknmoaaGreat
section
open Go.RowKit
theorem RowsS.grow {W w w':World} {vl v v':Value} {l:List Trm} {A B:List ZfQ} {is:List Int} {z:Int} (h:RowsS W w vl l (A++(v,is)::B)) (hown:w'.ownsRow W.heap.size 3 1 v' (is.length+1) (ZbQ is++[.int .i64 z])) (hg:w.grownBy w' v.ownBlock) (hv:v'.ownBlock=v.ownBlock\/v'.ownBlock=some w.heap.size):RowsS W w' vl l (A++(v',is++[z])::B):=by
 refine h.row ?_ hg hv
 rw [List.length_append,ZbQ,List.map_append]
 exact hown
theorem Beside.ok {n m k:Nat} {s:ZbY} {l:List Trm} {tk od:List Int} (h:Beside n s l tk od) (so:SolOk m k s):∀ u∈l,TrmOk u:=fun u hu=>by
 obtain ⟨i,hi⟩:=List.mem_iff_getElem?.1 hu
 obtain ⟨z,hz⟩:∃ z,tk[i]? = some z:=⟨_,List.getElem?_eq_getElem (by rw [h.tl,<- h.ll];exact Za4 hi)⟩
 by_cases hz0:z<0
 ·exact so.l u (by rw [h.free];exact Zeb hz0 hi hz)
 ·obtain ⟨m,hm⟩:=h.cover i z hz (by omega)
  obtain ⟨j,t,_,q1,q2,q3,_⟩:=h.at_ m i hm
  obtain rfl:i=j:=by omega
  rw [hi] at q2
  obtain rfl:=Option.some.inj q2
  exact so.q u (List.mem_of_getElem? q3)
theorem ZnE {ts:List Trm} (hl:ts.length<=400) (hp:ts.any ZW=false) (ho:∀ t∈ts,TrmOk t) {s:ZbY} (h:Zat (ts.map ZR) 8=some s):Zy ts=if s.1.any prK=true then (([],[]),1) else ((s.2.1,s.2.2),0):=by
 rw [Zfk ho] at h
 obtain ⟨r,hr,rfl⟩:=Option.map_eq_some_iff.1 h
 unfold Zy
 rw [if_pos ⟨hl,hp⟩,hr]
 have e:(ZhI r).1.any prK=r.1.any prK:=by
  unfold ZhI
  rw [List.any_map]
  rfl
 rw [e]
 rfl
theorem ZnF {ts:List Trm} (ho:∀ t∈ts,TrmOk t) {k:Nat} (hk:k<=8) (h:Zat (ts.map ZR) k=none):Zy ts=(([],[]),2):=by
 rw [Zfk ho,Option.map_eq_none_iff] at h
 exact Zfl hk h
def Zrb (w:World) (e:Ending) (w':World):Prop:=e=.returned (.tuple #[.slice none 0 0,.bool false])/\Below w.heap.size w w'
def ZqP (w:World) (S0:Nat->Prop) (t:Trm) (x:Int) (i:Nat) (ts:List Trm) (e:Ending) (w':World):Prop:=
 ∃ us A c,ZmY ((ZM t x).1,(ZM t x).2.1) x i ts us/\e=.returned (.tuple #[.slice A us.length c,.bool true])/\ZY w' w.heap.size (.slice A us.length c) us (fun b=>(Value.slice A us.length c).ownBlock=some b\/S0 b)/\Below w.heap.size w w'
theorem ZqB {w w':World} {S0:Nat->Prop} {t:Trm} {x:Int} {i:Nat} {ts:List Trm} {e:Ending} (hb:(ZM t x).2.2≠0\/ZgI ((ZM t x).1,(ZM t x).2.1) x i ts) (h:Zd9 w S0 t x i ts e w'):Zrb w e w':=by
 obtain ⟨b,⟨h0,us,A,c,hu,_⟩ | ⟨_,q⟩⟩:=h
 ·rcases hb with g | ⟨j,u,hj,hn⟩
  ·exact absurd h0 g
  ·obtain ⟨_,_,q⟩:=hu.2 j u hj
   rw [hn] at q
   cases q
 ·exact ⟨q,b⟩
theorem ZpW {w w':World} {S0:Nat->Prop} {t:Trm} {x:Int} {i:Nat} {ts:List Trm} {e:Ending} (hb:¬ ((ZM t x).2.2≠0\/ZgI ((ZM t x).1,(ZM t x).2.1) x i ts)) (h:Zd9 w S0 t x i ts e w'):ZqP w S0 t x i ts e w':=by
 obtain ⟨b,⟨_,us,A,c,hu,he,ho⟩ | ⟨q,_⟩⟩:=h
 ·exact ⟨us,A,c,hu,he,ho,b⟩
 ·exact absurd q hb
theorem ZpF (z:Int):∀ u∈[(Value.int .i64 z)],u.oneCell'=true:=fun u hu=>by
 simp at hu
 rw [hu]
 rfl
theorem Zq6 (A:Option Addr) (n c:Nat) (x y:Int):∀ u∈[(Value.slice A n c),.int .i64 x,.int .i64 y],u.oneCell'=true:=fun u hu=>by
 simp at hu
 rcases hu with rfl | rfl | rfl<;>rfl
theorem Zm0 {W wr w1 w2:World} {vl:Value} {l:List Trm} {R:List ZfQ} {t:Trm} {kn kd:Int} {A:Option Addr} {c k:Nat} (D:RowsS W wr vl l R) (hb1:Below wr.heap.size wr w1) (hb2:Below w1.heap.size w1 w2) (hk:l.length=k) (hv:Zb w2 (.slice A t.1.length c) t.1) (hf:Zs w1.heap.size (.slice A t.1.length c)) (ty:TypeId) :
  ∃ rs,rs.map (·.2)=l/\(w2.alloc (.cells #[.slice A t.1.length c,.int .i64 kn,.int .i64 kd] ty)).ownsRow W.heap.size 27 3 vl k (Zg rs)/\(∀ x∈rs,Zb (w2.alloc (.cells #[.slice A t.1.length c,.int .i64 kn,.int .i64 kd] ty)) x.1 x.2.1/\Off (ZdI vl R) x.1 x.2.1)/\RowsS W (w2.alloc (.cells #[.slice A t.1.length c,.int .i64 kn,.int .i64 kd] ty)) vl l R ∧
   Zb (w2.alloc (.cells #[.slice A t.1.length c,.int .i64 kn,.int .i64 kd] ty)) (.slice A t.1.length c) t.1/\Off (ZdI vl R) (.slice A t.1.length c) t.1 ∧
   ZB (w2.alloc (.cells #[.slice A t.1.length c,.int .i64 kn,.int .i64 kd] ty)) (w2.heap.size+1) 3 (some ⟨w2.heap.size,0,none⟩) 1 [.slice A t.1.length c,.int .i64 kn,.int .i64 kd]:=by
 have a:=Za w2 (.cells #[.slice A t.1.length c,.int .i64 kn,.int .i64 kd] ty)
 have LA:=(D.keep (hb1.trans (hb2.mono hb1.size))).keep a
 obtain ⟨rs,z1,z2,z3⟩:=LA.l
 rw [hk] at z2
 exact ⟨rs,z1,z2,z3,LA,hv.below a,Off.fresh hf fun b q=>Nat.lt_of_lt_of_le (D.lt b q).2 hb1.size,(Zav (wo:=w2) (x:=#[.slice A t.1.length c,.int .i64 kn,.int .i64 kd]) (ty:=ty) (Nat.zero_le _)).reads (size:=3) rfl⟩
structure OutS (W w:World) (vo:Value) (us:List Trm):Prop where
 o:ZY w W.heap.size vo us (fun b=>vo.ownBlock=some b)
 below:Below W.heap.size W w
theorem OutS.start (W:World):OutS W W (.slice none 0 0) []:=⟨ZY.nil _ _ _,Below.refl _ _⟩
theorem OutS.keep {W w w':World} {vo:Value} {us:List Trm} (h:OutS W w vo us) (hb:Below w.heap.size w w'):OutS W w' vo us:=⟨h.o.below hb,h.below.trans (hb.mono h.below.size)⟩
theorem OutS.push {W w w':World} {vo vo' vt:Value} {us:List Trm} {t:Trm} {rs:List (Value×Trm)} (h:OutS W w vo us) (h1:rs.map (·.2)=us) (h3:∀ x∈rs,Zb w x.1 x.2.1/\Off (fun b=>vo.ownBlock=some b) x.1 x.2.1)
  (hown:w'.ownsRow W.heap.size 27 3 vo' (us.length+1) (Zg rs++[vt,.int .i64 t.2.1,.int .i64 t.2.2])) (hg:w.grownBy w' vo.ownBlock) (hv:vo'.ownBlock=vo.ownBlock\/vo'.ownBlock=some w.heap.size) (hr:Zb W vt t.1):OutS W w' vo' (us++[t]):=by
 refine ⟨ZY.appended h1 h3 hown hg (fun b hb=>hb) (hr.below h.below) (fun hl b hb q=>?_) fun b hb=>?_,h.below.grown hg h.below.size fun k hk=>(h.o.lt k hk).1⟩
 ·have:=hr.lt hl b hb
  have:=(h.o.lt b q).1
  omega
 ·rcases hv with e | e
  ·exact .inl (e▸hb)
  ·rw [e] at hb
   injection hb with hb
   exact .inr (by omega)
theorem ZnV {W wr:World} {vo:Value} {us:List Trm} {t:Trm} {kn kd:Int} {A:Option Addr} {c k:Nat} (O:OutS W wr vo us) (hk:us.length=k) (hv:Zb W (.slice A t.1.length c) t.1) (ty:TypeId) :
  ∃ rs,rs.map (·.2)=us/\(wr.alloc (.cells #[.slice A t.1.length c,.int .i64 kn,.int .i64 kd] ty)).ownsRow W.heap.size 27 3 vo k (Zg rs)/\(∀ x∈rs,Zb (wr.alloc (.cells #[.slice A t.1.length c,.int .i64 kn,.int .i64 kd] ty)) x.1 x.2.1/\Off (fun b=>vo.ownBlock=some b) x.1 x.2.1)/\OutS W (wr.alloc (.cells #[.slice A t.1.length c,.int .i64 kn,.int .i64 kd] ty)) vo us/\Zb W (.slice A t.1.length c) t.1 ∧
   ZB (wr.alloc (.cells #[.slice A t.1.length c,.int .i64 kn,.int .i64 kd] ty)) (wr.heap.size+1) 3 (some ⟨wr.heap.size,0,none⟩) 1 [.slice A t.1.length c,.int .i64 kn,.int .i64 kd]:=by
 have a:=Za wr (.cells #[.slice A t.1.length c,.int .i64 kn,.int .i64 kd] ty)
 have LA:=O.keep a
 obtain ⟨rs,z1,z2,z3⟩:=LA.o
 rw [hk] at z2
 exact ⟨rs,z1,z2,z3,LA,hv,(Zav (wo:=wr) (x:=#[.slice A t.1.length c,.int .i64 kn,.int .i64 kd]) (ty:=ty) (Nat.zero_le _)).reads (size:=3) rfl⟩
theorem Znx (w:World) (v:Value) (ts:List Trm) (h:Zal w v ts) (hl:¬ ts.length<=400) :
  Calls Tryz.prog 78 #[v] w (Zbp w (Zy ts)):=by
 rw [Zgn fun q=>hl q.1]
 obtain ⟨A,c,rs,rfl,h2,h3,_⟩:=h
 have i1:(400:Int)<(ts.length:Int):=by omega
 have i2:400<ts.length:=by omega
 clear hl h2 h3
 generalize ts.length=n at *
 go_enter Tryz.func78,Tryz.ntmps78
 go_wp2_with fail
 go_ret3
 exact Zb0 (Below.refl _ _)
theorem ZoF (w:World) (v:Value) (ts:List Trm) (h:Zal w v ts) (hw:∀ t∈ts,Zv t.1/\Bd t.2) (hl:ts.length<=400) :
  Calls Tryz.prog 78 #[v] w (Zbp w (Zy ts)):=by
 obtain ⟨iT,hiT,zT0,zT1,zT2⟩:=info_parts Zf3
 obtain ⟨iI,hiI,zI0,zI1,zI2⟩:=info_parts Znb
 obtain ⟨A,c,rs,rfl,h2,h3,h4,h5,h6⟩:=h
 obtain ⟨n,hn⟩:∃ n,n=ts.length:=⟨_,rfl⟩
 have hrn:rs.length=n:=by rw [hn,<- h4,List.length_map]
 rw [<- hn] at h2 h5 hl ⊢
 have i1:¬ (400:Int)<(n:Int):=by omega
 have i2:¬ 400<n:=by omega
 have HN:=Lib.hid (And.intro hrn (And.intro h4 (And.intro h5 (And.intro h6 (And.intro hn (And.intro hw hl))))))
 clear hn hrn h2 h3 h4 h5 h6 hw hl
 go_enter Tryz.func78,Tryz.ntmps78
 go_wp2_with fail
 clear i1 i2
 go_loopg [5,6,7] n (fun g v5 v6 v7 wr=>∃ (k:Nat) (vl vt:Value),vl=v5/\vt=v6/\v7=.int .i64 k/\k<=n/\g=n-k/\(∀ t∈ts.take k,ZW t=false)/\RowsS w wr vl ((ts.take k).map ZR) [(vt,List.replicate k (-1))])
 case atStart=>exact ⟨0,_,_,rfl,rfl,rfl,Nat.zero_le _,rfl,(fun t ht=>by cases ht),Znv w⟩
 case round=>
  obtain ⟨k,vl,vt,rfl,rfl,rfl,hk,hg,hall,D⟩:=hrel
  by_cases hkn:k=n
  ·have he:ts.take k=ts:=by rw [hkn,HN.out.2.2.2.2.1];exact List.take_length
   rw [he] at hall D
   have hno:ts.any ZW=false:=List.any_eq_false.2 fun t ht=>by rw [hall t ht];decide
   have hok:∀ t∈ts,TrmOk t:=fun t ht=>by
    have q:=hall t ht
    unfold ZW at q
    have wt:=HN.out.2.2.2.2.2.1 t ht
    obtain ⟨p,a,b⟩:=Zam (by simpa using q) wt.1 wt.2.1.1 wt.2.1.2 wt.2.2.1 wt.2.2.2
    exact ⟨a,b,p⟩
   have tok:∀ t∈ts.map ZR,TrmOk t:=fun t ht=>by
    obtain ⟨u,hu,rfl⟩:=List.mem_map.1 ht
    exact Zdl (hok u hu)
   have D0:=Lib.hid D.more.more
   have BES:=Lib.hid (show Beside k (ts.map ZR,[],[]) (ts.map ZR) (List.replicate k (-1)) [] from by have q:=Beside.start (ts.map ZR);rw [List.length_map,<- HN.out.2.2.2.2.1,<- hkn] at q;exact q)
   have HO:=Lib.hid (And.intro hno (And.intro hok tok))
   subst hkn
   clear hk hg hall D he hno hok tok
   go_wp2_with fail
   go_loopg [5,8,9,10] 8 (fun g v5 v8 v9 v10 wr=>∃ (j:Nat) (s:ZbY) (l:List Trm) (tk od:List Int) (vl vo vb:Value),vl=v5/\vo=v8/\vb=v9/\v10=.int .i64 j/\j<=8/\g=8-j/\Zat (ts.map ZR) j=some s/\Beside k s l tk od/\RowsS w wr vl l [(vt,tk),(vo,od),(vb,s.2.2)])
   case atStart=>exact ⟨0,(ts.map ZR,[],[]),_,_,[],_,_,_,rfl,rfl,rfl,rfl,by omega,rfl,rfl,BES.out,D0.out⟩
   case round=>
    clear D0 BES
    obtain ⟨j,s,l,tk,od,vl,vo,vb,rfl,rfl,rfl,rfl,hj,hg,hs,B,D⟩:=hrel
    have sok:SolOk k j s:=by have q:=ZcC HO.out.2.2 j s hs;rw [List.length_map,<- HN.out.2.2.2.2.1] at q;exact q
    by_cases hj8:8<=j
    ·obtain rfl:j=8:=by omega
     have hA:=ZnE (by have:=HN.out.2.2.2.2.1;have:=HN.out.2.2.2.2.2.2;omega) HO.out.1 HO.out.2.1 hs
     have TL:=D.l.terms
     have IT:ZaT wr vt tk:=ZdU (D.r (vt,tk) (by simp))
     have IO:ZaT wr vo od:=ZdU (D.r (vo,od) (by simp))
     have IB:ZaT wr vb s.2.2:=ZdU (D.r (vb,s.2.2) (by simp))
     have hB:=D.below
     clear D
     obtain ⟨Al,cl,rl,rfl,_,_,l4,l5,l6⟩:=TL
     obtain ⟨At,ct,rfl,_,_,t4⟩:=IT
     obtain ⟨Ao,co_,rfl,_,_,o4⟩:=IO
     obtain ⟨Ab,cb,rfl⟩:∃ A c,vb=.slice A s.2.2.length c:=by obtain ⟨A,c,e,_⟩:=IB;exact ⟨A,c,e⟩
     obtain ⟨q,hq⟩:∃ q,q=od.length:=⟨_,rfl⟩
     have hqs:s.2.1.length=q:=by rw [hq,B.ol]
     have hq8:q<=8:=by have h1:=sok.ql;have h2:=sok.k;omega
     have hrl:rl.length=k:=by rw [<- B.ll,<- l4,List.length_map]
     rw [<- hq] at o4 ⊢
     rw [B.tl] at t4 ⊢
     rw [B.ll] at l5 ⊢
     have i1:¬ (8:Int)<8:=by omega
     have BB:=Lib.hid (And.intro B (And.intro hA (And.intro hqs (And.intro hq8 (And.intro hrl (And.intro l4 (And.intro l6 (And.intro IB (And.intro hB hq)))))))))
     have RD:=Lib.hid (And.intro l5 (And.intro t4 o4))
     clear hA IB hB l4 l5 l6 t4 o4 hq hqs hq8 hrl B sok hs hg hj hj8
     go_wp2_with fail
     clear i1
     go_loopg [14] k (fun g v14 w'=>∃ m:Nat,v14=.int .i64 m/\m<=k/\g=k-m/\(∀ (i:Nat) (t:Trm) (z:Int),i<m->l[i]? = some t->tk[i]? = some z->z<0->prK t=false)/\Below wr.heap.size wr w')
     case atStart=>exact ⟨0,rfl,Nat.zero_le _,rfl,fun i _ _ hi=>absurd hi (Nat.not_lt_zero _),Below.refl _ _⟩
     case round=>
      rename World=>w1
      obtain ⟨m,rfl,hm,hg,hall,hb⟩:=hrel
      by_cases hmk:m=k
      ·have hno:s.1.any prK=false:=List.any_eq_false.2 fun t ht=>by
        rw [BB.out.1.free] at ht
        obtain ⟨i,z,a,b,c⟩:=Zee ht
        rw [hall i t z (by have:=Za4 a;have:=BB.out.1.ll;omega) a b c]
        decide
       have hA:=BB.out.2.1
       rw [hno,if_neg (by decide)] at hA
       have HA:=Lib.hid (And.intro hA hb)
       have O0:=Lib.hid (OutS.start w1)
       subst hmk
       clear hA hno hall hb hg hm
       go_wp2_with fail
       go_loopg [15,16] q (fun g v15 v16 w'=>∃ (p:Nat) (vx:Value),vx=v15/\v16=.int .i64 p/\p<=q/\g=q-p/\OutS w1 w' vx (s.2.1.take p))
       case atStart=>exact ⟨0,_,rfl,rfl,Nat.zero_le _,rfl,O0.out⟩
       case round=>
        clear O0
        rename World=>w2
        obtain ⟨p,vx,rfl,rfl,hp,hg,O⟩:=hrel
        by_cases hpq:p=q
        ·have et:s.2.1.take p=s.2.1:=List.take_of_length_le (by have:=BB.out.2.2.1;omega)
         rw [et] at O
         have OT:=O.o.terms
         obtain ⟨Ax,cx,rfl⟩:∃ A c,vx=.slice A s.2.1.length c:=by obtain ⟨A,c,_,e,_⟩:=OT;exact ⟨A,c,e⟩
         have b2:=HA.out.2.trans (O.below.mono HA.out.2.size)
         have FIN:=Lib.hid (show Zbp w (Zy ts) (.returned (.tuple #[.slice Ax s.2.1.length cx,.slice Ab s.2.2.length cb,.int .i64 0])) w2 by rw [HA.out.1];exact ⟨Ax,cx,Ab,cb,rfl,OT,BB.out.2.2.2.2.2.2.2.1.below b2,BB.out.2.2.2.2.2.2.2.2.1.trans (b2.mono BB.out.2.2.2.2.2.2.2.2.1.size)⟩)
         have i1:¬ (p:Int)<(q:Int):=by omega
         clear et O OT b2 hp hg hpq
         generalize s.2.1.length=z1 at *
         generalize s.2.2.length=z2 at *
         go_wp2_with fail
         go_ret3
         exact FIN.out
        ·have hlt:p<q:=by omega
         obtain ⟨o,ho⟩:∃ o,od[p]? = some o:=⟨_,List.getElem?_eq_getElem (by have:=BB.out.2.2.2.2.2.2.2.2.2;omega)⟩
         obtain ⟨i,t,z,rfl,hi,hQ,_,_⟩:=BB.out.1.at_ p o ho
         obtain ⟨u,hu⟩:∃ u,rl[i]? = some u:=⟨_,List.getElem?_eq_getElem (by have:=BB.out.2.2.2.2.1;have:=Za4 hi;have:=BB.out.1.ll;omega)⟩
         have hut:u.2=t:=by
          have:l[i]? = some u.2:=by rw [<- BB.out.2.2.2.2.2.1,List.getElem?_map,hu];rfl
          rw [hi] at this
          exact (Option.some.inj this).symm
         subst hut
         have hik:i<m:=by have:=Za4 hi;have:=BB.out.1.ll;omega
         have b2:=HA.out.2.trans (O.below.mono HA.out.2.size)
         obtain ⟨ad,rfl,d0,d1,d2⟩:=ZaZ RD.out.1 b2 hu (by omega)
         obtain ⟨bd,rfl,e1⟩:=ZbL RD.out.2.2 b2 ho (by omega)
         have hr:=(BB.out.2.2.2.2.2.2.1 u (List.mem_of_getElem? hu)).below HA.out.2
         have i1:(p:Int)<(q:Int):=by omega
         have i2:(0:Int)<=(p:Int):=by omega
         have i3:(i:Int)<(m:Int):=by omega
         have i4:(0:Int)<=(i:Int):=by omega
         have wp_:IntKind.i64.wrap ((p:Int)+1)=(p:Int)+1:=IntWalk.i64_in _ (by have:=BB.out.2.2.2.1;omega)
         have tk1:s.2.1.take (p+1)=s.2.1.take p++[u.2]:=by rw [List.take_add_one,hQ];rfl
         obtain ⟨u0,ul,u1,u2⟩:=u
         dsimp only at *
         obtain ⟨Au,cu,rfl⟩:=Zd hr
         have HK:=Lib.hid (And.intro hlt (And.intro hg (And.intro tk1 (by rw [List.length_take];have:=BB.out.2.2.1;omega:(s.2.1.take p).length=p))))
         have QW:=Lib.hid (ZnV (t:=(ul,u1,u2)) (kn:=u1) (kd:=u2) O HK.out.2.2.2 hr 27)
         obtain ⟨rs2,QV⟩:=QW.out
         have QW:=Lib.hid QV
         have LK:=Lib.hid (And.intro (by have:=BB.out.2.2.2.1;unfold maxLen;omega:p+1<=maxLen) (by have:=BB.out.2.2.2.1;omega:(p+1)*40<=140737488355328))
         clear QV O hp hg hlt hpq ho hi hQ hu hik b2 hr tk1
         go_wp2_with (at_builtin;refine Zm _ rfl _ _ 49 rfl w1.heap.size 27 iT (.agg #[.slice none 0 0,.int .i64 0,.int .i64 0]) 3 40 Tryz.underlying49 hiT zT0 zT1 zT2 rfl (by decide) _ p (Zg rs2) rfl QW.out.2.1 (w2.heap.size+1) (some ⟨w2.heap.size,0,none⟩) 1 1 [.slice Au ul.length cu,.int .i64 u1,.int .i64 u2] rfl QW.out.2.2.2.2.2 (Zq6 _ _ _ _ _) LK.out.1 LK.out.2 QW.out.2.2.2.1.below.size ?_)
         intro v8 w8 hown hgrow hat
         have O2:=Lib.hid (OutS.push (t:=(ul,u1,u2)) QW.out.2.2.2.1 QW.out.1 QW.out.2.2.1 (by rw [HK.out.2.2.2];exact hown) hgrow (by rw [World.size_alloc];exact hat) QW.out.2.2.2.2.1)
         clear hown hgrow hat
         go_wp2_with fail
         go_roundg (q-(p+1))
         case measure=>have:=HK.out.1;have:=HK.out.2.1;omega
         case rel=>exact ⟨p+1,v8,rfl,by push_cast;rfl,by have:=HK.out.1;omega,rfl,by rw [HK.out.2.2.1];exact O2.out⟩
      ·have hlt:m<k:=by omega
       obtain ⟨u,hu⟩:∃ u,rl[m]? = some u:=⟨_,List.getElem?_eq_getElem (by have:=BB.out.2.2.2.2.1;omega)⟩
       obtain ⟨y,hy⟩:∃ y,tk[m]? = some y:=⟨_,List.getElem?_eq_getElem (by have:=BB.out.1.tl;omega)⟩
       have hlu:l[m]? = some u.2:=by rw [<- BB.out.2.2.2.2.2.1,List.getElem?_map,hu];rfl
       obtain ⟨ad,rfl,d0,d1,d2⟩:=ZaZ RD.out.1 hb hu (by omega)
       obtain ⟨bd,rfl,e1⟩:=ZbL RD.out.2.1 hb hy (by omega)
       have i1:(m:Int)<(k:Int):=by omega
       have i2:(0:Int)<=(m:Int):=by omega
       have wm:IntKind.i64.wrap ((m:Int)+1)=(m:Int)+1:=IntWalk.i64_in _ (by have:=HN.out.2.2.2.2.2.2;omega)
       have nxt:(y<0->prK u.2=false)->∀ (i:Nat) (t:Trm) (z:Int),i<m+1->l[i]? = some t->tk[i]? = some z->z<0->prK t=false:=fun h i t z hi h1 h2 h3=>by
        rcases Nat.lt_or_ge i m with g | g
        ·exact hall i t z g h1 h2 h3
        ·obtain rfl:i=m:=by omega
         rw [hlu] at h1
         rw [hy] at h2
         obtain rfl:=Option.some.inj h1
         obtain rfl:=Option.some.inj h2
         exact h h3
       have HK:=Lib.hid (And.intro hlt hg)
       have NX:=Lib.hid nxt
       have HB1:=Lib.hid hb
       by_cases hy0:y<0
       rotate_left
       ·have f1:decide (y<0)=false:=decide_eq_false hy0
        have REL:=Lib.hid (NX.out fun q=>absurd q hy0)
        clear nxt hall hb hg hm hlt hmk hu hy hlu NX d0 d2
        go_wp2_with fail
        go_roundg (k-(m+1))
        case measure=>have:=HK.out;omega
        case rel=>exact ⟨m+1,by push_cast;rfl,by have:=HK.out;omega,rfl,REL.out,HB1.out⟩
       ·have f1:decide (y<0)=true:=decide_eq_true hy0
        by_cases hk0:u.2.2.1=0
        ·have f2:(u.2.2.1 != 0)=false:=by rw [hk0];rfl
         have REL:=Lib.hid (NX.out fun _=>f2)
         clear nxt hall hb hg hm hlt hmk hu hy hlu NX d0 d2 hk0
         go_wp2_with fail
         go_roundg (k-(m+1))
         case measure=>have:=HK.out;omega
         case rel=>exact ⟨m+1,by push_cast;rfl,by have:=HK.out;omega,rfl,REL.out,HB1.out⟩
        ·have f2:(u.2.2.1 != 0)=true:=by simpa using hk0
         have hany:s.1.any prK=true:=List.any_eq_true.2 ⟨u.2,by rw [BB.out.1.free];exact Zeb hy0 hlu hy,f2⟩
         have hA:=BB.out.2.1
         rw [if_pos hany] at hA
         have FIN:=Lib.hid (show Zbp w (Zy ts) (.returned (.tuple #[.slice none 0 0,.slice none 0 0,.int .i64 1])) w1 by rw [hA];exact Zb0 (BB.out.2.2.2.2.2.2.2.2.1.trans (hb.mono BB.out.2.2.2.2.2.2.2.2.1.size)))
         clear nxt hall hb hg hm hlt hmk hu hy hlu NX d0 d2 hk0 hany hA
         go_wp2_with fail
         go_ret3
         exact FIN.out
    ·have i1:(j:Int)<8:=by omega
     have wj:IntKind.i64.wrap ((j:Int)+1)=(j:Int)+1:=IntWalk.i64_in _ (by omega)
     have FS:=Lib.hid (Znq wr vl vt l tk j D.l.terms (ZdU (D.r (vt,tk) (by simp))) (by rw [B.tl,B.ll]))
     have BB:=Lib.hid B
     have HS1:=Lib.hid (And.intro hs (And.intro sok (And.intro hj8 hg)))
     have DD:=Lib.hid D
     clear hj hg hs B D sok hj8
     go_upto_region 17 with (go_at_call 102;(with_reducible refine FS.out.mono ?_);rintro e w3 ⟨z,rfl,hz,hb3⟩)
     have D3:=Lib.hid (DD.out.keep hb3)
     clear hb3 DD FS
     rcases id hz with ⟨rfl,_⟩ | ⟨i,rfl,_⟩
     ·have hs1:Zat (ts.map ZR) (j+1)=some s:=by rw [Zat,HS1.out.1];exact BB.out.none_ hz
      have REL:=Lib.hid (And.intro hs1 (And.intro BB.out D3.out))
      clear hz hs1 BB D3
      go_wp2_with fail
      go_roundg (8-(j+1))
      case measure=>have:=HS1.out.2.2;omega
      case rel=>exact ⟨j+1,s,l,tk,od,vl,vo,vb,rfl,rfl,rfl,by push_cast;rfl,by have:=HS1.out.2.2;omega,rfl,REL.out.1,REL.out.2.1,REL.out.2.2⟩
     ·obtain ⟨t,kz,ht,hkz,hneg,hp,_,_⟩:=BB.out.found hz
      obtain ⟨g,cap,e,hgb,c0,f0⟩:=D3.out.at_ (x:=(vt,tk)) (by simp) hkz
      dsimp only at e
      subst e
      have i2:¬ (i:Int)<0:=by omega
      have hit:i<tk.length:=Za4 hkz
      have i3:(i:Int)<(tk.length:Int):=by omega
      have i4:(0:Int)<=(i:Int):=by omega
      have tc:=ZoG w3 w.heap.size (ZdI vl [(.slice (some ⟨g,0,none⟩) tk.length cap,tk),(vo,od),(vb,s.2.2)]) vl l i j t D3.out.l (fun b q=>(D3.out.lt b q).2) (BB.out.ok HS1.out.2.1) ht hp (by rw [BB.out.ll];have:=HN.out.2.2.2.2.2.2;omega)
      have HZ:=Lib.hid (And.intro hz ht)
      clear hz ht hkz hneg hp
      by_cases hbad:(ZM t j).2.2≠0\/ZgI ((ZM t j).1,(ZM t j).2.1) j i l
      ·have hs1:Zy ts=(([],[]),2):=ZnF HO.out.2.1 (k:=j+1) (by have:=HS1.out.2.2;omega) (by rw [Zat,HS1.out.1];exact BB.out.over HZ.out.1 HZ.out.2 hbad)
       have TN:=Lib.hid (tc.mono fun e w' h=>ZqB hbad h)
       have FIN:=Lib.hid (fun (w':World) (hb:Below w3.heap.size w3 w')=>show Zbp w (Zy ts) (.returned (.tuple #[.slice none 0 0,.slice none 0 0,.int .i64 2])) w' by rw [hs1];exact Zb0 (D3.out.below.trans (hb.mono D3.out.below.size)))
       clear tc hbad hs1
       go_wp2_with (go_at_call 103;(with_reducible refine TN.out.mono ?_);rintro e w4 ⟨rfl,hb4⟩)
       go_ret3
       exact FIN.out _ hb4
      ·have he:(ZM t j).2.2=0:=Decidable.byContradiction fun q=>hbad (.inl q)
       have TY:=Lib.hid (tc.mono fun e w' h=>ZpW hbad h)
       have HE:=Lib.hid he
       clear tc hbad he
       have CF:=Lib.hid (And.intro c0 (And.intro f0 hit))
       clear c0 f0 hit
       go_upto_region 19 with (go_at_call 103;(with_reducible refine TY.out.mono ?_);rintro e w4 ⟨us,A4,c4,hus,rfl,o4,hb4⟩)
       have D4:=D3.out.take o4 hb4
       obtain ⟨r,hr,B2,hP⟩:=BB.out.next (by omega:(0:Int)<=(j:Int)) HZ.out.1 HZ.out.2 HE.out hus
       have c0:w4.cell? ⟨g,i,none⟩=some (.int .i64 kz):=Zf hb4 (World.block_lt_of_cell? _ _ CF.out.1) CF.out.1
       have f0:w4.frozen? ⟨g,i,none⟩=false:=(hb4.frozen (p:=⟨g,i,none⟩) (World.block_lt_of_cell? _ _ CF.out.1)).trans CF.out.2.1
       have D5:=Lib.hid (RowsS.stored (A:=[]) (i:=i) (z:=j) D4 rfl)
       have HB:=Lib.hid (And.intro (show Zat (ts.map ZR) (j+1)=some r by rw [Zat,HS1.out.1];exact hr) (And.intro B2 hP))
       have HL:=Lib.hid (And.intro (by rw [BB.out.ol,HS1.out.2.1.ql];have:=HS1.out.2.1.k;have:=HS1.out.2.2;omega:od.length<=8) (by have:=HS1.out.2.1.k;have:=HS1.out.2.2;omega:s.2.2.length<=8))
       clear hus o4 hb4 D4 hr B2 hP TY D3 BB HZ HE CF
       go_upto_region 23 with fail
       clear c0 f0
       generalize w4.setCell ⟨g,i,none⟩ (.int .i64 j)=w5 at *
       have D6:=Lib.hid (D5.out.keep (Za w5 (.cells #[.int .i64 i] 3)))
       have ON6:=Lib.hid (And.intro (D6.out.r (vo,od) (by simp)) ((Zav (wo:=w5) (x:=#[.int .i64 (i:Int)]) (ty:=3) (Nat.zero_le _)).reads (size:=1) rfl))
       clear D5
       go_wp2_with (at_builtin;refine Zm _ rfl _ _ 52 rfl w.heap.size 3 iI (.int .i64 0) 1 8 Tryz.underlying52 hiI zI0 zI1 zI2 rfl (by decide) _ od.length (ZbQ od) rfl ON6.out.1 (w5.heap.size+1) (some ⟨w5.heap.size,0,none⟩) 1 1 [.int .i64 i] rfl ON6.out.2 (ZpF i) (by have:=HL.out.1;unfold maxLen;omega) (by have:=HL.out.1;omega) D6.out.below.size ?_)
       intro v7 w7 hown hgrow hat
       have D7:=RowsS.grow (A:=[(.slice (some ⟨g,0,none⟩) tk.length cap,tk.set i j)]) (B:=[(vb,s.2.2)]) (z:=i) D6.out hown hgrow (by rw [World.size_alloc];exact hat)
       have D8:=Lib.hid (D7.keep (Za w7 (.cells #[.int .i64 j] 3)))
       have ON8:=Lib.hid (And.intro (D8.out.r (vb,s.2.2) (by simp)) ((Zav (wo:=w7) (x:=#[.int .i64 (j:Int)]) (ty:=3) (Nat.zero_le _)).reads (size:=1) rfl))
       clear hown hgrow hat D7 D6 ON6
       go_wp2_with (at_builtin;refine Zm _ rfl _ _ 52 rfl w.heap.size 3 iI (.int .i64 0) 1 8 Tryz.underlying52 hiI zI0 zI1 zI2 rfl (by decide) _ s.2.2.length (ZbQ s.2.2) rfl ON8.out.1 (w7.heap.size+1) (some ⟨w7.heap.size,0,none⟩) 1 1 [.int .i64 j] rfl ON8.out.2 (ZpF j) (by have:=HL.out.2;unfold maxLen;omega) (by have:=HL.out.2;omega) D8.out.below.size ?_)
       intro v9 w9 hown hgrow hat
       have D9:=Lib.hid (RowsS.grow (A:=[(.slice (some ⟨g,0,none⟩) tk.length cap,tk.set i j),(v7,od++[(i:Int)])]) (B:=[]) (z:=j) D8.out hown hgrow (by rw [World.size_alloc];exact hat))
       clear hown hgrow hat D8 ON8
       go_wp2_with fail
       go_roundg (8-(j+1))
       case measure=>have:=HS1.out.2.2;omega
       case rel=>exact ⟨j+1,r,us,tk.set i j,od++[(i:Int)],_,v7,v9,rfl,rfl,rfl,by push_cast;rfl,by have:=HS1.out.2.2;omega,rfl,HB.out.1,HB.out.2.1,by rw [HB.out.2.2];exact D9.out⟩
  ·have hlt:k<n:=by omega
   obtain ⟨y,hy⟩:∃ y,rs[k]? = some y:=⟨_,List.getElem?_eq_getElem (by have:=HN.out.1;omega)⟩
   have hyt:ts[k]? = some y.2:=by rw [<- HN.out.2.1,List.getElem?_map,hy];rfl
   obtain ⟨ad,rfl,d0,d1,d2⟩:=ZaZ HN.out.2.2.1 D.below hy (by omega)
   have hr:=(HN.out.2.2.2.1 y (List.mem_of_getElem? hy)).below D.below
   have wy:=HN.out.2.2.2.2.2.1 y.2 (List.mem_of_getElem? hyt)
   have i1:(k:Int)<(n:Int):=by omega
   have i2:(0:Int)<=(k:Int):=by omega
   have wk:IntKind.i64.wrap ((k:Int)+1)=(k:Int)+1:=IntWalk.i64_in _ (by have:=HN.out.2.2.2.2.2.2;omega)
   have rt:=ZaP wr y.1 y.2.1 y.2.2.1 y.2.2.2 hr wy.1 wy.2.1.1 wy.2.1.2 wy.2.2.1 wy.2.2.2
   have HK:=Lib.hid (And.intro hlt hg)
   cases hq:ZO y.2.1 y.2.2.1 y.2.2.2
   ·rw [hq] at rt
    have hw1:Zy ts=(([],[]),2):=Zgn fun q=>by
     have:ZW y.2=true:=by unfold ZW;rw [hq];rfl
     have:=List.any_eq_true.2 ⟨y.2,List.mem_of_getElem? hyt,this⟩
     rw [q.2] at this
     cases this
    have FIN:=Lib.hid (fun (w':World) (hb:Below wr.heap.size wr w')=>show Zbp w (Zy ts) (.returned (.tuple #[.slice none 0 0,.slice none 0 0,.int .i64 2])) w' by rw [hw1];exact Zb0 (D.below.trans (hb.mono D.below.size)))
    have RT:=Lib.hid rt
    clear rt hw1 hq hyt hr wy hy hk hg hall D hkn hlt
    obtain ⟨y0,yl,y1,y2⟩:=y
    dsimp only at *
    go_wp2_with (go_at_call 30;(with_reducible refine RT.out.mono ?_);rintro e w1 ⟨rfl,hb⟩)
    go_ret3
    exact FIN.out _ hb
   ·rw [hq] at rt
    have all2:∀ t∈ts.take (k+1),ZW t=false:=fun t ht=>by
     rw [List.take_add_one,hyt] at ht
     rcases List.mem_append.1 ht with g | g
     ·exact hall t g
     ·have:t=y.2:=by simpa using g
      rw [this]
      unfold ZW
      rw [hq]
      rfl
    have tk2:(ts.take (k+1)).map ZR=(ts.take k).map ZR++[ZR y.2]:=by rw [List.take_add_one,hyt,List.map_append];rfl
    have ow:=fun (w':World) (hb:Below wr.heap.size wr w')=>Zev w' y.1 y.2.1 y.2.2.1 y.2.2.2 (hr.below hb) wy.1 wy.2.1.1 wy.2.1.2 wy.2.2.1 wy.2.2.2 hq
    have hlen:((ts.take k).map ZR).length=k:=by rw [List.length_map,List.length_take];have:=HN.out.2.2.2.2.1;omega
    have CE:=Lib.hid (fun (w':World) (hb:Below wr.heap.size wr w')=>(And.intro ((hb.cell (p:=ad.add (k*3)) (World.block_lt_of_cell? _ _ d0)).trans d0) (And.intro ((hb.cell (p:=⟨(ad.add (k*3)).block,(ad.add (k*3)).off+1,none⟩) (World.block_lt_of_cell? _ _ d1)).trans d1) ((hb.cell (p:=⟨(ad.add (k*3)).block,(ad.add (k*3)).off+2,none⟩) (World.block_lt_of_cell? _ _ d2)).trans d2))))
    have RT:=Lib.hid rt;have OWN:=Lib.hid ow;have DD:=Lib.hid D
    have NX:=Lib.hid (And.intro all2 (And.intro tk2 hlen))
    have LK:=Lib.hid (And.intro (by have:=HN.out.2.2.2.2.2.2;unfold maxLen;omega:k+1<=maxLen) (by have:=HN.out.2.2.2.2.2.2;omega:(k+1)*40<=140737488355328))
    clear rt ow hyt hr wy hy hk hg hall D hkn hlt hq all2 tk2 hlen
    obtain ⟨y0,yl,y1,y2⟩:=y
    dsimp only at *
    go_upto_region 10 with (go_at_call 30;(with_reducible refine RT.out.mono ?_);rintro e w1 ⟨rfl,hb1⟩;obtain ⟨c0,c1,c2⟩:=CE.out _ hb1;clear d0 d1 d2)
    go_wp2_with (first
     | (go_at_call 42;(with_reducible refine (OWN.out _ hb1).mono ?_);rintro e w2 ⟨vy,rfl,hvy,hb2,fr2⟩;obtain ⟨Ay,cy,rfl⟩:=Zd hvy;have QW:=Lib.hid (Zm0 (t:=(Zw yl,y1,y2)) (kn:=y1) (kd:=y2) DD.out hb1 hb2 NX.out.2.2 hvy fr2 27);clear hvy hb2 fr2;obtain ⟨rs2,QV⟩:=QW.out;have QW:=Lib.hid QV;clear QV)
     | (at_builtin;refine Zm _ rfl _ _ 49 rfl w.heap.size 27 iT (.agg #[.slice none 0 0,.int .i64 0,.int .i64 0]) 3 40 Tryz.underlying49 hiT zT0 zT1 zT2 rfl (by decide) _ k (Zg rs2) rfl QW.out.2.1 (w2.heap.size+1) (some ⟨w2.heap.size,0,none⟩) 1 1 [.slice Ay (Zw yl).length cy,.int .i64 y1,.int .i64 y2] rfl QW.out.2.2.2.2.2.2 (Zq6 _ _ _ _ _) LK.out.1 LK.out.2 QW.out.2.2.2.1.below.size ?_))
    intro v8 w8 hown hgrow hat
    have D8:=RowsS.push (t:=(Zw yl,y1,y2)) QW.out.2.2.2.1 QW.out.1 QW.out.2.2.1 (by rw [NX.out.2.2];exact hown) hgrow (by rw [World.size_alloc];exact hat) QW.out.2.2.2.2.1 QW.out.2.2.2.2.2.1
    rw [<- show (ts.take (k+1)).map ZR=(ts.take k).map ZR++[(Zw yl,y1,y2)] from NX.out.2.1] at D8
    have D9:=Lib.hid (D8.keep (Za w8 (.cells #[.int .i64 (-1)] 3)))
    have ON:=Lib.hid (And.intro (show (w8.alloc (.cells #[.int .i64 (-1)] 3)).ownsRow w.heap.size 3 1 vt k (ZbQ (List.replicate k (-1))) from by have q:=D9.out.r (vt,List.replicate k (-1)) (by simp);rw [List.length_replicate] at q;exact q) ((Zav (wo:=w8) (x:=#[.int .i64 (-1:Int)]) (ty:=3) (Nat.zero_le _)).reads (size:=1) rfl))
    clear hown hgrow hat D8 QW
    go_wp2_with (at_builtin;refine Zm _ rfl _ _ 52 rfl w.heap.size 3 iI (.int .i64 0) 1 8 Tryz.underlying52 hiI zI0 zI1 zI2 rfl (by decide) _ k (ZbQ (List.replicate k (-1))) rfl ON.out.1 (w8.heap.size+1) (some ⟨w8.heap.size,0,none⟩) 1 1 [.int .i64 (-1)] rfl ON.out.2 (ZpF (-1)) LK.out.1 (by have:=LK.out.2;omega) D9.out.below.size ?_)
    intro v9 w9 hown hgrow hat
    have D10:=Lib.hid (RowsS.grow (A:=[]) (B:=[]) (z:=-1) D9.out (by rw [List.length_replicate];exact hown) hgrow (by rw [World.size_alloc];exact hat))
    clear hown hgrow hat ON D9
    go_wp2_with fail
    go_roundg (n-(k+1))
    case measure=>have:=HK.out;omega
    case rel=>exact ⟨k+1,v8,v9,rfl,rfl,by push_cast;rfl,by have:=HK.out;omega,rfl,NX.out.1,by rw [List.replicate_succ'];exact D10.out⟩
theorem Znw (w:World) (v:Value) (ts:List Trm) (h:Zal w v ts) (hw:∀ t∈ts,Zv t.1/\Bd t.2):Calls Tryz.prog 78 #[v] w (Zbp w (Zy ts)):=by
 by_cases hl:ts.length<=400
 ·exact ZoF w v ts h hw hl
 ·exact Znx w v ts h hl
end
end Go.Proofs.YtolookeddknmoaaGreat
